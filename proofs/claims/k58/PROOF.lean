import PyProof.Rows.All
import Wide.All
import OpenK.AllK
import Wide.FinOn
import Lean
import PyProof.EqAt
import PyProof.EqKinds
import PyProof.TupleCall
import KE.KRevSl
import PyProof.NeData
import PyProof.P3Eq
import PyProof.Rows.Range3
import PyProof.EnumMake
import PyProof.Draws
import PyProof.ZipIter
import KE.KDictList
import KE.KDictSum
import PyProof.WalkInts
import PyProof.Rows.SeqCalls
import PySem.Challenge.RW_rootprime_k58_whole_right_powers_are_let
set_option Elab.async false
set_option linter.all false
set_option maxRecDepth 100000
namespace L2
open PySem PySem.Spec PyProof.Rows
abbrev Key:=Sum Int Str
def lN:Key→Value→Bool
 | .inl k,v=>Value.isInt k v
 | .inr x,v=>Value.isStrOf x v
def Dq (w:World):Key→Int
 | .inl k=>hashInt k
 | .inr x=>hashStr w x
theorem bE:∀{k:Key} {v:Value},lN k v=true→(∃ i t,k=Sum.inl i∧v=Value.int i t)∨(∃ x t,k=Sum.inr x∧v=Value.str x t)
 | .inl i,v,h=>by
  obtain⟨t,e⟩:=Value.isInt_shape (k:=i) (v:=v) h
  exact .inl ⟨i,t,rfl,e⟩
 | .inr x,v,h=>by
  obtain⟨t,e⟩:=Value.isStrOf_shape (x:=x) (v:=v) h
  exact .inr ⟨x,t,rfl,e⟩
theorem tX (i:Int) (t:Tok):lN (.inl i) (.int i t)=true:=by simp [lN,Value.isInt]
theorem tY (x:Str) (t:Tok):lN (.inr x) (.str x t)=true:=by simp [lN,Value.isStrOf]
theorem AL (a b:Int):decide ((Sum.inl a:Key)=Sum.inl b)=(a==b):=by
 by_cases e:a=b
 ·subst e;simp
 ·have h:¬(Sum.inl a:Key)=Sum.inl b:=fun q=>e (Sum.inl.inj q)
  rw [decide_eq_false h]
  exact (beq_eq_false_iff_ne.mpr e).symm
theorem AO (a b:Str):decide ((Sum.inr a:Key)=Sum.inr b)=decide (a=b):=by
 by_cases e:a=b
 ·subst e;simp
 ·have h:¬(Sum.inr a:Key)=Sum.inr b:=fun q=>e (Sum.inr.inj q)
  rw [decide_eq_false h,decide_eq_false e]
theorem AM (a:Int) (b:Str):decide ((Sum.inl a:Key)=Sum.inr b)=false:=decide_eq_false (fun q=>nomatch q)
theorem AN (a:Str) (b:Int):decide ((Sum.inr a:Key)=Sum.inl b)=false:=decide_eq_false (fun q=>nomatch q)
def bF (prog:Program) (w:World):PySem.KeyKind prog w Key where
 is:=lN
 hash:=Dq w
 inj:=fun v a b ha hb=>by
  rcases bE ha with⟨i,t,rfl,rfl⟩|⟨x,t,rfl,rfl⟩
  ·rcases bE hb with⟨j,u,rfl,e⟩|⟨y,u,rfl,e⟩
   ·injection e with e1 _;rw [e1]
   ·exact nomatch e
  ·rcases bE hb with⟨j,u,rfl,e⟩|⟨y,u,rfl,e⟩
   ·exact nomatch e
   ·injection e with e1 _;rw [e1]
 byValue:=fun k v h=>by
  rcases bE h with⟨i,t,rfl,rfl⟩|⟨x,t,rfl,rfl⟩<;>rfl
 pyHash:=fun hv h=>by
  rcases bE hv with⟨i,t,rfl,rfl⟩|⟨x,t,rfl,rfl⟩
  ·exact wpAny_pyHash_int h
  ·exact wpAny_pyHash_str h
 eqBool:=fun hu hv h=>by
  rcases bE hu with⟨i,t,rfl,rfl⟩|⟨x,t,rfl,rfl⟩
  ·rcases bE hv with⟨j,u,rfl,rfl⟩|⟨y,u,rfl,rfl⟩
   ·rw [AL] at h;exact wpAny_eqBool_int h
   ·rw [AM] at h;exact SeqAt.EqAt.int_str i t y u _ _ _ _ h
  ·rcases bE hv with⟨j,u,rfl,rfl⟩|⟨y,u,rfl,rfl⟩
   ·rw [AN] at h;exact SeqAt.EqAt.str_int x t j u _ _ _ _ h
   ·rw [AO] at h;exact wpAny_eqBool_str h
 «strs»:=fun k x t v h=>by
  rcases bE h with⟨i,u,rfl,e⟩|⟨y,u,rfl,e⟩
  ·exact nomatch e
  ·injection e with e1 _
   subst e1
   cases v<;>rfl
theorem oU (prog:Program) (w:World) (i:Int) (t:Tok):(bF prog w).is (.inl i) (.int i t)=true:=tX i t
theorem oV (prog:Program) (w:World) (x:Str) (t:Tok):(bF prog w).is (.inr x) (.str x t)=true:=tY x t
end L2
namespace L2
open PySem PySem.Spec PyProof.Rows
inductive V where
 | non | bl (b:Bool) | int (i:Int) | str (x:Str) | byt (b:Array UInt8) | flt (b:UInt64) | ref (a:Addr) | ty (n:String)
 deriving DecidableEq
def RelV:V→Value→Prop
 | .non,u=>u=Value.none
 | .bl b,u=>u=Value.bool b
 | .int i,u=>∃ t,u=Value.int i t
 | .str x,u=>∃ t,u=Value.str x t
 | .byt b,u=>∃ t,u=Value.bytes b t
 | .flt b,u=>∃ t,u=Value.float b t
 | .ref a,u=>u=Value.ref a
 | .ty n,u=>u=Value.type n
abbrev Vals:List V→List Value→Prop:=Paired RelV
theorem Vals.length {xs:List V} {us:List Value} (r:Vals xs us):xs.length=us.length:=Paired.length r
theorem Vals.get:∀{xs:List V} {us:List Value} {i:Nat} {x:V},Vals xs us→xs[i]?=some x→∃ u,us[i]?=some u∧RelV x u
 | _,_,_,_,.nil,e=>by simp at e
 | _,_,0,_,.cons r _,e=>by simp at e;subst e;exact⟨_,rfl,r⟩
 | _,_,i+1,x,.cons _ t,e=>by
  obtain⟨u,h1,h2⟩:=Vals.get (i:=i) (x:=x) t (by simpa using e)
  exact⟨u,by simpa using h1,h2⟩
theorem Vals.append:∀{xs ys:List V} {us ws:List Value},Vals xs us→Vals ys ws→Vals (xs++ys) (us++ws)
 | _,_,_,_,.nil,s=>s
 | _,_,_,_,.cons r t,s=>.cons r (Vals.append t s)
theorem Vals.take:∀{xs:List V} {us:List Value} (n:Nat),Vals xs us→Vals (xs.take n) (us.take n)
 | _,_,0,_=>.nil
 | _,_,_+1,.nil=>.nil
 | _,_,n+1,.cons r t=>.cons r (Vals.take n t)
theorem Vals.drop:∀{xs:List V} {us:List Value} (n:Nat),Vals xs us→Vals (xs.drop n) (us.drop n)
 | _,_,0,r=>r
 | _,_,_+1,.nil=>.nil
 | _,_,n+1,.cons _ t=>Vals.drop n t
def eF:Option V→Option Value→Prop
 | some v,some u=>RelV v u
 | none,none=>True
 | _,_=>False
def KV {κ:Type}:List (κ × V)→List (κ × Value)→Prop:=Paired fun(p:κ × V) (q:κ × Value)=>p.1=q.1∧RelV p.2 q.2
def kV:Key→V
 | .inl i=>.int i
 | .inr x=>.str x
inductive HO where
  | lst (xs:List V)
  | tup (xs:List V)
  | dK (kvs:List (Key × V)) | dT (kvs:List (List Key × V))
  | set (S:Int→Bool) (n:Nat)
  | ins (C dx:Addr) (fs:List (Str × V))
  | own (x:Addr)
  | xd (fs:List (Str × V))
  | met (f x:Addr)
  | rng (lo hi:Int)
  | frz (o:Obj) (u:HO)
  | tbl (ps:Array Value)
  | ext (φ:Heap→Prop)
abbrev Hp:=Addr→Option HO
def upd (H:Hp) (a:Addr) (o:HO):Hp:=fun b=>if b=a then some o else H b
theorem ag {H:Hp} {a:Addr} {o:HO}:upd H a o a=some o:=by unfold upd;rw [if_pos rfl]
theorem aq {H:Hp} {a b:Addr} {o:HO} (h:b≠a):upd H a o b=H b:=by unfold upd;rw [if_neg h]
theorem zB {H:Hp} {a:Addr} {o u:HO}:upd (upd H a o) a u=upd H a u:=by
 funext b;unfold upd;split<;>rfl
theorem eO {H:Hp} {a b:Addr} {o u:HO} (h:H a=some o) (h':H b=some u) (d:o≠u):a≠b:=by
 intro e;subst e;rw [h] at h';exact d (Option.some.inj h')
theorem bf {H:Hp} {a b:Addr} {o:HO} (h:H a=some o) (h':H b=none):a≠b:=by
 intro e;subst e;rw [h] at h';cases h'
section
variable (P:Program) (w:World)
def bo (H:Hp) (h:Heap) (a:Addr):HO→Prop
 | .lst xs=>xs.length≤sizeLine∧∃(its:List Value) (n:Nat),Vals xs its∧h.get? a=some { cls:=.type "list",data:=.seq its.toArray n }
 | .tup xs=>xs.length≤sizeLine∧∃ its:List Value,Vals xs its∧IsTup h a its.toArray
 | .dK kvs=>kvs.length≤sizeLine∧(a==sysModules)=false∧∃ vs,KV kvs vs∧h.DictOf (bF P w) a vs
 | .dT kvs=>kvs.length≤sizeLine∧(a==sysModules)=false∧∃ xs:List (List Key × Addr × Value),
   Paired (fun(p:List Key × V) (q:List Key × Addr × Value)=>p.1=q.1∧H q.2.1=some (.tup (p.1.map kV))∧RelV p.2 q.2.2) kvs xs ∧
   ∃ o es ep,h.get? a=some o∧o.ExactDict∧o.data=.dict es ep∧es.toList=xs.map (entryOfKey (tupleKind (bF P w)))∧(xs.map (·.1)).Nodup
 | .set S n=>h.SetOf (intKind P w) a S n
 | .ins C dx fs=>H dx=some (.own a)∧fs.length≤1000∧dx≠a∧h.get? a=some (PySem.W.instObj C dx) ∧
   ∃ mA,h.Ns1 dx mA∧(∀ f,eF (fs.lookup f) (mA f))∧PySem.Within mA (fs.map (·.1))
 | .own _=>∃ o,h.get? a=some o
 | .xd fs=>∃ mA,h.Ns1 a mA∧∀ f,eF (fs.lookup f) (mA f)
 | .rng lo hi=>∃ t u v,h.get? a=some { cls:=.type "range",data:=.fields #[.int lo t,.int hi u,.int 1 v] }
 | .frz o u=>h.get? a=some o∧bo H h a u
 | .tbl ps=>h.get? a=some { cls:=.none,data:=.fields ps }
 | .met f x=>h.get? a=some (PySem.W.methodObj (.ref f) (.ref x))
 | .ext φ=>φ h∧(∃ o,h.get? a=some o)∧∀ h1 h2:Heap,φ h1→(∀ o,h1.get? a=some o→h2.get? a=some o)→φ h2
def fF (H:Hp) (h:Heap):Prop:=∀ a o,H a=some o→bo P w H h a o
end
section
variable {P:Program} {w:World} {H H':Hp} {h h':Heap} {a:Addr} {o:HO}
theorem bo.lt (x:bo P w H h a o):a<h.objs.size:=by
 cases o with
 | lst xs=>obtain⟨_,_,_,_,e⟩:=x;exact Heap.lt_size e
 | tup xs=>obtain⟨_,_,_,p⟩:=x;exact p.lt
 | dK kvs=>obtain⟨_,_,_,_,o,_,_,e,_⟩:=x;exact Heap.lt_size e
 | dT kvs=>obtain⟨_,_,_,_,o,_,_,e,_⟩:=x;exact Heap.lt_size e
 | set S n=>obtain⟨o,_,_,_,e,_⟩:=x;exact Heap.lt_size e
 | ins C dx fs=>obtain⟨_,_,_,e,_⟩:=x;exact Heap.lt_size e
 | own y=>obtain⟨_,e⟩:=x;exact Heap.lt_size e
 | xd fs=>obtain⟨_,⟨_,_,_,e,_⟩,_⟩:=x;exact Heap.lt_size e
 | rng lo hi=>obtain⟨_,_,_,e⟩:=x;exact Heap.lt_size e
 | frz ob u=>obtain⟨e,_⟩:=x;exact Heap.lt_size e
 | tbl ps=>exact Heap.lt_size (show h.get? a=some _ from x)
 | met f y=>exact Heap.lt_size (show h.get? a=some _ from x)
 | ext φ=>obtain⟨_,⟨_,e⟩,_⟩:=x;exact Heap.lt_size e
theorem Paired.AV {α β:Type} {F G:α→β→Prop}:∀{l₁:List α} {l₂:List β},Paired F l₁ l₂→(∀ a b,F a b→G a b)→Paired G l₁ l₂
 | _,_,.nil,_=>.nil
 | _,_,.cons r t,f=>.cons (f _ _ r) (Paired.AV t f)
theorem bo.gE (x:bo P w H h a o) (k:∀ b u,(b=a∨H b=some (.own a))→h.get? b=some u→h'.get? b=some u)
  (ho:∀ b,H b=some (.own a)→H' b=some (.own a)) (ht:∀ b xs,H b=some (.tup xs)→H' b=some (.tup xs)):bo P w H' h' a o:=by
 induction o with
 | lst xs=>obtain⟨z,its,n,r,e⟩:=x;exact⟨z,its,n,r,k _ _ (.inl rfl) e⟩
 | tup xs=>obtain⟨z,its,r,ob,e,c⟩:=x;exact⟨z,its,r,ob,k _ _ (.inl rfl) e,c⟩
 | dK kvs=>obtain⟨z,y,vs,r,ob,es,ep,e,c⟩:=x;exact⟨z,y,vs,r,ob,es,ep,k _ _ (.inl rfl) e,c⟩
 | dT kvs =>
  obtain⟨z,y,xs,r,ob,es,ep,e,c⟩:=x
  exact⟨z,y,xs,Paired.AV r fun p q z=>⟨z.1,ht _ _ z.2.1,z.2.2⟩,ob,es,ep,k _ _ (.inl rfl) e,c⟩
 | set S n=>obtain⟨ob,es,ep,t,e,c⟩:=x;exact⟨ob,es,ep,t,k _ _ (.inl rfl) e,c⟩
 | ins C dx fs =>
  obtain⟨d,z,ne,e,mA,⟨od,es,ep,e2,c⟩,r⟩:=x
  exact⟨ho _ d,z,ne,k _ _ (.inl rfl) e,mA,⟨od,es,ep,k _ _ (.inr d) e2,c⟩,r⟩
 | own y=>obtain⟨ob,e⟩:=x;exact⟨ob,k _ _ (.inl rfl) e⟩
 | xd fs=>obtain⟨mA,⟨od,es,ep,e,c⟩,r⟩:=x;exact⟨mA,⟨od,es,ep,k _ _ (.inl rfl) e,c⟩,r⟩
 | rng lo hi=>obtain⟨t,u,v,e⟩:=x;exact⟨t,u,v,k _ _ (.inl rfl) e⟩
 | frz ob u ih=>obtain⟨e,q⟩:=x;exact⟨k _ _ (.inl rfl) e,ih q⟩
 | tbl ps =>
  have e:h.get? a=some { cls:=.none,data:=.fields ps }:=x
  show h'.get? a=some { cls:=.none,data:=.fields ps }
  exact k a _ (.inl rfl) e
 | met f y =>
  have e:h.get? a=some (PySem.W.methodObj (.ref f) (.ref y)):=x
  show h'.get? a=some (PySem.W.methodObj (.ref f) (.ref y))
  exact k a _ (.inl rfl) e
 | ext φ=>obtain⟨p,⟨o,e⟩,st⟩:=x;exact⟨st _ _ p fun o q=>k _ _ (.inl rfl) q,⟨o,k _ _ (.inl rfl) e⟩,st⟩
theorem fF.lt (x:fF P w H h) (e:H a=some o):a<h.objs.size:=(x a o e).lt
theorem fF.fresh (x:fF P w H h) (e:h.objs.size≤a):H a=none:=by
 cases q:H a with
 | none=>rfl
 | some u=>exact absurd (Nat.lt_of_lt_of_le (x.lt q) e) (Nat.lt_irrefl _)
theorem fF.kept (x:fF P w H h) (k:∀ b u,h.get? b=some u→h'.get? b=some u):fF P w H h':=fun a o e =>
 (x a o e).gE (fun b u _ q=>k b u q) (fun _ q=>q) fun _ _ q=>q
theorem fF.laid (x:fF P w H h) (k:∀ b u,h.get? b=some u→h'.get? b=some u) (hp:h.objs.size≤a) (new:bo P w (upd H a o) h' a o):fF P w (upd H a o) h':=fun b u e=>by
 have hn:=x.fresh hp
 by_cases hb:b=a
 ·subst hb;rw [ag] at e;cases e;exact new
 ·rw [aq hb] at e
  exact (x b u e).gE (fun c v _ q=>k c v q) (fun c q=>by rw [aq (bf q hn)];exact q) fun c xs q=>by rw [aq (bf q hn)];exact q
end
def Rd (H:Hp) (a:Addr) (u:HO):Prop:=H a=some u∨∃ o,H a=some (.frz o u)
theorem Rd.ok {P:Program} {w:World} {H:Hp} {h:Heap} {a:Addr} {u:HO} (r:Rd H a u) (x:fF P w H h):bo P w H h a u:=by
 rcases r with r | ⟨o,r⟩
 ·exact x a u r
 ·obtain⟨_,q⟩:=x a _ r
  exact q
def B7:Option HO→Prop
 | some (.lst _)=>True
 | some (.dK _)=>True
 | some (.dT _)=>True
 | some (.set _ _)=>True
 | some (.ins _ _ _)=>True
 | some (.ext _)=>True
 | _=>False
section
variable {P:Program} {w:World} {H:Hp} {h h':Heap} {x e:Addr} {o':HO}
theorem fF.write (ok:fF P w H h) (mu:B7 (H x)) (he:e=x∨H e=some (.own x)) (k:∀ b u,b≠e→h.get? b=some u→h'.get? b=some u) (heo:∃ u,h'.get? e=some u)
  (new:bo P w (upd H x o') h' x o'):fF P w (upd H x o') h':=fun b u q=>by
 have nown:∀ c y,H c=some (.own y)→c≠x:=fun c y r z=>by subst z;rw [r] at mu;exact mu
 have ntup:∀ c xs,H c=some (.tup xs)→c≠x:=fun c xs r z=>by subst z;rw [r] at mu;exact mu
 by_cases hb:b=x
 ·subst hb;rw [ag] at q;cases q;exact new
 ·rw [aq hb] at q
  by_cases hbe:b=e
  ·have q':H b=some (.own x):=by
    rcases he with z | z
    ·exact absurd (hbe.trans z) hb
    ·rw [hbe];exact z
   rw [q] at q';cases q'
   obtain⟨v,hv⟩:=heo
   exact⟨v,by rw [hbe];exact hv⟩
  ·refine (ok b u q).gE (fun c v hc r=>k c v ?_ r) (fun c r=>by rw [aq (nown c b r)];exact r) fun c xs r=>by rw [aq (ntup c xs r)];exact r
   rcases hc with rfl | hc
   ·exact hbe
   ·rintro rfl
    rcases he with z | z
    ·exact nown c b hc z
    ·rw [hc] at z;cases z;exact hb rfl
end
structure Un (fs ex:List Addr) (H H':Hp) (h h':Heap):Prop where
 keep:∀ b o,h.get? b=some o→H b=none→b∉fs→b∉ex→h'.get? b=some o
 slot:∀ b o,h.get? b=some o→H b=none→b∈fs→b∉ex→∃ sl,h'.get? b=some { o with slots:=sl }
 free:∀ b o,h.get? b=some o→H b=none→b∉ex→H' b=none
 there:∀ b o,h.get? b=some o→b∉ex→∃ o',h'.get? b=some o'
 tups:∀ b xs,H b=some (.tup xs)→H' b=some (.tup xs)
 frzs:∀ b o u,H b=some (.frz o u)→H' b=some (.frz o u)
 tbls:∀ b ps,H b=some (.tbl ps)→∃ more,H' b=some (.tbl (ps++more))
section
variable {fs fs' ex ex':List Addr} {H H1 H2:Hp} {h h1 h2 h':Heap} {a x e:Addr} {o:HO}
theorem Un.any (u:Un fs ex H H1 h h1) {b:Addr} {ob:Obj} (q:h.get? b=some ob) (n:H b=none) (hx:b∉ex):∃ sl,h1.get? b=some { ob with slots:=sl }:=by
 by_cases hb:b∈fs
 ·exact u.slot b ob q n hb hx
 ·exact⟨ob.slots,u.keep b ob q n hb hx⟩
theorem Un.kept (k:∀ b u,h.get? b=some u→h'.get? b=some u):Un fs ex H H h h' :=
 ⟨fun b ob q _ _ _=>k b ob q,fun b ob q _ _ _=>⟨ob.slots,k b ob q⟩,fun _ _ _ n _=>n,fun b ob q _=>⟨ob,k b ob q⟩,fun _ _ q=>q,fun _ _ _ q=>q,fun _ ps q=>⟨#[],by rw [q];simp⟩⟩
theorem Un.refl:Un fs ex H H h h:=Un.kept fun _ _ q=>q
theorem Un.laid (k:∀ b u,h.get? b=some u→h'.get? b=some u) (hp:h.objs.size≤a) (hn:H a=none):Un fs ex H (upd H a o) h h' where
 keep:=fun b u q _ _ _=>k b u q
 slot:=fun b u q _ _ _=>⟨u.slots,k b u q⟩
 free:=fun b u q n _=>by rw [aq (Nat.ne_of_lt (Nat.lt_of_lt_of_le (Heap.lt_size q) hp))];exact n
 there:=fun b u q _=>⟨u,k b u q⟩
 tups:=fun b xs q=>by rw [aq (bf q hn)];exact q
 frzs:=fun b u xs q=>by rw [aq (bf q hn)];exact q
 tbls:=fun b ps q=>⟨#[],by rw [aq (bf q hn),q];simp⟩
theorem Un.write (mu:B7 (H x)) (he:e=x∨H e=some (.own x)) (k:∀ b u,b≠e→h.get? b=some u→h'.get? b=some u) (heo:∃ u,h'.get? e=some u):Un fs ex H (upd H x o) h h':=by
 have hx:∀ b,H b=none→b≠x:=fun b n z=>by subst z;rw [n] at mu;exact mu
 have hb:∀ b,H b=none→b≠e:=fun b n z=>by
  subst z
  rcases he with r | r
  ·exact hx b n r
  ·rw [n] at r;cases r
 have hm:∀ b u,H b=some u→¬B7 (some u)→b≠x:=fun b u q nm z=>by subst z;rw [q] at mu;exact nm mu
 refine⟨fun b u q n _ _=>k b u (hb b n) q,fun b u q n _ _=>⟨u.slots,k b u (hb b n) q⟩,fun b u q n _=>by rw [aq (hx b n)];exact n,fun b u q _=>?_,
  fun b xs q=>by rw [aq (hm b _ q fun z=>z)];exact q,fun b u xs q=>by rw [aq (hm b _ q fun z=>z)];exact q,fun b ps q=>⟨#[],by rw [aq (hm b _ q fun z=>z),q];simp⟩⟩
 by_cases hbe:b=e
 ·subst hbe;exact heo
 ·exact⟨u,k b u hbe q⟩
end
def C5 (h:Heap) (H:Hp):List Addr:=(List.range h.objs.size).filter fun a=>(H a).isSome
def mH (h:Heap) (H:Hp):Heap:=PySem.W.hideAll h (C5 h H)
theorem tR (h:Heap) (H:Hp):(mH h H).objs.size=h.objs.size:=PySem.W.hideAll_size _ _
theorem vx {h:Heap} {H:Hp} {b:Addr} {o:Obj} (e:h.get? b=some o) (n:H b=none):(mH h H).get? b=some o :=
 PySem.W.hideAll_get _ e fun hm=>by
  have q:(H b).isSome=true:=(List.mem_filter.mp hm).2
  rw [n] at q;simp at q
theorem yE {h:Heap} {H:Hp} {b:Addr} {o:Obj} (e:(mH h H).get? b=some o):h.get? b=some o∧H b=none:=by
 have e':h.get? b=some o:=PySem.W.of_hideAll (C5 h H) e
 refine⟨e',?_⟩
 cases q:H b with
 | none=>rfl
 | some x =>
  have hm:b∈C5 h H:=List.mem_filter.mpr ⟨List.mem_range.mpr (Heap.lt_size e'),by simp [q]⟩
  have z:(mH h H).get? b=none:=PySem.W.hideAll_none (C5 h H) hm
  rw [z] at e;cases e
def ye (g h:Heap) (L:Addr):List (Addr × Obj):=(List.range h.objs.size).filterMap fun a=>if a=L∨(g.get? a).isSome=true then none else (h.get? a).map fun o=>(a,o)
def rest (g h:Heap) (L d:Addr):List (Addr × Obj):=(ye g h L).filter fun p=>decide (p.1≠d)
end L2
namespace L2
open PySem PySem.Spec PyProof.Rows
structure Mod (K:PySem.W.Frag) (mg:Str→Option Value) (base:Heap):Prop where
 kin:K.In base
 glob:base.Ns mainGlobals mg
 blt:∃ mb,base.Ns builtinsNs mb∧∀ x:Str,x ≠ "__name__"→mb x=bootBuiltins x
 nolimit:base.NoLimit
structure Cx where
 prog:Program
 w:World
 K:PySem.W.Frag
 mg:Str→Option Value
 base:Heap
 A:Around
 N:List Str
 s₀:Shared
 H₀:Hp
 env:Env
 outer:List Env
 stack:List Env
 ex:List Addr
 fn:Str→Bool
 calm:Bool
 pn:List (Addr × Obj)
 xe:Value→Shared→Prop
def gD (l:List Env):List Addr:=l.filterMap (·.frame)
abbrev Cx.fs (X:Cx):List Addr:=gD X.outer
def BU (sc:Scope) (x:Str):Prop:=sc.names.lookup x=some .local∨sc.names.lookup x=some .cell∨sc.names.lookup x=some .free
def Loc (sc:Scope) (x:Str):Prop:=sc.names.lookup x=some .local∨sc.names.lookup x=some .cell
def Look (env:Env) (h:Heap) (m:Str→Option Value) (x:Str) (u:Value):Prop :=
 (env.kindOf x=some .local∧m x=some u)∨((env.kindOf x=some .cell∨env.kindOf x=some .free)∧∃ c,env.cells.lookup x=some c∧h.IsCell c (some u))
structure Cx.Ok (X:Cx):Prop where
 mod:Mod X.K X.mg X.base
 kind:X.env.scope.kind=.function
 glob:X.env.globals=mainGlobals
 blt:X.env.builtins=builtinsNs
 above:X.s₀.heap.objs.size≤X.env.locals
 inj:∀ x y c,X.env.cells.lookup x=some c→X.env.cells.lookup y=some c→x=y
 has:∀ x,(X.env.kindOf x=some .cell∨X.env.kindOf x=some .free)→∃ c,X.env.cells.lookup x=some c
 cab:∀ x c,X.fn x=true→X.env.cells.lookup x=some c→X.s₀.heap.objs.size≤c
 hd:X.calm=true→X.A.handled=none
 frames:X.A.frames=some X.stack
 stk:X.stack=X.outer∨(X.stack=X.env::X.outer∧X.env.frame=some X.env.locals)
 exf:∀ b∈X.ex,b≠X.env.locals∧∀ x c,X.env.cells.lookup x=some c→c≠b
 bs:∀ b o,X.base.get? b=some o→X.s₀.heap.get? b=some o∧X.H₀ b=none
 bsz:X.base.objs.size≤X.s₀.heap.objs.size
 noex:∀ b o,X.base.get? b=some o→b∉X.ex
 exfs:∀ b∈X.ex,b∉X.fs
 iS:X.s₀.heap.FunFrames X.base X.outer
 frf:∀ b∈X.fs,X.H₀ b=none
structure Inv (X:Cx) (pins:List (Addr × Obj)) (σ:List (Option V)) (H:Hp) (s:Shared):Prop where
 ok:X.Ok
 os:s.os=X.s₀.os
 bare:AllBare s.gens
 base:Un X.fs X.ex X.H₀ H X.s₀.heap s.heap
 loc:∃ m,s.heap.Ns X.env.locals m∧∀(i:Nat) (x:Str) (v:V),X.N[i]?=some x→σ[i]?=some (some v)→BU X.env.scope x→∃ u,RelV v u∧Look X.env s.heap m x u
 cell:∀ x c,X.env.cells.lookup x=some c→∃ v,s.heap.IsCell c v
 free:H X.env.locals=none
 freeC:∀ x c,X.env.cells.lookup x=some c→H c=none
 pin:∀ p∈X.pn++pins,s.heap.get? p.1=some p.2∧H p.1=none∧p.1≠X.env.locals∧p.1∉X.fs∧∀ v,p.2.data≠.cell v
 hok:fF X.prog X.w H s.heap
 len:σ.length=X.N.length
section
variable {X:Cx} {pins:List (Addr × Obj)} {σ:List (Option V)} {H H':Hp} {s:Shared} {h':Heap}
theorem Cx.Ok.Du (ok:X.Ok) {b:Addr} {o:Obj} (e:X.base.get? b=some o):b∉X.fs:=fun hb=>by
 have:=(ok.iS.mem hb).1
 rw [e] at this;cases this
theorem Inv.bs (I:Inv X pins σ H s):∀ b o,X.base.get? b=some o→s.heap.get? b=some o∧H b=none:=fun b o e =>
 ⟨I.base.keep b o (I.ok.bs b o e).1 (I.ok.bs b o e).2 (I.ok.Du e) (I.ok.noex b o e),I.base.free b o (I.ok.bs b o e).1 (I.ok.bs b o e).2 (I.ok.noex b o e)⟩
theorem Inv.bk (I:Inv X pins σ H s):∀ b o,X.base.get? b=some o→s.heap.get? b=some o:=fun b o e=>(I.bs b o e).1
theorem Inv.mod (I:Inv X pins σ H s):Mod X.K X.mg X.base:=I.ok.mod
theorem Inv.fH (I:Inv X pins σ H s):X.K.In s.heap:=I.ok.mod.kin.keeps I.bk
theorem Inv.fr (I:Inv X pins σ H s):∃ m,Fr X.base X.env.locals s.heap m :=
 let ⟨m,hn,_⟩:=I.loc
 ⟨m,hn,I.bk,Nat.le_trans I.ok.bsz I.ok.above⟩
theorem Inv.lt (I:Inv X pins σ H s):X.env.locals<s.heap.objs.size:=let ⟨_,hn,_⟩:=I.loc;hn.lt
theorem Inv.sz (I:Inv X pins σ H s):X.s₀.heap.objs.size≤s.heap.objs.size:=Nat.le_trans I.ok.above (Nat.le_of_lt I.lt)
theorem Inv.yC (I:Inv X pins σ H s) {a:Addr} (h:s.heap.objs.size≤a):a∉X.fs:=fun hb=>by
 obtain⟨_,o,ho,_⟩:=I.ok.iS.mem hb
 exact absurd (Nat.lt_of_lt_of_le (Heap.lt_size ho) (Nat.le_trans I.sz h)) (Nat.lt_irrefl _)
theorem Inv.Ax (I:Inv X pins σ H s):∀ x c,X.env.cells.lookup x=some c→c≠X.env.locals:=fun x c e z=>by
 obtain⟨v,o,ho,hd⟩:=I.cell x c e
 obtain⟨m,⟨o',es,ep,ho',hd',_⟩,_⟩:=I.loc
 rw [z,ho'] at ho;cases ho;rw [hd'] at hd;cases hd
theorem Inv.iS (I:Inv X pins σ H s):s.heap.FunFrames X.base X.outer:=by
 have all:∀(l:List Env),(∀ b∈gD l,b∈X.fs)→X.s₀.heap.FunFrames X.base l→s.heap.FunFrames X.base l:=by
  intro l
  induction l with
  | nil=>intro _ _;trivial
  | cons env r ih =>
   intro hs hl
   obtain⟨hk,⟨L,o,hf,hn,ho,hd⟩,hr⟩:=hl
   have hL:L∈X.fs:=hs L (by unfold gD;rw [List.filterMap_cons,hf];exact List.mem_cons_self)
   obtain⟨sl,e⟩:=I.base.slot L o ho (I.ok.frf L hL) hL fun z=>I.ok.exfs L z hL
   exact⟨hk,⟨L,_,hf,hn,e,hd⟩,ih (fun b hb=>hs b (by unfold gD;rw [List.filterMap_cons,hf];exact List.mem_cons_of_mem _ hb)) hr⟩
 exact all X.outer (fun _ hb=>hb) I.ok.iS
theorem Inv.stack (I:Inv X pins σ H s):s.heap.FunFrames X.base X.stack:=by
 rcases I.ok.stk with e | ⟨e,hf⟩
 ·rw [e];exact I.iS
 ·rw [e]
  obtain⟨m,hn,_⟩:=I.loc
  refine .cons (by rw [I.ok.kind];decide) hf hn ?_ I.iS
  exact Heap.get?_none_of_le (Nat.le_trans I.ok.bsz I.ok.above)
theorem Inv.gc (I:Inv X pins σ H s):∀ b∈gD X.stack,b∈X.env.locals::X.fs:=fun b hb=>by
 rcases I.ok.stk with e | ⟨e,hf⟩
 ·rw [e] at hb;exact List.mem_cons_of_mem _ hb
 ·rw [e] at hb
  unfold gD at hb
  rw [List.filterMap_cons,hf] at hb
  exact hb
theorem Inv.iE (I:Inv X pins σ H s):∀ b∈gD X.stack,H b=none:=fun b hb=>by
 rcases List.mem_cons.mp (I.gc b hb) with e | hb
 ·rw [e];exact I.free
 ·obtain⟨_,o,ho,_⟩:=I.ok.iS.mem hb
  exact I.base.free b o ho (I.ok.frf b hb) fun z=>I.ok.exfs b z hb
theorem Inv.step {g':Array GenState} {t':Nat} {d':Drawn} {ch:List Addr} (I:Inv X pins σ H s)
  (hch:∀ b∈ch,(b∈X.ex∨X.s₀.heap.objs.size≤b)∧b≠X.env.locals∧(∀ x c,X.env.cells.lookup x=some c→c≠b)∧∀ p∈X.pn++pins,p.1≠b)
  (keep:∀ b o,b≠X.env.locals→b∉X.fs→b∉ch→s.heap.get? b=some o→H b=none→h'.get? b=some o)
  (slot:∀ b o,b≠X.env.locals→b∈X.fs→b∉ch→s.heap.get? b=some o→H b=none→∃ sl,h'.get? b=some { o with slots:=sl }) (free:∀ b o,b∉ch→s.heap.get? b=some o→H b=none→H' b=none)
  (there:∀ b o,b∉ch→s.heap.get? b=some o→∃ o',h'.get? b=some o')
  (tups:∀ b xs,H b=some (.tup xs)→H' b=some (.tup xs)) (frzs:∀ b o u,H b=some (.frz o u)→H' b=some (.frz o u)) (tbls:∀ b ps,H b=some (.tbl ps)→∃ more,H' b=some (.tbl (ps++more)))
  (ns:∀ m,s.heap.Ns X.env.locals m→h'.Ns X.env.locals m) (hok:fF X.prog X.w H' h') (hg:AllBare g') :
  Inv X pins σ H' { s with heap:=h',gens:=g',drawn:=d',toks:=t' }:=by
 have neL:∀ b o,X.s₀.heap.get? b=some o→b≠X.env.locals:=fun b o e=>Nat.ne_of_lt (Nat.lt_of_lt_of_le (Heap.lt_size e) I.ok.above)
 have neC:∀ b o,X.s₀.heap.get? b=some o→b∉X.ex→b∉ch:=fun b o e hx hb=>by
  rcases (hch b hb).1 with z | z
  ·exact hx z
  ·exact absurd (Nat.lt_of_lt_of_le (Heap.lt_size e) z) (Nat.lt_irrefl _)
 have cellK:∀ x c,X.env.cells.lookup x=some c→∀ v,s.heap.IsCell c v→h'.IsCell c v:=fun x c e v ⟨o,ho,hd⟩=>by
  have nch:c∉ch:=fun z=>(hch c z).2.2.1 x c e rfl
  by_cases hc:c∈X.fs
  ·obtain⟨sl,q⟩:=slot c o (I.Ax x c e) hc nch ho (I.freeC x c e)
   exact⟨_,q,hd⟩
  ·exact⟨o,keep c o (I.Ax x c e) hc nch ho (I.freeC x c e),hd⟩
 refine⟨I.ok,I.os,hg,⟨fun b o e n hb hx=>?_,fun b o e n hb hx=>?_,fun b o e n hx=>?_,fun b o e hx=>?_,fun b xs e=>tups b xs (I.base.tups b xs e),fun b o xs e=>frzs b o xs (I.base.frzs b o xs e),fun b ps e=>?_⟩,?_,fun x c e=>?_,?_,fun x c e=>?_,fun p hp=>?_,hok,I.len⟩
 ·exact keep b o (neL b o e) hb (neC b o e hx) (I.base.keep b o e n hb hx) (I.base.free b o e n hx)
 ·obtain⟨sl,e1⟩:=I.base.slot b o e n hb hx
  obtain⟨sl',e2⟩:=slot b _ (neL b o e) hb (neC b o e hx) e1 (I.base.free b o e n hx)
  exact⟨sl',e2⟩
 ·obtain⟨o',e1⟩:=I.base.there b o e hx
  exact free b o' (neC b o e hx) e1 (I.base.free b o e n hx)
 ·obtain⟨o',e1⟩:=I.base.there b o e hx
  exact there b o' (neC b o e hx) e1
 ·obtain⟨m1,e1⟩:=I.base.tbls b ps e
  obtain⟨m2,e2⟩:=tbls b _ e1
  exact⟨m1++m2,by rw [e2,Array.append_assoc]⟩
 ·obtain⟨m,hn,hl⟩:=I.loc
  refine⟨m,ns m hn,fun i x v e1 e2 e3=>?_⟩
  obtain⟨u,r,l⟩:=hl i x v e1 e2 e3
  refine⟨u,r,?_⟩
  rcases l with l | ⟨k,c,e,z⟩
  ·exact .inl l
  ·exact .inr ⟨k,c,e,cellK x c e _ z⟩
 ·obtain⟨v,z⟩:=I.cell x c e
  exact⟨v,cellK x c e v z⟩
 ·obtain⟨m,⟨o,_,_,ho,_⟩,_⟩:=I.loc
  exact free _ o (fun z=>(hch _ z).2.1 rfl) ho I.free
 ·obtain⟨v,o,ho,hd⟩:=I.cell x c e
  exact free c o (fun z=>(hch c z).2.2.1 x c e rfl) ho (I.freeC x c e)
 ·obtain⟨e,n,ne,nf,d⟩:=I.pin p hp
  have nch:p.1∉ch:=fun z=>(hch p.1 z).2.2.2 p hp rfl
  exact⟨keep p.1 p.2 ne nf nch e n,free p.1 p.2 nch e n,ne,nf,d⟩
theorem Inv.un {t':Nat} (I:Inv X pins σ H s) (u:Un X.fs [] H H' s.heap h') (hok:fF X.prog X.w H' h'):Inv X pins σ H' { s with heap:=h',toks:=t' }:=by
 obtain⟨m,⟨o,es,ep,ho,r⟩,_⟩:=id I.loc
 obtain⟨sl,hL⟩:=u.any ho I.free (by simp)
 exact I.step (g':=s.gens) (d':=s.drawn) (ch:=[]) (fun _ z=>nomatch z) (fun b o _ hb _ e n=>u.keep b o e n hb (by simp)) (fun b o _ hb _ e n=>u.slot b o e n hb (by simp)) (fun b o _ e n=>u.free b o e n (by simp)) (fun b o _ e=>u.there b o e (by simp)) u.tups u.frzs u.tbls (fun m' hm=>by
  obtain⟨o',es',ep',ho',r'⟩:=hm
  rw [ho] at ho';cases ho'
  exact⟨_,es',ep',hL,r'⟩) hok I.bare
theorem Inv.call {g':Array GenState} {t':Nat} {d':Drawn} {ch:List Addr} (I:Inv X pins σ H s) (u:Un (gD X.stack) ch H H' s.heap h') (hok:fF X.prog X.w H' h') (hg:AllBare g')
  (hch:∀ b∈ch,(b∈X.ex∨X.s₀.heap.objs.size≤b)∧b≠X.env.locals∧(∀ x c,X.env.cells.lookup x=some c→c≠b)∧∀ p∈X.pn++pins,p.1≠b) :
  Inv X pins σ H' { s with heap:=h',gens:=g',drawn:=d',toks:=t' }:=by
 obtain⟨m,⟨o,es,ep,ho,r⟩,_⟩:=id I.loc
 obtain⟨sl,hL⟩:=u.any ho I.free fun z=>(hch _ z).2.1 rfl
 exact I.step (ch:=ch) hch (fun b o hL hb hc e n=>u.keep b o e n (fun z=>(List.mem_cons.mp (I.gc b z)).elim hL hb) hc) (fun b o _ _ hc e n=>u.any e n hc) (fun b o hc e n=>u.free b o e n hc) (fun b o hc e=>u.there b o e hc) u.tups u.frzs u.tbls (fun m' hm=>by
  obtain⟨o',es',ep',ho',r'⟩:=hm
  rw [ho] at ho';cases ho'
  exact⟨_,es',ep',hL,r'⟩) hok hg
theorem Inv.turned {t':Nat} {it:Addr} (I:Inv X pins σ H s) (k:∀ b o,b≠it→s.heap.get? b=some o→h'.get? b=some o) (hn:H it=none) (hL:it≠X.env.locals)
  (h1:it∈X.ex∨X.s₀.heap.objs.size≤it) (h2:∀ x c,X.env.cells.lookup x=some c→c≠it) (h3:∀ p∈X.pn++pins,p.1≠it):Inv X pins σ H { s with heap:=h',toks:=t' }:=by
 have nit:∀ b u,H b=some u→b≠it:=fun b u e z=>by rw [z,hn] at e;cases e
 refine I.step (g':=s.gens) (d':=s.drawn) (ch:=[it]) (fun b hb=>?_) (fun b o _ _ hc e _=>k b o (fun z=>hc (by simp [z])) e) (fun b o _ _ hc e _=>⟨o.slots,k b o (fun z=>hc (by simp [z])) e⟩) (fun _ _ _ _ n=>n)
  (fun b o hc e=>⟨o,k b o (fun z=>hc (by simp [z])) e⟩) (fun _ _ e=>e) (fun _ _ _ e=>e) (fun b ps e=>⟨#[],by rw [e];simp⟩) (fun m hm=>?_) (fun b u e=>?_) I.bare
 ·have e:b=it:=by simpa using hb
  subst e
  exact⟨h1,hL,h2,h3⟩
 ·obtain⟨o,es,ep,ho,r⟩:=hm
  exact⟨o,es,ep,k _ o (Ne.symm hL) ho,r⟩
 ·refine (I.hok b u e).gE (fun c v hc q=>k c v ?_ q) (fun _ q=>q) fun _ _ q=>q
  rcases hc with z | z
  ·rw [z];exact nit b u e
  ·exact nit c _ z
theorem Inv.tok (I:Inv X pins σ H s) (t:Nat):Inv X pins σ H { s with toks:=t }:=I.un (h':=s.heap) (t':=t) Un.refl I.hok
theorem Inv.kept {t':Nat} (I:Inv X pins σ H s) (k:∀ b u,s.heap.get? b=some u→h'.get? b=some u):Inv X pins σ H { s with heap:=h',toks:=t' }:=I.un (Un.kept k) (I.hok.kept k)
theorem Inv.laid {a:Addr} {o:HO} {t':Nat} (I:Inv X pins σ H s) (k:∀ b u,s.heap.get? b=some u→h'.get? b=some u) (hp:s.heap.objs.size≤a) (new:bo X.prog X.w (upd H a o) h' a o) :
  Inv X pins σ (upd H a o) { s with heap:=h',toks:=t' }:=I.un (Un.laid k hp (I.hok.fresh hp)) (I.hok.laid k hp new)
theorem Inv.write {x e:Addr} {o:HO} {t':Nat} (I:Inv X pins σ H s) (mu:B7 (H x)) (he:e=x∨H e=some (.own x)) (k:∀ b u,b≠e→s.heap.get? b=some u→h'.get? b=some u) (heo:∃ u,h'.get? e=some u)
  (new:bo X.prog X.w (upd H x o) h' x o):Inv X pins σ (upd H x o) { s with heap:=h',toks:=t' }:=I.un (Un.write mu he k heo) (I.hok.write mu he k heo new)
theorem Inv.weak {σ':List (Option V)} (I:Inv X pins σ H s) (hl:σ'.length=σ.length) (w:∀(i:Nat) v,σ'[i]?=some (some v)→σ[i]?=some (some v)):Inv X pins σ' H s :=
 ⟨I.ok,I.os,I.bare,I.base,let ⟨m,hn,hl'⟩:=I.loc;⟨m,hn,fun i x v e1 e2 e3=>hl' i x v e1 (w i v e2) e3⟩,I.cell,I.free,I.freeC,I.pin,I.hok,hl.trans I.len⟩
theorem Inv.gq {pins':List (Addr × Obj)} (I:Inv X pins σ H s) (h:∀ p∈pins',s.heap.get? p.1=some p.2∧H p.1=none∧p.1≠X.env.locals∧p.1∉X.fs∧∀ v,p.2.data≠.cell v):Inv X pins' σ H s :=
 ⟨I.ok,I.os,I.bare,I.base,I.loc,I.cell,I.free,I.freeC,fun p hp=>(List.mem_append.mp hp).elim (fun z=>I.pin p (List.mem_append_left _ z)) (h p),I.hok,I.len⟩
theorem oX {N:List Str} (hN:N.Nodup) {i j:Nat} {x:Str} (a:N[i]?=some x) (b:N[j]?=some x):i=j:=by
 obtain⟨h1,e1⟩:=List.getElem?_eq_some_iff.mp a
 obtain⟨h2,e2⟩:=List.getElem?_eq_some_iff.mp b
 exact (List.getElem_inj hN).mp (e1.trans e2.symm)
theorem uE {M:Model} {A:Around} {E:Value→Shared→Prop} {i:Nat} {x:Str} {v:V} {u:Value} {Q:Unit→Shared→Prop} (I:Inv X pins σ H s) (hN:X.N.Nodup) (hi:X.N[i]?=some x) (hx:Loc X.env.scope x) (r:RelV v u)
  (h:∀ s',Inv X pins (σ.set i (some v)) H s'→(∃ a,Heap.SameBut a s.heap s'.heap∧(a=X.env.locals∨X.env.cells.lookup x=some a))→Q () s') (hf:X.fn x=true∨X.env.scope.names.lookup x=some .local:=by first | exact .inl rfl | exact .inr rfl | assumption):wpAny M A (storeName X.env x u) Q E s:=by
 obtain⟨m,hn,hl⟩:=id I.loc
 have hcls:(X.env.scope.kind==.class || (X.env.scope.kind==.module && X.env.locals != X.env.globals))=false:=by rw [I.ok.kind];rfl
 have hiσ:i<σ.length:=by rw [I.len];exact (List.getElem?_eq_some_iff.mp hi).1
 have Ax:=I.Ax
 have tracked:∀{a:Addr} {h':Heap},(∃ o,s.heap.get? a=some o∧H a=none)→Heap.SameBut a s.heap h'→fF X.prog X.w H h':=fun {a h'} ha hs b ob e=>by
  obtain⟨_,_,hfree⟩:=ha
  refine (I.hok b ob e).gE (fun c w' hc q=>(hs.2 c ?_).trans q) (fun _ q=>q) fun _ _ q=>q
  rintro rfl
  rcases hc with rfl | hc
  ·rw [hfree] at e;cases e
  ·rw [hfree] at hc;cases hc
 rcases hx with hk | hk
 ·refine wpAny_storeName_local hk hn (fun h' hn' hs=>?_) hcls
  obtain⟨oL,_,_,hoL,_⟩:=id hn
  refine h _ ⟨I.ok,I.os,I.bare,⟨fun b o e n hb hx=>?_,fun b o e n hb hx=>?_,I.base.free,fun b o e hx=>?_,I.base.tups,I.base.frzs,I.base.tbls⟩,⟨_,hn',fun j y v' e1 e2 e3=>?_⟩,fun y c e=>?_,I.free,I.freeC,fun p hp=>?_,tracked ⟨oL,hoL,I.free⟩ hs,by simpa using I.len⟩ ⟨_,hs,.inl rfl⟩
  ·exact (hs.2 b (Nat.ne_of_lt (Nat.lt_of_lt_of_le (Heap.lt_size e) I.ok.above))).trans (I.base.keep b o e n hb hx)
  ·obtain⟨sl,e1⟩:=I.base.slot b o e n hb hx
   exact⟨sl,(hs.2 b (Nat.ne_of_lt (Nat.lt_of_lt_of_le (Heap.lt_size e) I.ok.above))).trans e1⟩
  ·obtain⟨o',e1⟩:=I.base.there b o e hx
   exact⟨o',(hs.2 b (Nat.ne_of_lt (Nat.lt_of_lt_of_le (Heap.lt_size e) I.ok.above))).trans e1⟩
  ·by_cases hj:j=i
   ·subst hj
    rw [hi] at e1;cases e1
    rw [List.getElem?_set_self hiσ] at e2
    cases e2
    exact⟨u,r,.inl ⟨hk,by simp⟩⟩
   ·rw [List.getElem?_set_ne (Ne.symm hj)] at e2
    obtain⟨u',r',q⟩:=hl j y v' e1 e2 e3
    refine⟨u',r',?_⟩
    rcases q with⟨k,e⟩|⟨k,c,e,z⟩
    ·refine .inl ⟨k,?_⟩
     have:y≠x:=fun e=>hj (oX hN e1 (e▸hi))
     simp [this,e]
    ·exact .inr ⟨k,c,e,z.sameBut hs (Ax y c e)⟩
  ·obtain⟨w',z⟩:=I.cell y c e
   exact⟨w',z.sameBut hs (Ax y c e)⟩
  ·obtain⟨e,n,ne,nf,d⟩:=I.pin p hp
   exact⟨(hs.2 p.1 ne).trans e,n,ne,nf,d⟩
 ·have hfn:X.fn x=true:=by
   rcases hf with z | z
   ·exact z
   ·rw [z] at hk;cases hk
  obtain⟨c,hc⟩:=I.ok.has x (.inl hk)
  obtain⟨w',z⟩:=I.cell x c hc
  refine wpAny_storeName_cell I.ok.kind hk hc z (fun h' hc' hs=>?_)
  obtain⟨oc,hoc,hocd⟩:=id z
  refine h { s with heap:=h' } ⟨I.ok,I.os,I.bare,⟨fun b o e n hb hx=>?_,fun b o e n hb hx=>?_,I.base.free,fun b o e hx=>?_,I.base.tups,I.base.frzs,I.base.tbls⟩,⟨m,hn.sameBut hs (Ne.symm (Ax x c hc)),fun j y v' e1 e2 e3=>?_⟩,fun y c' e=>?_,I.free,I.freeC,fun p hp=>?_,tracked ⟨oc,hoc,I.freeC x c hc⟩ hs,by simpa using I.len⟩ ⟨c,hs,.inr hc⟩
  ·exact (hs.2 b (Nat.ne_of_lt (Nat.lt_of_lt_of_le (Heap.lt_size e) (I.ok.cab x c hfn hc)))).trans (I.base.keep b o e n hb hx)
  ·obtain⟨sl,e1⟩:=I.base.slot b o e n hb hx
   exact⟨sl,(hs.2 b (Nat.ne_of_lt (Nat.lt_of_lt_of_le (Heap.lt_size e) (I.ok.cab x c hfn hc)))).trans e1⟩
  ·obtain⟨o',e1⟩:=I.base.there b o e hx
   exact⟨o',(hs.2 b (Nat.ne_of_lt (Nat.lt_of_lt_of_le (Heap.lt_size e) (I.ok.cab x c hfn hc)))).trans e1⟩
  ·by_cases hj:j=i
   ·subst hj
    rw [hi] at e1;cases e1
    rw [List.getElem?_set_self hiσ] at e2
    cases e2
    exact⟨u,r,.inr ⟨.inl hk,c,hc,hc'⟩⟩
   ·rw [List.getElem?_set_ne (Ne.symm hj)] at e2
    obtain⟨u',r',q⟩:=hl j y v' e1 e2 e3
    refine⟨u',r',?_⟩
    rcases q with q | ⟨k,c',e,z'⟩
    ·exact .inl q
    ·refine .inr ⟨k,c',e,z'.sameBut hs ?_⟩
     rintro rfl
     exact hj (oX hN e1 (I.ok.inj _ _ _ e hc▸hi))
  ·by_cases hcc:c'=c
   ·subst hcc;exact⟨_,hc'⟩
   ·obtain⟨w2,z2⟩:=I.cell y c' e
    exact⟨w2,z2.sameBut hs hcc⟩
  ·obtain⟨e,n,ne,nf,d⟩:=I.pin p hp
   refine⟨(hs.2 p.1 ?_).trans e,n,ne,nf,d⟩
   intro q
   rw [q,hoc] at e
   have q':oc=p.2:=Option.some.inj e
   exact d w' (by rw [← q'];exact hocd)
theorem cV {M:Model} {A:Around} {E:Value→Shared→Prop} {i:Nat} {x:Str} {v:V} {u:Value} {Q:Unit→Shared→Prop} (I:Inv X pins σ H s) (hN:X.N.Nodup) (hi:X.N[i]?=some x) (hx:Loc X.env.scope x) (r:RelV v u)
  (h:∀ s',Inv X pins (σ.set i (some v)) H s'→Q () s') (hf:X.fn x=true∨X.env.scope.names.lookup x=some .local:=by first | exact .inl rfl | exact .inr rfl | assumption):wpAny M A (storeName X.env x u) Q E s :=
 uE I hN hi hx r (fun s' I' _=>h s' I') hf
theorem Inv.Cc {s':Shared} {ch:List Addr} (I:Inv X pins σ H s) (ho:s'.os=s.os) (u:Un (gD X.stack) ch H H' s.heap s'.heap) (hok:fF X.prog X.w H' s'.heap) (hg:AllBare s'.gens)
  (hch:∀ b∈ch,(b∈X.ex∨X.s₀.heap.objs.size≤b)∧b≠X.env.locals∧(∀ x c,X.env.cells.lookup x=some c→c≠b)∧∀ p∈X.pn++pins,p.1≠b):Inv X pins σ H' s':=by
 obtain⟨h',g',d',t',o'⟩:=s'
 have e:o'=s.os:=ho
 subst e
 exact I.call (g':=g') (t':=t') (d':=d') u hok hg hch
end
abbrev XK:=Value→Option Addr→Hp→Prop
abbrev St:=List (Option V)
abbrev VK:=V→Hp→Prop
abbrev TE:=St→Hp→VK→Prop
abbrev TT:=St→Hp→(Bool→Hp→Prop)→Prop
abbrev TA:=St→Hp→(List V→Hp→Prop)→Prop
structure Ends where
 nx:St→Hp→Prop
 rt:VK
 bk:St→Hp→Prop:=fun _ _=>False
 ct:St→Hp→Prop:=fun _ _=>False
abbrev TS:=Ends→St→Hp→Prop
def EP (X:Cx) (pins:List (Addr × Obj)) (σ:St) (Q:VK) (u:Value) (s':Shared):Prop:=∃ v H',Inv X pins σ H' s'∧RelV v u∧Q v H'
def TP (X:Cx) (pins:List (Addr × Obj)) (σ:St) (Q:Bool→Hp→Prop) (b:Bool) (s':Shared):Prop:=∃ H',Inv X pins σ H' s'∧Q b H'
def AP (X:Cx) (pins:List (Addr × Obj)) (σ:St) (Q:List V→Hp→Prop) (us:List Value) (s':Shared):Prop:=∃ vs H',Inv X pins σ H' s'∧Vals vs us∧Q vs H'
def SP (X:Cx) (pins:List (Addr × Obj)) (D:Ends) (f:Flow) (s':Shared):Prop :=
 match f with
 | .next=>∃ σ' H',Inv X pins σ' H' s'∧D.nx σ' H'
 | .brk=>∃ σ' H',Inv X pins σ' H' s'∧D.bk σ' H'
 | .cont=>∃ σ' H',Inv X pins σ' H' s'∧D.ct σ' H'
 | .ret u=>∃ v σ' H',Inv X pins σ' H' s'∧RelV v u∧D.rt v H'
def PE (X:Cx) (e:Expr) (t:TE):Prop :=
 ∀(pins:List (Addr × Obj)) (s:Shared) (σ:St) (H:Hp) (Q:VK),Inv X pins σ H s→t σ H Q→wpAny (model X.prog X.w) X.A (eval e X.env) (EP X pins σ Q) X.xe s
def PT (X:Cx) (e:Expr) (t:TT):Prop :=
 ∀(pins:List (Addr × Obj)) (s:Shared) (σ:St) (H:Hp) (Q:Bool→Hp→Prop),Inv X pins σ H s→t σ H Q→wpAny (model X.prog X.w) X.A (isTrue e X.env (eval e X.env)) (TP X pins σ Q) X.xe s
def PW (X:Cx) (e:Expr) (t:TT):Prop :=
 ∀(whole:Sem Value) (pins:List (Addr × Obj)) (s:Shared) (σ:St) (H:Hp) (Q:Bool→Hp→Prop),Inv X pins σ H s→t σ H Q→wpAny (model X.prog X.w) X.A (isTrue e X.env whole) (TP X pins σ Q) X.xe s
theorem PW.pt {X:Cx} {e:Expr} {t:TT} (h:PW X e t):PT X e t:=h _
def PA (X:Cx) (es:List Expr) (t:TA):Prop :=
 ∀(pos:Pos) (pins:List (Addr × Obj)) (s:Shared) (σ:St) (H:Hp) (Q:List V→Hp→Prop),Inv X pins σ H s→t σ H Q→wpAny (model X.prog X.w) X.A (spliced (backTo pos (starEach es X.env))) (AP X pins σ Q) X.xe s
def PS (X:Cx) (st:Stmt) (t:TS):Prop :=
 ∀(pins:List (Addr × Obj)) (s:Shared) (σ:St) (H:Hp) (D:Ends),Inv X pins σ H s→t D σ H→wpAny (model X.prog X.w) X.A (exec st X.env) (SP X pins D) X.xe s
def iL (X:Cx) (st:List Stmt) (t:TS):Prop :=
 ∀(pins:List (Addr × Obj)) (s:Shared) (σ:St) (H:Hp) (D:Ends),Inv X pins σ H s→t D σ H→wpAny (model X.prog X.w) X.A (execs st X.env) (SP X pins D) X.xe s
theorem bj {α:Type} {t:Sem α} {Q Q':α→Shared→Prop} {M:Model} {A:Around} {E:Value→Shared→Prop} {s:Shared} (h:wpAny M A t Q E s) (hQ:∀ a s,Q a s→Q' a s):wpAny M A t Q' E s:=wpAny_mono h hQ fun _ _ x=>x
end L2
namespace L2
open PySem PySem.Spec PyProof.Rows
section
variable {X:Cx}
def xQ (i:Nat):TE:=fun σ H Q=>∃ v,σ[i]?=some (some v)∧Q v H
def tC (v:V):TE:=fun _ H Q=>Q v H
theorem qZ {i:Nat} {x:Str} {pos:Pos} (hN:X.N[i]?=some x) (hv:BU X.env.scope x) (hd:(x==("__debug__":Str))=false:=by decide) (hcd:(x==("__classdict__":Str))=false:=by decide):PE X (.Name x pos) (xQ i):=by
 intro pins s σ H Q I h
 obtain⟨v,e,h⟩:=h
 obtain⟨m,hn,hl⟩:=I.loc
 obtain⟨u,r,l⟩:=hl i x v hN e hv
 have fin:EP X pins σ Q u s:=⟨v,H,I,r,h⟩
 rcases l with⟨hk,hm⟩|⟨hk,c,hc,hcell⟩
 ·exact wpAny_Name (wpAny_loadName_local I.ok.kind hk hn hm fin) hd
 ·rcases hk with hk | hk
  ·exact wpAny_Name (wpAny_loadName_cell I.ok.kind hk hc hcell fin) hd
  ·exact wpAny_Name (wpAny_loadName_free I.ok.kind hk hc hcell fin hcd) hd
theorem ah {i j pos}:PE X (.Constant (.int i) j pos) (tC (.int i)):=fun _ _ _ H _ I h=>wpAny_Constant_int ⟨.int i,H,I.tok _,⟨_,rfl⟩,h⟩
theorem dS {b j pos}:PE X (.Constant (.bool b) j pos) (tC (.bl b)):=fun _ _ _ H _ I h=>Constant_bool ⟨.bl b,H,I,rfl,h⟩
theorem iY {j pos}:PE X (.Constant .none j pos) (tC .non):=fun _ _ _ H _ I h=>Constant_none ⟨.non,H,I,rfl,h⟩
theorem b8 {x j pos}:PE X (.Constant (.str x) j pos) (tC (.str x)):=fun _ _ _ H _ I h=>Calls.Constant_str ⟨.str x,H,I.tok _,⟨_,rfl⟩,h⟩
def Gl (X:Cx) (x:Str):Prop:=X.env.kindOf x=some .globalImplicit
theorem hZ {E:Value→Shared→Prop} {pins:List (Addr × Obj)} {s:Shared} {σ:St} {H:Hp} {x:Str} {u:Value} {pos:Pos} {Q:Value→Shared→Prop} (I:Inv X pins σ H s) (hg:Gl X x) (hm:X.mg x=some u) (h:Q u s)
  (hd:(x==("__debug__":Str))=false:=by decide):wpAny (model X.prog X.w) X.A (eval (.Name x pos) X.env) Q E s :=
 Calls.Name_function_global I.ok.kind hg (Calls.loadGlobal_global (by rw [I.ok.glob];exact I.mod.glob.keeps I.bk) hm h) hd
theorem gR {E:Value→Shared→Prop} {pins:List (Addr × Obj)} {s:Shared} {σ:St} {H:Hp} {x:Str} {u:Value} {pos:Pos} {Q:Value→Shared→Prop} (I:Inv X pins σ H s) (hg:Gl X x) (hm:X.mg x=none) (hv:bootBuiltins x=some u) (h:Q u s)
  (hn:x ≠ "__name__":=by decide) (hd:(x==("__debug__":Str))=false:=by decide):wpAny (model X.prog X.w) X.A (eval (.Name x pos) X.env) Q E s:=by
 obtain⟨mb,h1,h2⟩:=I.mod.blt
 exact Calls.Name_function_global I.ok.kind hg (Calls.loadGlobal_builtin (by rw [I.ok.glob];exact I.mod.glob.keeps I.bk) hm (by rw [I.ok.blt];exact h1.keeps I.bk) ((h2 x hn).trans hv) h) hd
theorem mX {x:Str} {v:V} {u:Value} {pos:Pos} (hg:Gl X x) (hm:X.mg x=some u) (r:RelV v u) (hd:(x==("__debug__":Str))=false:=by decide):PE X (.Name x pos) (tC v) :=
 fun _ _ _ H _ I h=>hZ I hg hm ⟨v,H,I,r,h⟩ hd
theorem dU {x:Str} {v:V} {u:Value} {pos:Pos} (hg:Gl X x) (hm:X.mg x=none) (hv:bootBuiltins x=some u) (r:RelV v u) (hn:x ≠ "__name__":=by decide) (hd:(x==("__debug__":Str))=false:=by decide):PE X (.Name x pos) (tC v) :=
 fun _ _ _ H _ I h=>gR I hg hm hv ⟨v,H,I,r,h⟩ hn hd
variable {a b:Expr} {ta tb:TE} {pos:Pos}
def PC (X:Cx) (op:CmpOp) (a b:Expr) (t:TE):Prop :=
 ∀(pins:List (Addr × Obj)) (s:Shared) (σ:St) (H:Hp) (Q:VK),Inv X pins σ H s→t σ H Q →
  wpAny (model X.prog X.w) X.A (eval a X.env) (fun v s₁=>wpAny (model X.prog X.w) X.A (eval b X.env) (fun u s₂=>wpAny (model X.prog X.w) X.A (compareOp op v u) (EP X pins σ Q) X.xe s₂) X.xe s₁) X.xe s
theorem vT (b:Expr) {op:CmpOp} (h:op≠.In) (h2:op≠.NotIn):behindInMarks op b=false:=by
 have e1:(op==CmpOp.In)=false:=by cases op<;>first | rfl | exact absurd rfl h
 have e2:(op==CmpOp.NotIn)=false:=by cases op<;>first | rfl | exact absurd rfl h2
 cases b<;>simp [behindInMarks,e1,e2]
def tB (t:TE):TT:=fun σ H Q=>t σ H fun x H1=>∃ c,x=.bl c∧Q c H1
theorem wK {op:CmpOp} {t:TE} (h:PC X op a b t) (h1:behindInMarks op b=false:=by first | exact vT _ (by decide) (by decide) | rfl):PT X (.Compare a [op] [b] pos) (tB t):=by
 intro pins s σ H Q I hw
 refine wpAny_isTrue_Compare1 (bj (h pins s σ H _ I hw) fun v s1 h1=>bj h1 fun u s2 h2=>bj h2 fun c s3 ⟨x,H1,I1,r1,q1⟩=>?_) h1
 obtain⟨d,rfl,q⟩:=q1
 cases r1
 exact wpAny_truthy_bool ⟨H1,I1,q⟩
variable {tA tB':TT} {rest:List Expr}
def BB (t u:TT):TT:=fun σ H Q=>t σ H fun c H1=>if c=true then u σ H1 Q else Q false H1
def DI (t u:TT):TT:=fun σ H Q=>t σ H fun c H1=>if c=true then Q true H1 else u σ H1 Q
def BH (t:TT):TT:=fun σ H Q=>t σ H fun c H1=>Q (!c) H1
theorem fu (ha:PT X a tA):PW X (.BoolOp .And [a] pos) tA:=by
 intro wh pins s σ H Q I h
 refine isTrue_and (bj (ha pins s σ H Q I h) fun c s1 e=>?_)
 cases c with
 | true=>exact isTrue_and_nil e
 | false=>exact e
theorem nc (ha:PT X a tA):PW X (.BoolOp .Or [a] pos) tA:=by
 intro wh pins s σ H Q I h
 refine isTrue_or (bj (ha pins s σ H Q I h) fun c s1 e=>?_)
 cases c with
 | false=>exact isTrue_or_nil e
 | true=>exact e
theorem fm (ha:PT X a tA) (hb:PW X (.BoolOp .And (b::rest) pos) tB'):PW X (.BoolOp .And (a::b::rest) pos) (BB tA tB'):=by
 intro wh pins s σ H Q I h
 refine isTrue_and (bj (ha pins s σ H _ I h) fun c s1 ⟨H1,I1,q1⟩=>?_)
 cases c with
 | true=>exact hb wh pins s1 σ H1 Q I1 q1
 | false=>exact⟨H1,I1,q1⟩
theorem pN (ha:PT X a tA) (hb:PW X (.BoolOp .Or (b::rest) pos) tB'):PW X (.BoolOp .Or (a::b::rest) pos) (DI tA tB'):=by
 intro wh pins s σ H Q I h
 refine isTrue_or (bj (ha pins s σ H _ I h) fun c s1 ⟨H1,I1,q1⟩=>?_)
 cases c with
 | true=>exact⟨H1,I1,q1⟩
 | false=>exact hb wh pins s1 σ H1 Q I1 q1
theorem fk (ha:PT X a tA):PT X (.UnaryOp .Not a pos) (BH tA):=by
 intro pins s σ H Q I h
 exact isTrue_not (ha pins s σ H (fun c H1=>Q (!c) H1) I h)
def xC (ta tb:TE):TE:=fun σ H Q=>ta σ H fun x H1=>∃ c,x=.bl c∧if c=true then tb σ H1 Q else Q (.bl false) H1
def CS (ta tb:TE):TE:=fun σ H Q=>ta σ H fun x H1=>∃ c,x=.bl c∧if c=true then Q (.bl true) H1 else tb σ H1 Q
def xM (ta:TE):TE:=fun σ H Q=>ta σ H fun x H1=>∃ c,x=.bl c∧Q (.bl (!c)) H1
theorem cS {op} {t:TE} (h:PE X a t):PE X (.BoolOp op [a] pos) t:=fun pins s σ H Q I hw=>BoolOp_one (h pins s σ H Q I hw)
theorem bP (ha:PE X a ta) (hb:PE X (.BoolOp .And (b::rest) pos) tb):PE X (.BoolOp .And (a::b::rest) pos) (xC ta tb):=by
 intro pins s σ H Q I h
 refine BoolOp_and (bj (ha pins s σ H _ I h) fun v s1 ⟨x,H1,I1,r1,q1⟩=>?_)
 obtain⟨c,rfl,q1⟩:=q1
 cases r1
 refine wpAny_truthy_bool ?_
 cases c with
 | true=>exact hb pins s1 σ H1 Q I1 q1
 | false=>exact⟨.bl false,H1,I1,rfl,q1⟩
theorem Bj (ha:PE X a ta):PE X (.UnaryOp .Not a pos) (xM ta):=by
 intro pins s σ H Q I h
 refine UnaryOp_ (bj (ha pins s σ H _ I h) fun v s1 ⟨x,H1,I1,r1,q1⟩=>?_)
 obtain⟨c,rfl,q1⟩:=q1
 cases r1
 exact not_of (wpAny_truthy_bool ⟨.bl (!c),H1,I1,rfl,q1⟩)
def DH (t:TT) (ta tb:TE):TE:=fun σ H Q=>t σ H fun c H1=>if c=true then ta σ H1 Q else tb σ H1 Q
theorem fN {c:Expr} (hc:PT X c tA) (ha:PE X a ta) (hb:PE X b tb):PE X (.IfExp c a b pos) (DH tA ta tb):=by
 intro pins s σ H Q I h
 refine wpAny_IfExp (bj (hc pins s σ H _ I h) fun d s1 ⟨H1,I1,q1⟩=>?_)
 cases d with
 | true=>exact ha pins s1 σ H1 Q I1 q1
 | false=>exact hb pins s1 σ H1 Q I1 q1
end
end L2
namespace L2
open PySem PySem.Spec PyProof.Rows
def aX (K:PySem.W.Frag) (H:Hp) (a:Addr) (xs:List V):Prop :=
 Rd H a (.lst xs) ∨
  ∃(o:Obj) (its:Array Value) (n:Nat),K.lookup a=some o∧o.cls=.type "list"∧o.dict=none∧o.data=.seq its n∧its.size≤sizeLine∧Vals xs its.toList
def bC (K:PySem.W.Frag) (H:Hp) (a:Addr) (xs:List V):Prop :=
 Rd H a (.tup xs) ∨
  ∃(o:Obj) (its:Array Value) (n:Nat),K.lookup a=some o∧o.cls=.type "tuple"∧o.data=.seq its n∧its.size≤sizeLine∧Vals xs its.toList
def Dj:Value→Option V
 | .none=>some .non
 | .bool b=>some (.bl b)
 | .int i _=>some (.int i)
 | .str x _=>some (.str x)
 | .bytes b _=>some (.byt b)
 | .float b _=>some (.flt b)
 | .ref a=>some (.ref a)
 | .type n=>some (.ty n)
 | _=>none
theorem RelV.abs {x:V} {u:Value} (r:RelV x u):Dj u=some x:=by
 cases x with
 | non=>cases r;rfl
 | bl _=>cases r;rfl
 | int _=>obtain⟨t,rfl⟩:=r;rfl
 | str _=>obtain⟨t,rfl⟩:=r;rfl
 | byt _=>obtain⟨t,rfl⟩:=r;rfl
 | flt _=>obtain⟨t,rfl⟩:=r;rfl
 | ref _=>cases r;rfl
 | ty _=>cases r;rfl
theorem RelV.inj {x y:V} {u:Value} (r:RelV x u) (q:RelV y u):x=y:=Option.some.inj (r.abs.symm.trans q.abs)
theorem Vals.inj:∀{xs ys:List V} {us:List Value},Vals xs us→Vals ys us→xs=ys
 | _,_,_,.nil,.nil=>rfl
 | _,_,_,.cons r t,.cons r' t'=>by rw [r.inj r',Vals.inj t t']
section
variable {X:Cx} {pins:List (Addr × Obj)} {σ:St} {H:Hp} {s:Shared} {a:Addr} {xs ys:List V}
theorem aX.of {K:PySem.W.Frag} (h:H a=some (.lst xs)):aX K H a xs:=.inl (.inl h)
theorem bC.of {K:PySem.W.Frag} (h:H a=some (.tup xs)):bC K H a xs:=.inl (.inl h)
theorem Inv.list (I:Inv X pins σ H s) (h:aX X.K H a xs):∃ its:List Value,Vals xs its∧PlainL s.heap a its.toArray∧xs.length≤sizeLine:=by
 rcases h with h | ⟨o,its,n,hk,hc,hd,hs,hz,r⟩
 ·obtain⟨z,its,n,r,e⟩:=h.ok I.hok
  exact⟨its,r,⟨_,n,e,rfl,rfl,rfl⟩,z⟩
 ·refine⟨its.toList,r,⟨o,n,I.fH a o hk,hc,hd,by simpa using hs⟩,?_⟩
  have e:=r.length
  simp only [Array.length_toList] at e
  omega
theorem Inv.tuple (I:Inv X pins σ H s) (h:bC X.K H a xs):∃ its:List Value,Vals xs its∧IsTup s.heap a its.toArray∧xs.length≤sizeLine:=by
 rcases h with h | ⟨o,its,n,hk,hc,hs,hz,r⟩
 ·obtain⟨z,its,r,p⟩:=h.ok I.hok
  exact⟨its,r,p,z⟩
 ·refine⟨its.toList,r,⟨o,I.fH a o hk,hc,n,by simpa using hs⟩,?_⟩
  have e:=r.length
  simp only [Array.length_toList] at e
  omega
theorem Inv.j6 (I:Inv X pins σ H s) (h:aX X.K H a xs) (h':aX X.K H a ys):xs=ys:=by
 obtain⟨its,r,⟨o,n,e,_,_,d⟩,_⟩:=I.list h
 obtain⟨its',r',⟨o',n',e',_,_,d'⟩,_⟩:=I.list h'
 rw [e] at e';cases e'
 rw [d] at d'
 injection d' with d1 _
 have:its=its':=by simpa using congrArg Array.toList d1
 subst this
 exact r.inj r'
theorem Inv.mj (I:Inv X pins σ H s) (h:bC X.K H a xs) (h':bC X.K H a ys):xs=ys:=by
 obtain⟨its,r,⟨o,e,_,n,d⟩,_⟩:=I.tuple h
 obtain⟨its',r',⟨o',e',_,n',d'⟩,_⟩:=I.tuple h'
 rw [e] at e';cases e'
 rw [d] at d'
 injection d' with d1 _
 have:its=its':=by simpa using congrArg Array.toList d1
 subst this
 exact r.inj r'
end
abbrev Cx.jx (X:Cx) (E:Value→Shared→Prop):Cx:={ X with xe:=E }
abbrev Cx.lR (X:Cx):Cx:=X.jx fun _ _=>False
theorem Cx.Ok.jx {X:Cx} (ok:X.Ok) (E:Value→Shared→Prop):(X.jx E).Ok :=
 ⟨ok.mod,ok.kind,ok.glob,ok.blt,ok.above,ok.inj,ok.has,ok.cab,ok.hd,ok.frames,ok.stk,ok.exf,ok.bs,ok.bsz,ok.noex,ok.exfs,ok.iS,ok.frf⟩
theorem Cx.Ok.eB {X:Cx} {E:Value→Shared→Prop} (ok:(X.jx E).Ok):X.Ok :=
 ⟨ok.mod,ok.kind,ok.glob,ok.blt,ok.above,ok.inj,ok.has,ok.cab,ok.hd,ok.frames,ok.stk,ok.exf,ok.bs,ok.bsz,ok.noex,ok.exfs,ok.iS,ok.frf⟩
section
variable {X:Cx} {pins:List (Addr × Obj)} {σ:St} {H:Hp} {s:Shared} {E:Value→Shared→Prop}
theorem Inv.jx (I:Inv X pins σ H s) (E:Value→Shared→Prop):Inv (X.jx E) pins σ H s:=⟨I.ok.jx E,I.os,I.bare,I.base,I.loc,I.cell,I.free,I.freeC,I.pin,I.hok,I.len⟩
theorem Inv.eB (I:Inv (X.jx E) pins σ H s):Inv X pins σ H s:=⟨I.ok.eB,I.os,I.bare,I.base,I.loc,I.cell,I.free,I.freeC,I.pin,I.hok,I.len⟩
theorem SP.eB {D:Ends} {f:Flow} {s':Shared} (h:SP (X.jx E) pins D f s'):SP X pins D f s':=by
 cases f with
 | next=>obtain⟨σ',H',I,q⟩:=h;exact⟨σ',H',I.eB,q⟩
 | brk=>obtain⟨σ',H',I,q⟩:=h;exact⟨σ',H',I.eB,q⟩
 | cont=>obtain⟨σ',H',I,q⟩:=h;exact⟨σ',H',I.eB,q⟩
 | ret u=>obtain⟨v,σ',H',I,r,q⟩:=h;exact⟨v,σ',H',I.eB,r,q⟩
theorem iL.lR {st:List Stmt} {t:TS} (h:iL X.lR st t):iL X st t:=fun pins s σ H D I hw =>
 wpAny_mono (h pins s σ H D (I.jx _) hw) (fun _ _ q=>q.eB) fun _ _ z=>False.elim z
end
section
variable {X:Cx} {st:Stmt} {rest:List Stmt} {t u:TS} {e:Expr} {te:TE} {pos:Pos}
def xI:TS:=fun D σ H=>D.nx σ H
def br (t u:TS):TS:=fun D σ H=>t { D with nx:=u D } σ H
theorem aH:iL X [] xI:=fun _ _ σ H _ I h=>wpAny_execs_nil ⟨σ,H,I,h⟩
theorem ae (h1:PS X st t) (h2:iL X rest u):iL X (st::rest) (br t u):=by
 intro pins s σ H D I h
 refine wpAny_execs_cons (bj (h1 pins s σ H { D with nx:=u D } I h) fun f s1 q=>?_)
 cases f with
 | next =>
  obtain⟨σ',H',I',q⟩:=q
  exact h2 pins s1 σ' H' D I' q
 | ret v=>exact q
 | brk=>exact q
 | cont=>exact q
theorem aj (h1:PS X st t):iL X [st] t:=by
 intro pins s σ H D I h
 refine wpAny_execs_cons (bj (h1 pins s σ H D I h) fun f s1 q=>?_)
 cases f with
 | next=>exact wpAny_execs_nil q
 | ret v=>exact q
 | brk=>exact q
 | cont=>exact q
theorem Inv.quiet {pins:List (Addr × Obj)} {σ:St} {H:Hp} {s:Shared} (I:Inv X pins σ H s):interactive X.env=false:=by simp [interactive,I.ok.kind]
def xG (te:TE):TS:=fun D σ H=>te σ H fun _ H1=>D.nx σ H1
theorem c5 (he:PE X e te) (hs:swapsWith e none pos.line X.env=pure false:=by rfl):PS X (.Expr e pos) (xG te):=by
 intro pins s σ H D I h
 exact wpAny_Expr_any (bj (he pins s σ H _ I h) fun v s1 ⟨x,H1,I1,r1,q1⟩=>⟨σ,H1,I1,q1⟩) I.quiet hs
def eY (te:TE):TS:=fun D σ H=>te σ H D.rt
theorem aC (he:PE X e te):PS X (.Return (some e) pos) (eY te):=by
 intro pins s σ H D I h
 exact wpAny_Return_some (bj (he pins s σ H _ I h) fun v s1 ⟨x,H1,I1,r1,q1⟩=>⟨x,σ,H1,I1,r1,q1⟩)
def Ac:TS:=fun D _ H=>D.rt .non H
def zw (c:TT) (t u:TS):TS:=fun D σ H=>c σ H fun b H1=>if b=true then t D σ H1 else u D σ H1
theorem aY {c:Expr} {a b:List Stmt} {tc:TT} (hc:PT X c tc) (ha:iL X a t) (hb:iL X b u):PS X (.If c a b pos) (zw tc t u):=by
 intro pins s σ H D I h
 refine wpAny_If (bj (hc pins s σ H _ I h) fun d s1 ⟨H1,I1,q1⟩=>?_)
 cases d with
 | true=>exact ha pins s1 σ H1 D I1 q1
 | false=>exact hb pins s1 σ H1 D I1 q1
end
abbrev TG:=V→St→Hp→(St→Hp→Prop)→Prop
abbrev zJ:=List V→St→Hp→(St→Hp→Prop)→Prop
def PG (X:Cx) (target:Expr) (t:TG):Prop :=
 ∀(pins:List (Addr × Obj)) (s:Shared) (σ:St) (H:Hp) (v:V) (u:Value) (Q:St→Hp→Prop),Inv X pins σ H s→RelV v u→t v σ H Q →
  wpAny (model X.prog X.w) X.A (assign target X.env u) (fun _ s'=>∃ σ' H',Inv X pins σ' H' s'∧Q σ' H') X.xe s
def B9 (X:Cx) (ts:List Expr) (t:zJ):Prop :=
 ∀(pins:List (Addr × Obj)) (s:Shared) (σ:St) (H:Hp) (vs:List V) (us:List Value) (Q:St→Hp→Prop),Inv X pins σ H s→Vals vs us→t vs σ H Q →
  wpAny (model X.prog X.w) X.A (assignInOrder ((assignEach ts X.env).map (·.2)) us) (fun _ s'=>∃ σ' H',Inv X pins σ' H' s'∧Q σ' H') X.xe s
abbrev Df:=V→V→V→Hp→(Hp→Prop)→Prop
abbrev De:=V→V→Hp→VK→Prop
def DN (X:Cx) (op:Operator) (t:De):Prop :=
 ∀(pins:List (Addr × Obj)) (s:Shared) (σ:St) (H:Hp) (x y:V) (v u:Value) (Q:VK),Inv X pins σ H s→RelV x v→RelV y u→t x y H Q →
  wpAny (model X.prog X.w) X.A (inplaceOp op v u) (EP X pins σ Q) X.xe s
section
variable {X:Cx} {pos:Pos}
def cF (i:Nat):TG:=fun v σ H Q=>Q (σ.set i (some v)) H
theorem ax {i:Nat} {x:Str} (hN:X.N.Nodup) (hi:X.N[i]?=some x) (hx:Loc X.env.scope x) (hf:X.fn x=true∨X.env.scope.names.lookup x=some .local:=by first | exact .inl rfl | exact .inr rfl | assumption):PG X (.Name x pos) (cF i):=by
 intro pins s σ H v u Q I r h
 exact wpAny_assign_Name (cV I hN hi hx r (fun s' I'=>⟨_,H,I',h⟩) hf)
def vj:zJ:=fun vs σ H Q=>vs=[]∧Q σ H
def jX (t:TG) (u:zJ):zJ:=fun vs σ H Q=>∃ v r,vs=v::r∧t v σ H fun σ' H'=>u r σ' H' Q
theorem aT:B9 X [] vj:=by
 intro pins s σ H vs us Q I r h
 obtain⟨e,h⟩:=h
 subst e
 cases r
 exact assignInOrder_nil ⟨σ,H,I,h⟩
theorem aA {e:Expr} {es:List Expr} {t:TG} {u:zJ} (h1:PG X e t) (h2:B9 X es u)
  (hs:(assignEach (e::es) X.env).map (·.2)=assign e X.env::(assignEach es X.env).map (·.2):=by rfl):B9 X (e::es) (jX t u):=by
 intro pins s σ H vs us Q I r h
 obtain⟨v,vr,e1,h⟩:=h
 subst e1
 cases r with
 | cons r rr =>
  rw [hs]
  refine assignInOrder_cons (bj (h1 pins s σ H _ _ _ I r h) fun _ s1 ⟨σ1,H1,I1,q1⟩=>?_)
  exact h2 pins s1 σ1 H1 _ _ Q I1 rr q1
def qF (K:PySem.W.Frag) (n:Nat) (t:zJ):TG:=fun v σ H Q=>∃ a xs,v=.ref a∧bC K H a xs∧xs.length=n∧t xs σ H Q
theorem bQ {es:List Expr} {k:Nat} {t:zJ} {n:Nat} (hc:X.calm=true) (h:B9 X es t)
  (hn:(assignEach es X.env).length=n:=by rfl) (hst:(assignEach es X.env).findIdx? (·.1)=none:=by rfl):PG X (.Tuple es k pos) (qF X.K n t):=by
 intro pins s σ H v u Q I r hw
 obtain⟨a,xs,e1,hq,hl,hw⟩:=hw
 subst e1
 cases r
 obtain⟨its,rv,ht,hz⟩:=I.tuple hq
 refine assign_Tuple_tuple (I.ok.hd hc) ht (by simp [hn,← hl,rv.length]) hst fun h' hx=>?_
 have I1:Inv X pins σ H { s with heap:=h' }:=I.kept (t':=s.toks) fun b o e=>hx b o (Nat.ne_of_lt (Heap.lt_size e)) e
 exact h pins _ σ H xs _ Q I1 (by simpa using rv) hw
def Cf (to ti:TE) (t:Df):TG:=fun v σ H Q=>to σ H fun o H1=>ti σ H1 fun i H2=>t o i v H2 fun H3=>Q σ H3
def uF (te:TE) (g:TG):TS:=fun D σ H=>te σ H fun x H1=>g x σ H1 D.nx
theorem cK {tg e:Expr} {te:TE} {g:TG} (he:PE X e te) (hg:PG X tg g) (hs:swapsWithSole [tg] e pos.line X.env=pure false:=by rfl) (hw:swappedStores [tg] e X.env=pure none:=by rfl)
  (h1:(assignEach [tg] X.env).map (·.2)=[assign tg X.env]:=by rfl):PS X (.Assign [tg] e pos) (uF te g):=by
 intro pins s σ H D I h
 refine wpAny_Assign_stores (bj (he pins s σ H _ I h) fun v s1 ⟨x,H1,I1,r1,q1⟩=>?_) hs hw
 rw [h1]
 exact bj (hg pins s1 σ H1 x v _ I1 r1 q1) fun _ s2 q=>q
theorem ar {i:Nat} {x:Str} {e:Expr} {te:TE} {pos':Pos} (hN:X.N.Nodup) (hi:X.N[i]?=some x) (hx:Loc X.env.scope x) (he:PE X e te) (hs:swapsWith e (some (.Name x pos')) pos.line X.env=pure false:=by rfl) (hf:X.fn x=true∨X.env.scope.names.lookup x=some .local:=by first | exact .inl rfl | exact .inr rfl | assumption) :
  PS X (.Assign [.Name x pos'] e pos) (uF te (cF i)):=by
 intro pins s σ H D I h
 refine wpAny_Assign_Name (bj (he pins s σ H _ I h) fun v s1 ⟨y,H1,I1,r1,q1⟩=>?_) hs
 exact cV I1 hN hi hx r1 (fun s2 I2=>⟨_,H1,I2,q1⟩) hf
def BI (i j:Nat) (ta:TA):TS:=fun D σ H=>ta σ H fun vs H1=>∃ v w,vs=[v,w]∧D.nx ((σ.set i (some v)).set j (some w)) H1
theorem ri {i j:Nat} {x y:Str} {a b:Expr} {ta:TA} {px py pt:Pos} {kt k2 pt2} (hc:X.calm=true) (hN:X.N.Nodup) (hi:X.N[i]?=some x) (hj:X.N[j]?=some y) (hij:i≠j)
  (hx:X.env.scope.names.lookup x=some .local) (hy:X.env.scope.names.lookup y=some .local) (ha:PA X [a,b] ta)
  (hw:swappedStores [.Tuple [.Name x px,.Name y py] kt pt] (.Tuple [a,b] k2 pt2) X.env=pure (some [x,y]))
  (hs:swapsWithSole [.Tuple [.Name x px,.Name y py] kt pt] (.Tuple [a,b] k2 pt2) pos.line X.env=pure false:=by rfl) :
  PS X (.Assign [.Tuple [.Name x px,.Name y py] kt pt] (.Tuple [a,b] k2 pt2) pos) (BI i j ta):=by
 intro pins s σ H D I h
 rw [exec_Assign_arm]
 refine wpAny_bind (wpAny_standAt ?_)
 rw [hs]
 refine wpAny_bind (wpAny_pure ?_)
 rw [if_neg (by decide)]
 refine wpAny_bind (Tuple_ (bj (ha _ pins s σ H _ I h) fun us s1 ⟨vs,H1,I1,r1,q1⟩=>?_))
 obtain⟨v,w,e1,q1⟩:=q1
 subst e1
 obtain⟨u1,u2,rfl,rv,rw'⟩:∃ u1 u2,us=[u1,u2]∧RelV v u1∧RelV w u2:=by
  cases r1 with
  | cons p q =>
   cases q with
   | cons p' q' =>
    cases q'
    exact⟨_,_,rfl,p,p'⟩
 refine wpAny_newObj_type ?_ (by show 2≤sizeLine;decide)
 have I2:Inv X pins σ H1 { s1 with heap:=s1.heap.push { cls:=.type "tuple",data:=.seq [u1,u2].toArray } }:=I1.kept (t':=s1.toks) fun b o e=>Heap.get?_push_of_some _ e
 rw [hw]
 refine wpAny_bind (wpAny_pure ?_)
 show wpAny (model X.prog X.w) X.A (do rule "assign.swapped-stores";let items ← unpackItems (.ref s1.heap.objs.size) 2 none;assignInOrder [fun v=>bindName X.env y v,fun v=>bindName X.env x v] items.reverse;pure Flow.next) _ _ _
 refine wpAny_bind (wpAny_rule (wpAny_bind (unpackItems_tuple (items:=#[u1,u2]) (I.ok.hd hc) (IsTup.new s1.heap _) fun h' hx'=>?_)))
 have I3:=I2.kept (h':=h') (t':=s1.toks) fun b o e=>hx' b o (Nat.ne_of_lt (Heap.lt_size e)) e
 show wpAny _ _ (assignInOrder [fun v=>bindName X.env y v,fun v=>bindName X.env x v] [u2,u1] >>= fun _=>pure Flow.next) _ _ _
 refine wpAny_bind (assignInOrder_cons (wpAny_bindName (cV I3 hN hj (.inl hy) rw' (fun s2 I4=>?_) (.inr hy))))
 refine assignInOrder_cons (wpAny_bindName (cV I4 hN hi (.inl hx) rv (fun s3 I5=>assignInOrder_nil (wpAny_pure ?_)) (.inr hx)))
 rw [List.set_comm _ _ (Ne.symm hij)] at I5
 exact⟨_,H1,I5,q1⟩
def BC (i:Nat) (te:TE) (ti:De):TS:=fun D σ H=>∃ x,σ[i]?=some (some x)∧te σ H fun y H1=>ti x y H1 fun z H2=>D.nx (σ.set i (some z)) H2
theorem cL {i:Nat} {x:Str} {e:Expr} {te:TE} {op:Operator} {ti:De} {pos':Pos} (hN:X.N.Nodup) (hi:X.N[i]?=some x) (hx:Loc X.env.scope x) (he:PE X e te) (ho:DN X op ti) (hf:X.fn x=true∨X.env.scope.names.lookup x=some .local:=by first | exact .inl rfl | exact .inr rfl | assumption) :
  PS X (.AugAssign (.Name x pos') op e pos) (BC i te ti):=by
 intro pins s σ H D I h
 obtain⟨v,e1,h⟩:=h
 obtain⟨m,hn,hl⟩:=I.loc
 have vis:BU X.env.scope x:=by rcases hx with k | k;exact .inl k;exact .inr (.inl k)
 obtain⟨u,r,l⟩:=hl i x v hi e1 vis
 refine wpAny_AugAssign_Name ?_
 have go:wpAny (model X.prog X.w) X.A (eval e X.env) (fun w s₂=>wpAny (model X.prog X.w) X.A (inplaceOp op u w) (fun r s₃=>wpAny (model X.prog X.w) X.A (storeName X.env x r) (fun _=>SP X pins D .next) X.xe s₃) X.xe s₂) X.xe s:=by
  refine bj (he pins s σ H _ I h) fun w s1 ⟨y,H1,I1,r1,q1⟩=>?_
  refine bj (ho pins s1 σ H1 v y u w _ I1 r r1 q1) fun z s2 ⟨zv,H2,I2,r2,q2⟩=>?_
  exact cV I2 hN hi hx r2 (fun s3 I3=>⟨_,H2,I3,q2⟩) hf
 rcases l with⟨hk,hm⟩|⟨hk,c,hc,hcell⟩
 ·exact wpAny_loadName_local I.ok.kind hk hn hm go
 ·rcases hk with hk | hk
  ·exact wpAny_loadName_cell I.ok.kind hk hc hcell go
  ·rcases hx with k | k
   ·have:X.env.scope.names.lookup x=some .free:=hk
    rw [k] at this;cases this
   ·have:X.env.scope.names.lookup x=some .free:=hk
    rw [k] at this;cases this
end
section
variable {X:Cx} {pos:Pos}
def xR (c:TT) (tb:TS):TS:=fun D σ H=>∃ W:Nat→St→Hp→Prop,(∃ m,W m σ H)∧∀ m σ H,W m σ H →
 c σ H fun b H1=>if b=true then ∃ N:St→Hp→Prop,(∀ σ' H',N σ' H'→∃ m',m'<m∧W m' σ' H')∧tb { D with nx:=N,ct:=N,bk:=D.nx } σ H1 else D.nx σ H1
theorem aV {c:Expr} {body:List Stmt} {tc:TT} {tb:TS} (hp:PassesOwn (model X.prog X.w) X.A X.env X.xe) (hc:PT X c tc) (hb:iL X body tb):PS X (.While c body [] pos) (xR tc tb):=by
 intro pins s σ H D I h
 obtain⟨W,⟨m0,w0⟩,turn⟩:=h
 refine wpAny_While (codeAny_whileLoop (fun n s'=>∃ σ' H',Inv X pins σ' H' s'∧W n σ' H') ?_ m0 ⟨σ,H,I,w0⟩)
 rintro n s1 ⟨σ1,H1,I1,w1⟩
 refine wpAny_passesOwn hp (bj (hc pins s1 σ1 H1 _ I1 (turn n σ1 H1 w1)) fun b s2 ⟨H2,I2,q2⟩=>?_)
 cases b with
 | true =>
  obtain⟨N,hN,q2⟩:=q2
  rw [if_pos rfl]
  refine wpAny_passesOwn hp (bj (hb pins s2 σ1 H2 _ I2 q2) fun f s3 q3=>?_)
  cases f with
  | next =>
   obtain⟨σ3,H3,I3,n3⟩:=q3
   obtain⟨m',hm,w3⟩:=hN σ3 H3 n3
   exact⟨m',hm,σ3,H3,I3,w3⟩
  | cont =>
   obtain⟨σ3,H3,I3,n3⟩:=q3
   obtain⟨m',hm,w3⟩:=hN σ3 H3 n3
   exact⟨m',hm,σ3,H3,I3,w3⟩
  | brk=>exact q3
  | ret v=>exact q3
 | false =>
  rw [if_neg Bool.false_ne_true]
  exact wpAny_execs_nil ⟨σ1,H2,I2,q2⟩
end
structure It where
 go:Nat→Hp→Prop
 yld:Nat→Hp→V→Hp→Prop
 stop:Nat→Hp→Prop
def mr (X:Cx) (pins:List (Addr × Obj)) (H:Hp) (b:Addr):Prop :=
 H b=none∧b≠X.env.locals∧b∉X.fs∧(b∈X.ex∨X.s₀.heap.objs.size≤b)∧(∀ x c,X.env.cells.lookup x=some c→c≠b)∧∀ p∈X.pn++pins,p.1≠b
theorem Inv.mG {X:Cx} {pins:List (Addr × Obj)} {σ:St} {H H':Hp} {s:Shared} {b:Addr} (I:Inv X pins σ H s) (hb:s.heap.objs.size≤b) (hn:H' b=none):mr X pins H' b:=by
 refine⟨hn,Nat.ne_of_gt (Nat.lt_of_lt_of_le I.lt hb),I.yC hb,.inr (Nat.le_trans I.sz hb),fun x c e z=>?_,fun p hp z=>?_⟩
 ·obtain⟨v,q⟩:=I.cell x c e
  exact absurd (Nat.lt_of_lt_of_le q.lt (by rw [z];exact hb)) (Nat.lt_irrefl _)
 ·exact absurd (Nat.lt_of_lt_of_le (Heap.lt_size (I.pin p hp).1) (by rw [z];exact hb)) (Nat.lt_irrefl _)
structure Turn (P:Program) (w:World) (K:PySem.W.Frag) (tg:Expr) (J:It) (fp:List Addr) (it:Addr) (tn:Nat→Heap→Prop):Prop where
 mem:it∈fp
 obj:∀ i h,tn i h→∀ b∈fp,∃ o,h.get? b=some o∧∀ v,o.data≠.cell v
 keep:∀ i h h',tn i h→(∀ b∈fp,∀ o,h.get? b=some o→h'.get? b=some o)→tn i h'
 item:∀(X:Cx),X.prog=P→X.w=w→X.K=K→X.calm=true→∀(i:Nat) (pins:List (Addr × Obj)) (s:Shared) (σ:St) (H:Hp) (E:Value→Shared→Prop),Inv X pins σ H s→(∀ b∈fp,mr X pins H b)→tn i s.heap→J.go i H →
  wpAny (model P w) X.A (pyNext (.ref it)) (fun r s1=>∃ u,r=some u ∧
   wpAny (model P w) X.A (letOwnedTupleGo tg (.ref it) u) (fun _ s2=>∃ x H',Inv X pins σ H' s2∧RelV x u∧J.yld i H x H'∧tn (i+1) s2.heap∧∀ b∈fp,H' b=none) E s1) E s
 done:∀(X:Cx),X.prog=P→X.w=w→X.K=K→X.calm=true→∀(i:Nat) (pins:List (Addr × Obj)) (s:Shared) (σ:St) (H:Hp) (E:Value→Shared→Prop),Inv X pins σ H s→(∀ b∈fp,mr X pins H b)→tn i s.heap→J.stop i H →
  wpAny (model P w) X.A (pyNext (.ref it)) (fun r s1=>r=none∧Inv X pins σ H s1) E s
 self:∀(A:Around) (i:Nat) (s:Shared) (Q:Value→Shared→Prop) (E:Value→Shared→Prop),tn i s.heap→Q (.ref it) s→wpAny (model P w) A (pyIter (.ref it)) Q E s
abbrev TI:=St→Hp→(It→Hp→Prop)→Prop
def Dd (X:Cx) (pins:List (Addr × Obj)) (σ:St) (tg:Expr) (R:It→Hp→Prop) (itv:Value) (s2:Shared):Prop :=
 ∃(it:Addr) (fp:List Addr) (tn:Nat→Heap→Prop) (J:It) (H':Hp),itv=.ref it∧Inv X pins σ H' s2∧Turn X.prog X.w X.K tg J fp it tn∧tn 0 s2.heap∧(∀ b∈fp,mr X pins H' b)∧R J H'
def PI (X:Cx) (tg iter:Expr) (wi:TI):Prop :=
 ∀(pins:List (Addr × Obj)) (s:Shared) (σ:St) (H:Hp) (R:It→Hp→Prop),Inv X pins σ H s→wi σ H R →
  wpAny (model X.prog X.w) X.A (eval iter X.env) (fun v s1=>wpAny (model X.prog X.w) X.A (pyIter v) (Dd X pins σ tg R) X.xe s1) X.xe s
theorem vp {M:Model} {A:Around} {E:Value→Shared→Prop} {s:Shared} {tg:Expr} {it:Addr} {u:Value} {o:Obj} {n:String} {vs:Array Value} {Q:Unit→Shared→Prop} (ho:s.heap.get? it=some o) (hc:o.cls=.type n) (hd:o.data=.fields vs)
    (hn:["enumerate","zip","dict_itemiterator","dict_reverseitemiterator","odict_iterator","itertools.zip_longest","itertools.pairwise"].contains n=false) (hQ:Q () s):wpAny M A (letOwnedTupleGo tg (.ref it) u) Q E s:=by
  unfold letOwnedTupleGo
  cases tg<;>first
    | exact wpAny_pure hQ
    | (cases u<;>first
        | exact wpAny_pure hQ
        | (refine wpAny_bind (wpAny_load ho ?_)
           rw [hc,hd]
           show wpAny M A (if (["enumerate","zip","dict_itemiterator","dict_reverseitemiterator","odict_iterator","itertools.zip_longest","itertools.pairwise"].contains n && vs[0]?==some (rawInt _))=true then _ else _) Q E s
           rw [if_neg (by intro h;rw [hn,Bool.false_and] at h;cases h)]
           exact wpAny_pure hQ))
def Aj (K:PySem.W.Frag) (a:Addr):It :=
 ⟨fun i H=>∃ xs x,aX K H a xs∧xs[i]?=some x,fun i H x H'=>H'=H∧∀ xs,aX K H a xs→xs[i]?=some x,fun i H=>∃ xs,aX K H a xs∧xs.length≤i⟩
def Ak (K:PySem.W.Frag) (a:Addr):It :=
 ⟨fun i H=>∃ xs x,bC K H a xs∧xs[i]?=some x,fun i H x H'=>H'=H∧∀ xs,bC K H a xs→xs[i]?=some x,fun i H=>∃ xs,bC K H a xs∧xs.length≤i⟩
def zH (lo:Int) (n:Nat):It:=⟨fun i _=>i<n,fun i H x H'=>H'=H∧x=.int (lo+i),fun i _=>n≤i⟩
theorem uI {P:Program} {w:World} {K:PySem.W.Frag} {tg:Expr} (a it:Addr):Turn P w K tg (Aj K a) [it] it (fun i h=>h.IsListIter it a i) where
 mem:=by simp
 obj:=fun i h st b hb=>by
  have e:b=it:=by simpa using hb
  subst e
  obtain⟨o,e,c,d⟩:=st
  exact⟨o,e,fun v z=>by rw [d] at z;cases z⟩
 keep:=fun i h h' st k=>st.at fun o e=>k it (by simp) o e
 item:=by
  intro X hP hw hK hc i pins s σ H E I hf st hg
  subst hP hw hK
  obtain⟨xs,x,hq,hx⟩:=hg
  obtain⟨its,rv,p,hz⟩:=I.list hq
  obtain⟨u,hu,ru⟩:=rv.get hx
  obtain⟨f0,f1,f2,f3,f4,f5⟩:=hf it (by simp)
  refine wpAny_pyNext_list_item st p.isList (x:=u) (by simpa using hu) fun h' st' sb=>?_
  have I1:Inv X pins σ H { s with heap:=h' }:=I.turned (t':=s.toks) (fun b o hb e=>(sb.2 b hb).trans e) f0 f1 f3 f4 f5
  obtain⟨o,e,c,d⟩:=id st'
  exact⟨u,rfl,vp (s:={ s with heap:=h' }) e c d (by decide) ⟨x,H,I1,ru,⟨rfl,fun ys hy=>by rw [I.j6 hy hq];exact hx⟩,st',fun b hb=>(hf b hb).1⟩⟩
 done:=by
  intro X hP hw hK hc i pins s σ H E I hf st hg
  subst hP hw hK
  obtain⟨xs,hq,hx⟩:=hg
  obtain⟨its,rv,p,hz⟩:=I.list hq
  obtain⟨f0,f1,f2,f3,f4,f5⟩:=hf it (by simp)
  have hl:=rv.length
  exact wpAny_pyNext_list_end (I.ok.hd hc) st p.isList (by simp;omega) fun h' eb=>⟨rfl,I.turned (t':=s.toks) (fun b o hb e=>eb b o hb e) f0 f1 f3 f4 f5⟩
 self:=fun _ _ _ _ _ st h=>wpAny_pyIter_listiter st h
theorem rK {P:Program} {w:World} {K:PySem.W.Frag} {tg:Expr} (a it:Addr):Turn P w K tg (Ak K a) [it] it (fun i h=>h.IsTupleIter it a i) where
 mem:=by simp
 obj:=fun i h st b hb=>by
  have e:b=it:=by simpa using hb
  subst e
  obtain⟨o,e,c,d⟩:=st
  exact⟨o,e,fun v z=>by rw [d] at z;cases z⟩
 keep:=fun i h h' st k=>st.at fun o e=>k it (by simp) o e
 item:=by
  intro X hP hw hK hc i pins s σ H E I hf st hg
  subst hP hw hK
  obtain⟨xs,x,hq,hx⟩:=hg
  obtain⟨its,rv,p,hz⟩:=I.tuple hq
  obtain⟨u,hu,ru⟩:=rv.get hx
  obtain⟨f0,f1,f2,f3,f4,f5⟩:=hf it (by simp)
  refine wpAny_pyNext_tuple_item st (show s.heap.IsTuple a its.toArray from p) (x:=u) (by simpa using hu) fun h' st' sb=>?_
  have I1:Inv X pins σ H { s with heap:=h' }:=I.turned (t':=s.toks) (fun b o hb e=>(sb.2 b hb).trans e) f0 f1 f3 f4 f5
  obtain⟨o,e,c,d⟩:=id st'
  exact⟨u,rfl,vp (s:={ s with heap:=h' }) e c d (by decide) ⟨x,H,I1,ru,⟨rfl,fun ys hy=>by rw [I.mj hy hq];exact hx⟩,st',fun b hb=>(hf b hb).1⟩⟩
 done:=by
  intro X hP hw hK hc i pins s σ H E I hf st hg
  subst hP hw hK
  obtain⟨xs,hq,hx⟩:=hg
  obtain⟨its,rv,p,hz⟩:=I.tuple hq
  obtain⟨f0,f1,f2,f3,f4,f5⟩:=hf it (by simp)
  have hl:=rv.length
  exact wpAny_pyNext_tuple_end (I.ok.hd hc) st (show s.heap.IsTuple a its.toArray from p) (by simp;omega) fun h' eb=>⟨rfl,I.turned (t':=s.toks) (fun b o hb e=>eb b o hb e) f0 f1 f3 f4 f5⟩
 self:=fun _ _ _ _ _ st h=>wpAny_pyIter_tupleiter st h
theorem rJ {P:Program} {w:World} {K:PySem.W.Frag} {tg:Expr} (it:Addr) (lo:Int) (n:Nat):Turn P w K tg (zH lo n) [it] it (fun i h=>IsRangeIter h it (lo+(i:Nat)*1) ((n:Int)-(i:Nat)) 1) where
 mem:=by simp
 obj:=fun i h st b hb=>by
  have e:b=it:=by simpa using hb
  subst e
  exact⟨_,st,fun v z=>by
   have z':Data.fields _=Data.cell v:=z
   cases z'⟩
 keep:=fun i h h' st k=>k it (by simp) _ st
 item:=by
  intro X hP hw hK hc i pins s σ H E I hf st hg
  subst hP hw hK
  obtain⟨f0,f1,f2,f3,f4,f5⟩:=hf it (by simp)
  have W:=Walks.range (prog:=X.prog) (w:=X.w) (I.ok.hd hc) it lo 1 n
  refine W.item i s _ _ hg st fun v h' tk hv st' kk=>?_
  obtain⟨t,rfl⟩:=hv
  have I1:Inv X pins σ H { s with heap:=h',toks:=tk }:=I.turned (fun b o hb e=>kk b o (by simpa using hb) e) f0 f1 f3 f4 f5
  refine⟨_,rfl,vp (s:={ s with heap:=h',toks:=tk }) (n := "range_iterator") st' rfl rfl (by decide) ⟨.int (lo+i),H,I1,⟨t,?_⟩,⟨rfl,rfl⟩,st',fun b hb=>(hf b hb).1⟩⟩
  rw [Int.mul_one]
 done:=by
  intro X hP hw hK hc i pins s σ H E I hf st hg
  subst hP hw hK
  obtain⟨f0,f1,f2,f3,f4,f5⟩:=hf it (by simp)
  exact wpAny_pyNext_range_end (I.ok.hd hc) st (by have:n≤i:=hg;omega) fun h' eb=>⟨rfl,I.turned (t':=s.toks) (fun b o hb e=>eb b o hb e) f0 f1 f3 f4 f5⟩
 self:=fun _ _ _ _ _ st h=>wpAny_pyIter_rangeiter st h
end L2
namespace L2
open PySem PySem.Spec PyProof.Rows
section
variable {X:Cx} {tg:Expr}
def vB (K:PySem.W.Frag) (tl:TE):TI:=fun σ H R=>tl σ H fun x H1=>∃ a,x=.ref a∧(∃ xs,aX K H1 a xs)∧R (Aj K a) H1
def AF (K:PySem.W.Frag) (tl:TE):TI:=fun σ H R=>tl σ H fun x H1=>∃ a,x=.ref a∧(∃ xs,bC K H1 a xs)∧R (Ak K a) H1
theorem b9 {l:Expr} {tl:TE} (hl:PE X l tl):PI X tg l (vB X.K tl):=by
 intro pins s σ H R I h
 refine bj (hl pins s σ H _ I h) fun v s1 ⟨x,H1,I1,r1,q1⟩=>?_
 obtain⟨a,e,⟨xs,hq⟩,q⟩:=q1
 subst e
 cases r1
 obtain⟨its,rv,p,hz⟩:=I1.list hq
 refine wpAny_pyIter_list p.isList ?_
 refine⟨s1.heap.objs.size,[s1.heap.objs.size],_,_,H1,rfl,I1.kept (t':=s1.toks) fun b o e=>Heap.get?_push_of_some _ e,uI a _,⟨_,Heap.get?_push_size _ rfl,rfl,rfl⟩,fun b hb=>?_,q⟩
 have e:b=s1.heap.objs.size:=by simpa using hb
 subst e
 exact I1.mG (Nat.le_refl _) (I1.hok.fresh (Nat.le_refl _))
theorem fO {l:Expr} {tl:TE} (hl:PE X l tl):PI X tg l (AF X.K tl):=by
 intro pins s σ H R I h
 refine bj (hl pins s σ H _ I h) fun v s1 ⟨x,H1,I1,r1,q1⟩=>?_
 obtain⟨a,e,⟨xs,hq⟩,q⟩:=q1
 subst e
 cases r1
 obtain⟨its,rv,p,hz⟩:=I1.tuple hq
 refine wpAny_pyIter_tuple (show s1.heap.IsTuple a its.toArray from p) ?_
 refine⟨s1.heap.objs.size,[s1.heap.objs.size],_,_,H1,rfl,I1.kept (t':=s1.toks) fun b o e=>Heap.get?_push_of_some _ e,rK a _,⟨_,Heap.get?_push_size _ rfl,rfl,rfl⟩,fun b hb=>?_,q⟩
 have e:b=s1.heap.objs.size:=by simpa using hb
 subst e
 exact I1.mG (Nat.le_refl _) (I1.hok.fresh (Nat.le_refl _))
theorem wR {pins:List (Addr × Obj)} {σ:St} {H:Hp} {s:Shared} {R:It→Hp→Prop} {E:Value→Shared→Prop} {lo hi:Int} {t u v:Tok} {tk:Nat} (I:Inv X pins σ H s) (h1:-(2^62)≤lo) (h2:lo<2^62) (h3:-(2^62)≤hi) (h4:hi<2^62)
  (q:R (zH lo (hi-lo).toNat) H):wpAny (model X.prog X.w) X.A (pyIter (.ref s.heap.objs.size)) (Dd X pins σ tg R) E { s with heap:=s.heap.push { cls:=.type "range",data:=.fields #[.int lo t,.int hi u,.int 1 v] },toks:=tk }:=by
 refine wpAny_pyIter_range (IsRange.new ..) (small_one h1 h2 h3 h4) ?_
 have I1:Inv X pins σ H { s with heap:=s.heap.push { cls:=.type "range",data:=.fields #[.int lo t,.int hi u,.int 1 v] },toks:=tk }:=I.kept fun b o e=>Heap.get?_push_of_some _ e
 refine⟨(s.heap.push { cls:=.type "range",data:=.fields #[.int lo t,.int hi u,.int 1 v] }).objs.size,[(s.heap.push { cls:=.type "range",data:=.fields #[.int lo t,.int hi u,.int 1 v] }).objs.size],_,_,H,rfl,
  I1.kept (t':=tk) fun b o e=>Heap.get?_push_of_some _ e,rJ _ lo (hi-lo).toNat,?_,fun b hb=>?_,q⟩
 ·have e1:lo+((0:Nat):Int)*1=lo:=by simp
  have e2:(((hi-lo).toNat:Nat):Int)-((0:Nat):Int)=Builtin.Range.rangeSize lo hi 1:=by rw [rangeSize_one];split<;>omega
  show IsRangeIter _ _ (lo+((0:Nat):Int)*1) ((((hi-lo).toNat:Nat):Int)-((0:Nat):Int)) 1
  rw [e1,e2]
  exact Heap.get?_push_size _ rfl
 ·have e:b=(s.heap.push { cls:=.type "range",data:=.fields #[.int lo t,.int hi u,.int 1 v] }).objs.size:=by simpa using hb
  subst e
  exact I1.mG (Nat.le_refl _) (I1.hok.fresh (Nat.le_refl _))
def vC (ta:TA):TI:=fun σ H R=>ta σ H fun vs H1=>∃ j:Int,vs=[.int j] ∧ -(2^62)≤j∧j<2^62∧R (zH 0 j.toNat) H1
def zT (ta:TA):TI:=fun σ H R=>ta σ H fun vs H1=>∃ i j:Int,vs=[.int i,.int j]∧(-(2^62)≤i∧i<2^62 ∧ -(2^62)≤j∧j<2^62)∧R (zH i (j-i).toNat) H1
theorem gk {a:Expr} {ta:TA} {p pos:Pos} (hg:Gl X "range") (hm:X.mg "range"=none) (ha:PA X [a] ta) (hs:starEach [a] X.env=[(false,eval a X.env)]:=by rfl):PI X tg (.Call (.Name "range" p) [a] [] pos) (vC ta):=by
 intro pins s σ H R I h
 refine Call_ (gR I hg hm boot_range (PyProof.Rows.callWith_type1 (bj (ha pos pins s σ H _ I h) fun us s1 ⟨vs,H1,I1,r1,q1⟩=>?_) hs rfl))
 obtain⟨j,e,q1,q2,q⟩:=q1
 subst e
 cases r1 with
 | cons r rr =>
  cases rr
  obtain⟨t,rfl⟩:=r
  exact call_range_1 (wR I1 (by omega) (by omega) q1 q2 (by simpa using q))
def CQ (wi:TI) (g:TG) (tb:TS):TS:=fun D σ H=>wi σ H fun J H1=>∃ W:Nat→Nat→St→Hp→Prop,(∃ m,W 0 m σ H1)∧∀ i m σ H,W i m σ H →
 (J.stop i H∧D.nx σ H)∨(J.go i H∧∃ N:St→Hp→Prop,(∀ σ' H',N σ' H'→∃ m',m'<m∧W (i+1) m' σ' H')∧∀ x H',J.yld i H x H'→g x σ H' fun σ2 H2=>tb { D with nx:=N,ct:=N,bk:=D.nx } σ2 H2)
def kC (fp:List Addr) (h:Heap):List (Addr × Obj):=fp.filterMap fun b=>(h.get? b).map fun o=>(b,o)
theorem fg {fp:List Addr} {h:Heap} {b:Addr} {o:Obj} (hb:b∈fp) (e:h.get? b=some o):(b,o)∈kC fp h:=List.mem_filterMap.mpr ⟨b,hb,by rw [e];rfl⟩
theorem ud {fp:List Addr} {h:Heap} {p:Addr × Obj} (hp:p∈kC fp h):p.1∈fp∧h.get? p.1=some p.2:=by
 obtain⟨b,hb,e⟩:=List.mem_filterMap.mp hp
 cases q:h.get? b with
 | none=>rw [q] at e;cases e
 | some o =>
  rw [q] at e
  have e':(b,o)=p:=Option.some.inj e
  subst e'
  exact⟨hb,q⟩
theorem Inv.pinned {pins:List (Addr × Obj)} {σ:St} {H:Hp} {s:Shared} {fp:List Addr} (I:Inv X pins σ H s) (hf:∀ b∈fp,mr X pins H b) (ho:∀ b∈fp,∃ o,s.heap.get? b=some o∧∀ v,o.data≠.cell v):Inv X (pins++kC fp s.heap) σ H s :=
 I.gq fun p hp=>(List.mem_append.mp hp).elim (fun z=>I.pin p (List.mem_append_right _ z)) fun z=>by
  obtain⟨hb,e⟩:=ud z
  obtain⟨f0,f1,f2,_⟩:=hf p.1 hb
  obtain⟨o,e',d⟩:=ho p.1 hb
  rw [e] at e';cases e'
  exact⟨e,f0,f1,f2,d⟩
theorem Inv.iJ {pins pl:List (Addr × Obj)} {σ:St} {H:Hp} {s:Shared} (I:Inv X (pins++pl) σ H s):Inv X pins σ H s:=I.gq fun p hp=>I.pin p (List.mem_append_right _ (List.mem_append_left _ hp))
theorem cZ {iter:Expr} {body:List Stmt} {wi:TI} {g:TG} {tb:TS} {pos:Pos} (hp:PassesOwn (model X.prog X.w) X.A X.env X.xe) (hc:X.calm=true) (hi:PI X tg iter wi) (hg:PG X tg g) (hb:iL X body tb)
  (hs:∀ x,foldedSetIterable iter X.env x=pure x:=by intro _;rfl):PS X (.For tg iter body [] pos) (CQ wi g tb):=by
 intro pins s σ H D I h
 refine wpAny_For (bj (hi pins s σ H _ I h) fun v s1 h1=>bj h1 fun itv s2 h2=>?_) hs
 obtain⟨it,fp,tn,J,H2,e,I2,T,st2,f2,W,⟨m0,w0⟩,turn⟩:=h2
 subst e
 -- what stays true of the iterator's objects through the loop
 have stat:∀{H':Hp},(∀ b∈fp,H' b=none)→∀ b∈fp,mr X pins H' b:=fun hn b hb=>⟨hn b hb,(f2 b hb).2⟩
 refine codeAny_forLoop_any (fun n s'=>∃ i σ' H',Inv X pins σ' H' s'∧tn i s'.heap∧(∀ b∈fp,H' b=none)∧W i n σ' H') ?_ m0 ⟨0,σ,H2,I2,st2,fun b hb=>(f2 b hb).1,w0⟩
 rintro n s3 ⟨i,σ3,H3,I3,st3,fr3,w3⟩
 rcases turn i n σ3 H3 w3 with⟨stop,qn⟩|⟨go,N,hN,step⟩
 ·refine wpAny_passesOwn hp (bj (T.done X rfl rfl rfl hc i pins s3 σ3 H3 X.xe I3 (stat fr3) st3 stop) fun r s4 ⟨hr,I4⟩=>?_)
  subst hr
  exact wpAny_execs_nil ⟨σ3,H3,I4,qn⟩
 ·refine wpAny_passesOwn hp (bj (T.item X rfl rfl rfl hc i pins s3 σ3 H3 X.xe I3 (stat fr3) st3 go) fun r s4 ⟨u,hr,h4⟩=>?_)
  subst hr
  refine wpAny_passesOwn hp (bj h4 fun _ s5 ⟨x,H5,I5,r5,y5,st5,fr5⟩=>?_)
  have I5':=I5.pinned (stat fr5) (T.obj _ _ st5)
  refine wpAny_passesOwn hp (bj (hg _ s5 σ3 H5 x u _ I5' r5 (step x H5 y5)) fun _ s6 ⟨σ6,H6,I6,q6⟩=>?_)
  refine wpAny_passesOwn hp (bj (hb _ s6 σ6 H6 _ I6 q6) fun f s7 q7=>?_)
  have again:∀{σ7:St} {H7:Hp},Inv X (pins++kC fp s5.heap) σ7 H7 s7→N σ7 H7→∃ m,m<n∧∃ i σ' H',Inv X pins σ' H' s7∧tn i s7.heap∧(∀ b∈fp,H' b=none)∧W i m σ' H':=fun {σ7 H7} I7 n7=>by
   obtain⟨m',hm,w7⟩:=hN σ7 H7 n7
   refine⟨m',hm,i+1,σ7,H7,I7.iJ,T.keep _ _ _ st5 fun b hb o e=>(I7.pin (b,o) (List.mem_append_right _ (List.mem_append_right _ (fg hb e)))).1,fun b hb=>?_,w7⟩
   obtain⟨o,e,d⟩:=T.obj _ _ st5 b hb
   exact (I7.pin (b,o) (List.mem_append_right _ (List.mem_append_right _ (fg hb e)))).2.1
  cases f with
  | next=>obtain⟨σ7,H7,I7,n7⟩:=q7;exact again I7 n7
  | cont=>obtain⟨σ7,H7,I7,n7⟩:=q7;exact again I7 n7
  | brk=>obtain⟨σ7,H7,I7,q7⟩:=q7;exact⟨σ7,H7,I7.iJ,q7⟩
  | ret v=>obtain⟨x7,σ7,H7,I7,r7,q7⟩:=q7;exact⟨x7,σ7,H7,I7.iJ,r7,q7⟩
end
theorem vi {K:PySem.W.Frag} {a:Addr} {xs:List V} {g:TG} {tb:TS} {D:Ends} {σ:St} {H:Hp} (Pv:Nat→St→Hp→Prop) (h0:Pv 0 σ H) (hl:∀ i σ H,i≤xs.length→Pv i σ H→aX K H a xs)
  (hs:∀ i x σ H,xs[i]?=some x→Pv i σ H→g x σ H fun σ2 H2=>tb { D with nx:=Pv (i+1),ct:=Pv (i+1),bk:=D.nx } σ2 H2) (hd:∀ σ H,Pv xs.length σ H→D.nx σ H) :
  ∃ W:Nat→Nat→St→Hp→Prop,(∃ m,W 0 m σ H)∧∀ i m σ H,W i m σ H →
   ((Aj K a).stop i H∧D.nx σ H)∨((Aj K a).go i H∧∃ N:St→Hp→Prop,(∀ σ' H',N σ' H'→∃ m',m'<m∧W (i+1) m' σ' H')∧∀ x H',(Aj K a).yld i H x H'→g x σ H' fun σ2 H2=>tb { D with nx:=N,ct:=N,bk:=D.nx } σ2 H2):=by
 refine⟨fun i m σ H=>m=xs.length-i∧i≤xs.length∧Pv i σ H,⟨xs.length,by simp,Nat.zero_le _,h0⟩,?_⟩
 rintro i m σ H ⟨rfl,hi,p⟩
 have q:=hl i σ H hi p
 by_cases hlt:i<xs.length
 ·refine .inr ⟨⟨xs,xs[i],q,by simp [hlt]⟩,Pv (i+1),fun σ' H' p'=>⟨xs.length-(i+1),by omega,rfl,hlt,p'⟩,fun x H' y=>?_⟩
  obtain⟨e,y⟩:=y
  subst e
  exact hs i x σ _ (y xs q) p
 ·have e:i=xs.length:=by omega
  subst e
  exact .inl ⟨⟨xs,q,Nat.le_refl _⟩,hd σ H p⟩
theorem yt {K:PySem.W.Frag} {a:Addr} {xs:List V} {g:TG} {tb:TS} {D:Ends} {σ:St} {H:Hp} (Pv:Nat→St→Hp→Prop) (h0:Pv 0 σ H) (hl:∀ i σ H,i≤xs.length→Pv i σ H→bC K H a xs)
  (hs:∀ i x σ H,xs[i]?=some x→Pv i σ H→g x σ H fun σ2 H2=>tb { D with nx:=Pv (i+1),ct:=Pv (i+1),bk:=D.nx } σ2 H2) (hd:∀ σ H,Pv xs.length σ H→D.nx σ H) :
  ∃ W:Nat→Nat→St→Hp→Prop,(∃ m,W 0 m σ H)∧∀ i m σ H,W i m σ H →
   ((Ak K a).stop i H∧D.nx σ H)∨((Ak K a).go i H∧∃ N:St→Hp→Prop,(∀ σ' H',N σ' H'→∃ m',m'<m∧W (i+1) m' σ' H')∧∀ x H',(Ak K a).yld i H x H'→g x σ H' fun σ2 H2=>tb { D with nx:=N,ct:=N,bk:=D.nx } σ2 H2):=by
 refine⟨fun i m σ H=>m=xs.length-i∧i≤xs.length∧Pv i σ H,⟨xs.length,by simp,Nat.zero_le _,h0⟩,?_⟩
 rintro i m σ H ⟨rfl,hi,p⟩
 have q:=hl i σ H hi p
 by_cases hlt:i<xs.length
 ·refine .inr ⟨⟨xs,xs[i],q,by simp [hlt]⟩,Pv (i+1),fun σ' H' p'=>⟨xs.length-(i+1),by omega,rfl,hlt,p'⟩,fun x H' y=>?_⟩
  obtain⟨e,y⟩:=y
  subst e
  exact hs i x σ _ (y xs q) p
 ·have e:i=xs.length:=by omega
  subst e
  exact .inl ⟨⟨xs,q,Nat.le_refl _⟩,hd σ H p⟩
theorem tP {lo:Int} {n:Nat} {g:TG} {tb:TS} {D:Ends} {σ:St} {H:Hp} (Pv:Nat→St→Hp→Prop) (h0:Pv 0 σ H)
  (hs:∀ i σ H,i<n→Pv i σ H→g (.int (lo+i)) σ H fun σ2 H2=>tb { D with nx:=Pv (i+1),ct:=Pv (i+1),bk:=D.nx } σ2 H2) (hd:∀ σ H,Pv n σ H→D.nx σ H) :
  ∃ W:Nat→Nat→St→Hp→Prop,(∃ m,W 0 m σ H)∧∀ i m σ H,W i m σ H →
   ((zH lo n).stop i H∧D.nx σ H)∨((zH lo n).go i H∧∃ N:St→Hp→Prop,(∀ σ' H',N σ' H'→∃ m',m'<m∧W (i+1) m' σ' H')∧∀ x H',(zH lo n).yld i H x H'→g x σ H' fun σ2 H2=>tb { D with nx:=N,ct:=N,bk:=D.nx } σ2 H2):=by
 refine⟨fun i m σ H=>m=n-i∧i≤n∧Pv i σ H,⟨n,by simp,Nat.zero_le _,h0⟩,?_⟩
 rintro i m σ H ⟨rfl,hi,p⟩
 by_cases hlt:i<n
 ·refine .inr ⟨hlt,Pv (i+1),fun σ' H' p'=>⟨n-(i+1),by omega,rfl,hlt,p'⟩,fun x H' y=>?_⟩
  obtain⟨e,y⟩:=y
  subst e y
  exact hs i σ _ hlt p
 ·have e:i=n:=by omega
  subst e
  exact .inl ⟨Nat.le_refl _,hd σ H p⟩
end L2
namespace L2
open PySem PySem.Spec PyProof.Rows
abbrev R2:=V→V→Hp→VK→Prop
def fG (X:Cx) (f:Value→Value→Sem Value) (r:R2):Prop :=
 ∀(pins:List (Addr × Obj)) (s:Shared) (σ:St) (H:Hp) (x y:V) (v u:Value) (Q:VK),Inv X pins σ H s→RelV x v→RelV y u→r x y H Q →
  wpAny (model X.prog X.w) X.A (f v u) (EP X pins σ Q) X.xe s
def Dh (X:Cx) (f:Value→Sem Value) (r:V→Hp→VK→Prop):Prop :=
 ∀(pins:List (Addr × Obj)) (s:Shared) (σ:St) (H:Hp) (x:V) (v:Value) (Q:VK),Inv X pins σ H s→RelV x v→r x H Q →
  wpAny (model X.prog X.w) X.A (f v) (EP X pins σ Q) X.xe s
def cD (X:Cx) (f:Value) (r:List V→Hp→VK→Prop):Prop :=
 ∀(pins:List (Addr × Obj)) (s:Shared) (σ:St) (H:Hp) (xs:List V) (us:List Value) (Q:VK),Inv X pins σ H s→Vals xs us→r xs H Q →
  wpAny (model X.prog X.w) X.A (call f us) (EP X pins σ Q) X.xe s
def Dg (X:Cx) (r:V→Hp→(Bool→Hp→Prop)→Prop):Prop :=
 ∀(pins:List (Addr × Obj)) (s:Shared) (σ:St) (H:Hp) (x:V) (v:Value) (Q:Bool→Hp→Prop),Inv X pins σ H s→RelV x v→r x H Q →
  wpAny (model X.prog X.w) X.A (truthy v) (TP X pins σ Q) X.xe s
def BY (r:R2) (ta tb:TE):TE:=fun σ H Q=>ta σ H fun x H1=>tb σ H1 fun y H2=>r x y H2 Q
def DK (r:V→Hp→VK→Prop) (ta:TE):TE:=fun σ H Q=>ta σ H fun x H1=>r x H1 Q
def rI (C:Int→Int→Prop) (g:Int→Int→V):R2:=fun x y H Q=>∃ i j,x=.int i∧y=.int j∧C i j∧Q (g i j) H
def uB (g:Int→Int→V):R2:=fun x y H Q=>∃ i j,x=.int i∧y=.int j∧Q (g i j) H
def rU (g:Int→V):V→Hp→VK→Prop:=fun x H Q=>∃ i,x=.int i∧Q (g i) H
section
variable {X:Cx} {a b c:Expr} {ta tb tc:TE} {pos:Pos}
theorem Aw (ha:PE X a ta) (hb:PE X b tb) {pins:List (Addr × Obj)} {s:Shared} {σ:St} {H:Hp} {R:V→V→Hp→Prop} (I:Inv X pins σ H s)
  (h:ta σ H fun x H1=>tb σ H1 fun y H2=>R x y H2) {Q:Value→Shared→Prop} {f:Value→Value→Sem Value}
  (hf:∀ v u s2 x y H2,Inv X pins σ H2 s2→RelV x v→RelV y u→R x y H2→wpAny (model X.prog X.w) X.A (f v u) Q X.xe s2) :
  wpAny (model X.prog X.w) X.A (eval a X.env) (fun v s₁=>wpAny (model X.prog X.w) X.A (eval b X.env) (fun u s₂=>wpAny (model X.prog X.w) X.A (f v u) Q X.xe s₂) X.xe s₁) X.xe s:=by
 refine bj (ha pins s σ H _ I h) fun v s1 ⟨x,H1,I1,r1,q1⟩=>?_
 refine bj (hb pins s1 σ H1 _ I1 q1) fun u s2 ⟨y,H2,I2,r2,q2⟩=>?_
 exact hf v u s2 x y H2 I2 r1 r2 q2
theorem au {op:Operator} {r:R2} (ho:fG X (binaryOp op) r) (ha:PE X a ta) (hb:PE X b tb):PE X (.BinOp a op b pos) (BY r ta tb):=by
 intro pins s σ H Q I h
 exact wpAny_BinOp (Aw ha hb I h fun v u s2 x y H2 I2 rx ry q=>ho pins s2 σ H2 x y v u Q I2 rx ry q)
theorem kz {op:UnaryOp} {r:V→Hp→VK→Prop} (ho:Dh X (unaryOp op) r) (ha:PE X a ta):PE X (.UnaryOp op a pos) (DK r ta):=by
 intro pins s σ H Q I h
 exact UnaryOp_ (bj (ha pins s σ H _ I h) fun v s1 ⟨x,H1,I1,r1,q1⟩=>ho pins s1 σ H1 x v Q I1 r1 q1)
theorem Cy {f:Value→Value→Sem Value} {C:Int→Int→Prop} {g:Int→Int→Int}
  (rule:∀(i j:Int) (t u:Tok) (s:Shared) (Q:Value→Shared→Prop) (E:Value→Shared→Prop),C i j→Q (.int (g i j) s.toks) { s with toks:=s.toks+1 }→wpAny (model X.prog X.w) X.A (f (.int i t) (.int j u)) Q E s) :
  fG X f (rI C fun i j=>.int (g i j)):=by
 intro pins s σ H x y v u Q I rx ry h
 obtain⟨i,j,rfl,rfl,hc,q⟩:=h
 obtain⟨t,rfl⟩:=rx
 obtain⟨t',rfl⟩:=ry
 exact rule i j t t' s _ _ hc ⟨.int (g i j),H,I.tok _,⟨_,rfl⟩,q⟩
theorem yT {f:Value→Value→Sem Value} {g:Int→Int→Int}
  (rule:∀(i j:Int) (t u:Tok) (s:Shared) (Q:Value→Shared→Prop) (E:Value→Shared→Prop),Q (.int (g i j) s.toks) { s with toks:=s.toks+1 }→wpAny (model X.prog X.w) X.A (f (.int i t) (.int j u)) Q E s) :
  fG X f (uB fun i j=>.int (g i j)):=by
 intro pins s σ H x y v u Q I rx ry h
 obtain⟨i,j,rfl,rfl,q⟩:=h
 obtain⟨t,rfl⟩:=rx
 obtain⟨t',rfl⟩:=ry
 exact rule i j t t' s _ _ ⟨.int (g i j),H,I.tok _,⟨_,rfl⟩,q⟩
theorem yS {f:Value→Value→Sem Value} {g:Int→Int→Bool}
  (rule:∀(i j:Int) (t u:Tok) (s:Shared) (Q:Value→Shared→Prop) (E:Value→Shared→Prop),Q (.bool (g i j)) s→wpAny (model X.prog X.w) X.A (f (.int i t) (.int j u)) Q E s) :
  fG X f (uB fun i j=>.bl (g i j)):=by
 intro pins s σ H x y v u Q I rx ry h
 obtain⟨i,j,rfl,rfl,q⟩:=h
 obtain⟨t,rfl⟩:=rx
 obtain⟨t',rfl⟩:=ry
 exact rule i j t t' s _ _ ⟨.bl (g i j),H,I,rfl,q⟩
def B1 (i j:Int):Prop:=0≤j∧j≤1000000∧i.natAbs<2^64
theorem bB:fG X (binaryOp .Add) (uB fun i j=>.int (i+j)):=yT fun _ _ _ _ _ _ _ q=>add_int q
theorem cq:fG X (binaryOp .Sub) (uB fun i j=>.int (i-j)):=yT fun _ _ _ _ _ _ _ q=>sub_int q
theorem aI:fG X (binaryOp .Mod) (rI (fun _ j=>0<j) fun i j=>.int (i%j)):=Cy fun i j _ _ _ _ _ hc q=>by
 have h1:(0:Int)<j:=hc
 exact mod_int' (by omega) (by rw [Int.fmod_eq_emod_of_nonneg i (by omega)];exact q)
theorem gg:fG X (inplaceOp .Add) (uB fun i j=>.int (i+j)):=yT fun _ _ _ _ _ _ _ q=>iadd_int q
theorem yw:fG X (inplaceOp .Sub) (uB fun i j=>.int (i-j)):=yT fun _ _ _ _ _ _ _ q=>isub_int q
theorem D3 {f:Value→Sem Value} {g:Int→Int}
  (rule:∀(i:Int) (t:Tok) (s:Shared) (Q:Value→Shared→Prop) (E:Value→Shared→Prop),Q (.int (g i) s.toks) { s with toks:=s.toks+1 }→wpAny (model X.prog X.w) X.A (f (.int i t)) Q E s) :
  Dh X f (rU fun i=>.int (g i)):=by
 intro pins s σ H x v Q I rx h
 obtain⟨i,rfl,q⟩:=h
 obtain⟨t,rfl⟩:=rx
 exact rule i t s _ _ ⟨.int (g i),H,I.tok _,⟨_,rfl⟩,q⟩
theorem gX:Dh X (unaryOp .USub) (rU fun i=>.int (-i)):=D3 fun _ _ _ _ _ q=>neg_int q
end
def nj:V→V→Bool
 | .non,.non=>true | .non,.int _=>true | .int _,.non=>true | .non,.bl _=>true | .bl _,.non=>true | .non,.str _=>true | .str _,.non=>true
 | .int _,.int _=>true | .bl _,.bl _=>true | .str _,.str _=>true | .byt _,.byt _=>true
 | .int _,.str _=>true | .str _,.int _=>true | .bl _,.str _=>true | .str _,.bl _=>true
 | _,_=>false
def DA:R2:=fun x y H Q=>nj x y=true∧Q (.bl (decide (x=y))) H
def DC:R2:=fun x y H Q=>nj x y=true∧Q (.bl (!decide (x=y))) H
theorem rQ {i j:Int}:decide (V.int i=V.int j)=(i==j):=by
 rw [Bool.eq_iff_iff]
 simp
theorem uZ {i j:Bool}:decide (V.bl i=V.bl j)=(i==j):=by
 rw [Bool.eq_iff_iff]
 simp
theorem rR {i j:Str}:decide (V.str i=V.str j)=(i==j):=by
 rw [Bool.eq_iff_iff]
 simp
theorem rP {i j:Array UInt8}:decide (V.byt i=V.byt j)=(i.toList==j.toList):=by
 rw [Bool.eq_iff_iff]
 cases i
 cases j
 simp
section
variable {X:Cx} {a b c:Expr} {ta tb tc:TE} {pos:Pos}
theorem aQ {pins:List (Addr × Obj)} {σ:St} {H:Hp} {s:Shared} {Q:VK} {k k':Bool} (I:Inv X pins σ H s) (q:Q (.bl k) H) (e:k=k'):EP X pins σ Q (.bool k') s:=by
 subst e
 exact⟨.bl k,H,I,rfl,q⟩
theorem bO:fG X (compareOp .Eq) DA:=by
 intro pins s σ H x y v u Q I rx ry h
 obtain⟨hs,q⟩:=h
 cases x with
 | non =>
  cases rx
  cases y with
  | non=>cases ry;exact PySem.EqNone.eq_none_none (aQ I q (by simp))
  | bl j=>cases ry;exact PySem.EqNone.eq_none_bool (aQ I q (by simp))
  | int j=>obtain⟨t',rfl⟩:=ry;exact PySem.EqNone.eq_none_int (aQ I q (by simp))
  | str j=>obtain⟨t',rfl⟩:=ry;exact PySem.EqNone.eq_none_str (aQ I q (by simp))
  | _=>exact absurd (show false=true from hs) Bool.false_ne_true
 | bl i =>
  cases rx
  cases y with
  | non=>cases ry;exact PySem.EqNone.eq_bool_none (aQ I q (by simp))
  | bl j=>cases ry;exact eq_bool (aQ I q uZ)
  | str j=>obtain⟨t',rfl⟩:=ry;exact PySem.EqMixed.eq_bool_str (aQ I q (by simp))
  | _=>exact absurd (show false=true from hs) Bool.false_ne_true
 | int i =>
  obtain⟨t,rfl⟩:=rx
  cases y with
  | non=>cases ry;exact PySem.EqNone.eq_int_none (aQ I q (by simp))
  | int j=>obtain⟨t',rfl⟩:=ry;exact eq_int (aQ I q rQ)
  | str j=>obtain⟨t',rfl⟩:=ry;exact PySem.EqMixed.eq_int_str (aQ I q (by simp))
  | _=>exact absurd (show false=true from hs) Bool.false_ne_true
 | str i =>
  obtain⟨t,rfl⟩:=rx
  cases y with
  | non=>cases ry;exact PySem.EqNone.eq_str_none (aQ I q (by simp))
  | bl j=>cases ry;exact PySem.EqMixed.eq_str_bool (aQ I q (by simp))
  | int j=>obtain⟨t',rfl⟩:=ry;exact PySem.EqMixed.eq_str_int (aQ I q (by simp))
  | str j=>obtain⟨t',rfl⟩:=ry;exact eq_str (aQ I q rR)
  | _=>exact absurd (show false=true from hs) Bool.false_ne_true
 | byt i =>
  obtain⟨t,rfl⟩:=rx
  cases y with
  | byt j=>obtain⟨t',rfl⟩:=ry;exact PySem.W.eq_bytes (aQ I q rP)
  | _=>exact absurd (show false=true from hs) Bool.false_ne_true
 | _=>cases y<;>exact absurd (show false=true from hs) Bool.false_ne_true
theorem jg:fG X (compareOp .NotEq) DC:=by
 intro pins s σ H x y v u Q I rx ry h
 obtain⟨hs,q⟩:=h
 cases x with
 | non =>
  cases rx
  cases y with
  | non=>cases ry;exact PySem.EqNone.ne_none_none (aQ I q (by simp))
  | bl j=>cases ry;exact PySem.EqNone.ne_none_bool (aQ I q (by simp))
  | int j=>obtain⟨t',rfl⟩:=ry;exact PySem.EqNone.ne_none_int (aQ I q (by simp))
  | str j=>obtain⟨t',rfl⟩:=ry;exact PySem.EqNone.ne_none_str (aQ I q (by simp))
  | _=>exact absurd (show false=true from hs) Bool.false_ne_true
 | bl i =>
  cases rx
  cases y with
  | non=>cases ry;exact PySem.EqNone.ne_bool_none (aQ I q (by simp))
  | bl j=>cases ry;exact ne_bool (aQ I q (congrArg not uZ))
  | str j=>obtain⟨t',rfl⟩:=ry;exact PySem.EqMixed.ne_bool_str (aQ I q (by simp))
  | _=>exact absurd (show false=true from hs) Bool.false_ne_true
 | int i =>
  obtain⟨t,rfl⟩:=rx
  cases y with
  | non=>cases ry;exact PySem.EqNone.ne_int_none (aQ I q (by simp))
  | int j=>obtain⟨t',rfl⟩:=ry;exact ne_int (aQ I q (congrArg not rQ))
  | str j=>obtain⟨t',rfl⟩:=ry;exact PySem.EqMixed.ne_int_str (aQ I q (by simp))
  | _=>exact absurd (show false=true from hs) Bool.false_ne_true
 | str i =>
  obtain⟨t,rfl⟩:=rx
  cases y with
  | non=>cases ry;exact PySem.EqNone.ne_str_none (aQ I q (by simp))
  | bl j=>cases ry;exact PySem.EqMixed.ne_str_bool (aQ I q (by simp))
  | int j=>obtain⟨t',rfl⟩:=ry;exact PySem.EqMixed.ne_str_int (aQ I q (by simp))
  | str j=>obtain⟨t',rfl⟩:=ry;exact ne_str (aQ I q (congrArg not rR))
  | _=>exact absurd (show false=true from hs) Bool.false_ne_true
 | byt i =>
  obtain⟨t,rfl⟩:=rx
  cases y with
  | byt j=>obtain⟨t',rfl⟩:=ry;exact PySem.W.ne_bytes (aQ I q (congrArg not rP))
  | _=>exact absurd (show false=true from hs) Bool.false_ne_true
 | _=>cases y<;>exact absurd (show false=true from hs) Bool.false_ne_true
theorem dR:fG X (compareOp .Lt) (uB fun i j=>.bl (decide (i<j))):=yS fun _ _ _ _ _ _ _ q=>lt_int q
theorem pA:fG X (compareOp .LtE) (uB fun i j=>.bl (decide (i≤j))):=yS fun _ _ _ _ _ _ _ q=>le_int q
theorem cR:fG X (compareOp .Gt) (uB fun i j=>.bl (decide (j<i))):=yS fun _ _ _ _ _ _ _ q=>gt_int q
theorem zX:fG X (compareOp .GtE) (uB fun i j=>.bl (decide (j≤i))):=yS fun _ _ _ _ _ _ _ q=>ge_int q
theorem wu:fG X (compareOp .Is) (fun x y H Q=>y=.non∧Q (.bl (decide (x=.non))) H):=by
 intro pins s σ H x y v u Q I rx ry h
 obtain⟨rfl,q⟩:=h
 cases ry
 refine is_none_gen (aQ I q ?_)
 cases x<;>first
  | (cases rx;rfl)
  | (obtain⟨t,rfl⟩:=rx;rfl)
theorem yW:fG X (compareOp .IsNot) (fun x y H Q=>y=.non∧Q (.bl (!decide (x=.non))) H):=by
 intro pins s σ H x y v u Q I rx ry h
 obtain⟨rfl,q⟩:=h
 cases ry
 refine isnot_none_gen (aQ I q ?_)
 cases x<;>first
  | (cases rx;rfl)
  | (obtain⟨t,rfl⟩:=rx;rfl)
theorem aE (b:Expr) {op:CmpOp} (h:op≠.In:=by decide) (h2:op≠.NotIn:=by decide):behindInMarks op b=false:=by
 have e1:(op==CmpOp.In)=false:=by cases op<;>first | rfl | exact absurd rfl h
 have e2:(op==CmpOp.NotIn)=false:=by cases op<;>first | rfl | exact absurd rfl h2
 cases b<;>simp [behindInMarks,e1,e2]
theorem bL {op:CmpOp} {r:R2} (ho:fG X (compareOp op) r) (ha:PE X a ta) (hb:PE X b tb) (hm:behindInMarks op b=false):PE X (.Compare a [op] [b] pos) (BY r ta tb):=by
 intro pins s σ H Q I h
 exact wpAny_Compare1 (Aw ha hb I h fun v u s2 x y H2 I2 rx ry q=>ho pins s2 σ H2 x y v u Q I2 rx ry q) hm
def xP (t:TE):TT:=fun σ H Q=>t σ H fun x H'=>∃ k,x=.bl k∧Q k H'
theorem aD {op:CmpOp} {r:R2} (ho:fG X (compareOp op) r) (ha:PE X a ta) (hb:PE X b tb) (hm:behindInMarks op b=false):PT X (.Compare a [op] [b] pos) (xP (BY r ta tb)):=by
 intro pins s σ H Q I h
 refine wpAny_isTrue_Compare1 (bj (ha pins s σ H _ I h) fun v s1 ⟨x,H1,I1,r1,q1⟩=>bj (hb pins s1 σ H1 _ I1 q1) fun u s2 ⟨y,H2,I2,r2,q2⟩ =>
  bj (ho pins s2 σ H2 x y v u _ I2 r1 r2 q2) fun c s3 ⟨z,H3,I3,r3,k,e,q3⟩=>?_) hm
 subst e
 cases r3
 exact wpAny_truthy_bool ⟨H3,I3,q3⟩
def rB (r r':R2) (ta tb tc:TE):TE:=fun σ H Q=>ta σ H fun x H1=>tb σ H1 fun y H2=>r x y H2 fun z H3=>∃ k,z=.bl k ∧
 (if k=true then tc σ H3 fun w' H4=>r' y w' H4 Q else Q (.bl false) H3)
theorem pG {op op':CmpOp} {r r':R2} (ho:fG X (compareOp op) r) (ho':fG X (compareOp op') r') (ha:PE X a ta) (hb:PE X b tb) (hc:PE X c tc)
  (hm:lastMarks [op,op'] [b,c]=false:=by with_unfolding_all rfl):PE X (.Compare a [op,op'] [b,c] pos) (rB r r' ta tb tc):=by
 intro pins s σ H Q I h
 refine Compare_chain (bj (ha pins s σ H _ I h) fun v s1 ⟨x,H1,I1,r1,q1⟩=>chain_link (bj (hb pins s1 σ H1 _ I1 q1) fun u s2 ⟨y,H2,I2,r2,q2⟩ =>
  bj (ho pins s2 σ H2 x y v u _ I2 r1 r2 q2) fun d s3 ⟨z,H3,I3,r3,k,e,q3⟩=>?_)) hm
 subst e
 cases r3
 refine wpAny_truthy_bool ?_
 cases k with
 | false=>exact ite_ff ⟨.bl false,H3,I3,rfl,q3⟩
 | true=>exact ite_tt (chain_last (bj (hc pins s3 σ H3 _ I3 q3) fun w' s4 ⟨z',H4,I4,r4,q4⟩=>ho' pins s4 σ H4 y z' u w' Q I4 r2 r4 q4))
def yd (K:PySem.W.Frag) (x:V) (H:Hp) (k:Bool):Prop :=
 match x with
 | .non=>k=false
 | .bl b=>k=b
 | .int i=>k=(i != 0)
 | .str y=>y.length≤sizeLine∧k=((y.length:Int) != 0)
 | .byt y=>y.size≤sizeLine∧k=((y.size:Int) != 0)
 | .ref p=>(∃ xs,aX K H p xs∧k=!xs.isEmpty)∨(∃ xs,bC K H p xs∧k=!xs.isEmpty)∨∃ kvs,H p=some (.dK kvs)∧k=!kvs.isEmpty
 | _=>False
theorem qH {κ:Type} {kvs:List (κ × V)} {vs:List (κ × Value)} (r:KV kvs vs):(!vs.isEmpty)=!kvs.isEmpty:=by
 cases r<;>rfl
theorem j3 {xs:List V} {its:List Value} (r:Vals xs its):(!its.toArray.isEmpty)=!xs.isEmpty:=by
 cases r<;>simp
theorem mN:(sizeLine:Nat)<2^63:=by rw [sizeLine_eq];decide
theorem BL:Dg X (fun x H Q=>∃ k,yd X.K x H k∧Q k H):=by
 intro pins s σ H x v Q I rx h
 obtain⟨k,e,q⟩:=h
 have hl:=mN
 have hs:sizeLine=16777216:=sizeLine_eq
 cases x with
 | non =>
  cases rx
  have e':k=false:=e
  subst e'
  exact truthy_none ⟨H,I,q⟩
 | bl b =>
  cases rx
  have e':k=b:=e
  subst e'
  exact wpAny_truthy_bool ⟨H,I,q⟩
 | int i =>
  obtain⟨t,rfl⟩:=rx
  have e':k=(i != 0):=e
  subst e'
  exact PySem.P.truthy_int ⟨H,I,q⟩
 | str y =>
  obtain⟨t,rfl⟩:=rx
  obtain⟨hy,e'⟩:y.length≤sizeLine∧k=((y.length:Int) != 0):=e
  subst e'
  exact PySem.P.truthy_str (by omega) ⟨H,I.tok _,q⟩
 | byt y =>
  obtain⟨t,rfl⟩:=rx
  obtain⟨hy,e'⟩:y.size≤sizeLine∧k=((y.size:Int) != 0):=e
  subst e'
  exact PySem.W.truthy_bytes (by omega) ⟨H,I.tok _,q⟩
 | ref p =>
  cases rx
  have e':(∃ xs,aX X.K H p xs∧k=!xs.isEmpty)∨(∃ xs,bC X.K H p xs∧k=!xs.isEmpty)∨∃ kvs,H p=some (.dK kvs)∧k=!kvs.isEmpty:=e
  rcases e' with⟨xs,hx,e'⟩|⟨xs,hx,e'⟩|⟨kvs,hx,e'⟩
  ·subst e'
   obtain⟨its,r,pl,hz⟩:=I.list hx
   have hlen:=r.length
   exact wpAny_truthy_list pl.isList (by simp only [List.size_toArray];omega) ⟨H,I.tok _,by rw [j3 r];exact q⟩
  ·subst e'
   obtain⟨its,r,pl,hz⟩:=I.tuple hx
   have hlen:=r.length
   exact truthy_tuple pl (by simp only [List.size_toArray];omega) ⟨H,I.tok _,by rw [j3 r];exact q⟩
  ·subst e'
   obtain⟨hz,hS,vs,r,m⟩:kvs.length≤sizeLine∧(p==sysModules)=false∧∃ vs,KV kvs vs∧s.heap.DictOf (bF X.prog X.w) p vs:=I.hok p _ hx
   have hlen:kvs.length=vs.length:=Paired.length r
   exact wpAny_truthy_dict hS m (by omega) ⟨H,I.tok _,by rw [qH r];exact q⟩
 | _=>exact (show False from e).elim
theorem a9 (ha:PE X a ta) (he:∀ whole,isTrue a X.env whole=(do let v ← whole;standAt a.pos;holding [v] (truthy v))) :
  PT X a (fun σ H Q=>ta σ H fun x H'=>∃ k,yd X.K x H' k∧Q k H'):=by
 intro pins s σ H Q I h
 exact isTrue_plain (bj (ha pins s σ H _ I h) fun v s1 ⟨x,H1,I1,r1,q1⟩=>BL pins s1 σ H1 x v Q I1 r1 q1) (he _)
theorem vals1 {x:V} {us:List Value} (r:Vals [x] us):∃ u,us=[u]∧RelV x u:=by
 cases r with
 | cons r1 r2=>cases r2;exact⟨_,rfl,r1⟩
theorem vals2 {x y:V} {us:List Value} (r:Vals [x,y] us):∃ u w',us=[u,w']∧RelV x u∧RelV y w':=by
 cases r with
 | cons r1 r2 =>
  cases r2 with
  | cons r3 r4=>cases r4;exact⟨_,_,rfl,r1,r3⟩
theorem jS:cD X (.builtin "abs") (fun xs H Q=>∃ i,xs=[.int i]∧Q (.int (if i<0 then -i else i)) H):=by
 intro pins s σ H xs us Q I r h
 obtain⟨i,rfl,q⟩:=h
 obtain⟨u,rfl,t,rfl⟩:=vals1 r
 exact call_abs_int fun u tk=>⟨.int (if i<0 then -i else i),H,I.tok _,⟨_,rfl⟩,q⟩
theorem tH (hc:X.calm=true):cD X (.builtin "min") (fun xs H Q=>∃ i j,xs=[.int i,.int j]∧Q (.int (if j<i then j else i)) H):=by
 intro pins s σ H xs us Q I r h
 obtain⟨i,j,rfl,q⟩:=h
 obtain⟨u,w',rfl,⟨t,rfl⟩,⟨t',rfl⟩⟩:=vals2 r
 refine min_two_ints (I.ok.hd hc) fun h' tk k=>⟨_,H,I.kept k,?_,q⟩
 by_cases hj:j<i
 ·rw [if_pos hj,if_pos hj];exact⟨_,rfl⟩
 ·rw [if_neg hj,if_neg hj];exact⟨_,rfl⟩
theorem tE:cD X (.type "int") (fun xs H Q=>(∃ i,xs=[.int i]∧Q (.int i) H)∨∃ k,xs=[.bl k]∧Q (.int (if k then 1 else 0)) H):=by
 intro pins s σ H xs us Q I r h
 rcases h with⟨i,rfl,q⟩|⟨k,rfl,q⟩
 ·obtain⟨u,rfl,t,rfl⟩:=vals1 r
  exact call_int_int ⟨.int i,H,I,⟨_,rfl⟩,q⟩
 ·obtain⟨u,rfl,r1⟩:=vals1 r
  cases r1
  exact call_int_bool ⟨.int (if k then 1 else 0),H,I.tok _,⟨_,rfl⟩,q⟩
end
end L2
namespace L2
open PySem PySem.Spec PyProof.Rows
structure qv (h:Heap) (x dx C:Addr) (mA:Str→Option Value):Prop where
 obj:h.get? x=some (PySem.W.instObj C dx)
 ns:h.Ns1 dx mA
 ne:dx≠x
theorem ua {h:Heap} {dx:Addr} {mA:Str→Option Value} (n:h.Ns1 dx mA):∃ od,h.get? dx=some od∧∀ name,PySem.W.lookIn name od=some (mA name):=by
 obtain⟨o,es,ep,ho,hd,hk,_,hm⟩:=n
 refine⟨o,ho,fun name=>?_⟩
 have e:=hm name
 unfold nsFind findBy at e
 rw [← Array.find?_toList] at e
 unfold PySem.W.lookIn
 rw [hd]
 dsimp only
 split
 ·rename_i y q
  rw [q] at e
  exact congrArg some e
 ·rename_i q
  rw [q] at e
  have a:es.toList.any (·.refKey)=false:=by
   rw [List.any_eq_false]
   intro y hy
   obtain⟨z,t,hkey⟩:=hk y (Array.mem_toList_iff.mp hy)
   simp [DictEntry.refKey,hkey]
  have a':¬es.toList.any (·.refKey)=true:=by rw [a];exact Bool.false_ne_true
  rw [if_neg a']
  exact congrArg some e
theorem qv.look {h:Heap} {x dx C:Addr} {mA:Str→Option Value} (I:qv h x dx C mA):∃ od,PySem.W.InstAt h x (PySem.W.instObj C dx) C (some od)∧∀ name,PySem.W.lookIn name od=some (mA name) :=
 let ⟨od,ho,hl⟩:=ua I.ns
 ⟨od,⟨I.obj,rfl,rfl,ho⟩,hl⟩
section
variable {prog:Program} {w:World} {A:Around} {E:Value→Shared→Prop} {s:Shared} {K:PySem.W.Frag} {x dx C f:Addr} {mA:Str→Option Value} {name:Str} {v:Value}
theorem get_map {expr:Bool} {Q:Value→Shared→Prop} (X:K.In s.heap) (I:qv s.heap x dx C mA) (hg:PySem.W.plainGet K C name=true) (hh:PySem.W.hasDictIn K C=true)
  (ha:PySem.W.findIn K (.ref C) name=some none) (hv:mA name=some v) (hv':PySem.W.handedIn v=true) (h:Q v { s with toks:=s.toks+1 }) :
  wpAny (model prog w) A (getAttr (.ref x) name expr) Q E s:=by
 obtain⟨od,J,hl⟩:=I.look
 exact PySem.W.get_value X J (PySem.W.plainGet_of hg).1 (PySem.W.findObj_own hh ha rfl (by rw [hl,hv])) hv' h
theorem vn {pl:Sem Bool} {Q:Value × List Value→Shared→Prop} (X:K.In s.heap) (I:qv s.heap x dx C mA) (hg:PySem.W.plainGet K C name=true)
  (hf:PySem.W.findIn K (.ref C) name=some (some (.ref f))) (ht:PySem.W.isFn K (.ref f)=true) (hv:mA name=none) (h:Q (.ref f,[.ref x]) s) :
  wpAny (model prog w) A (getMethod (.ref x) name pl) Q E s:=by
 obtain⟨od,J,hl⟩:=I.look
 exact PySem.W.method_fn X J (PySem.W.plainGet_of hg).1 (PySem.W.plainGet_of hg).2 hf (beq_iff_eq.mp ht) (by show (PySem.W.lookIn name od).map (·.isSome)=some false;rw [hl,hv];rfl) h
theorem zt {ns:List Str} {Q:Unit→Shared→Prop} (X:K.In s.heap) (I:qv s.heap x dx C mA)
  (hs:PySem.W.findIn K (.ref C) "__setattr__"=some (some (.builtin "object.__setattr__"))) (hp:PySem.W.plainOver K C=true) (ht:PySem.W.takerIn K C name=some none) (hh:PySem.W.hasDictIn K C=true)
  (hw:PySem.Within mA ns) (hsz:ns.length≤sizeLine)
  (h:∀ h',qv h' x dx C (fun y=>if y=name then some v else mA y)→Heap.SameBut dx s.heap h'→Q () { s with heap:=h',toks:=s.toks+2 }) :
  wpAny (model prog w) A (setAttr (.ref x) name v) Q E s:=by
 obtain⟨od,J,hl⟩:=I.look
 refine PySem.W.set_plain X J hs (PySem.W.osa_open (s:={ s with toks:=s.toks+1 }) (r:=none) X J hp ht fun b=>?_)
 obtain⟨cd,hc,hd'⟩:=PySem.W.any_some hh
 have hx:s.heap.get? x=some ⟨.ref C,some dx,.plain,#[]⟩:=I.obj
 refine wpAny_bind (wpAny_pure (wpAny_bind (wpAny_bind (wpAny_loadPart hx (wpAny_bind (PySem.W.Looks.here (s:={ s with toks:=s.toks+1 }) (PySem.W.looks_clsIn X hc) ?_))))))
 rw [hd']
 refine wpAny_pure (a:=some dx) (wpAny_bind (wpAny_pure (wpAny_bind ?_)))
 refine wpAny_nsSet1 (s:={ s with toks:=s.toks+1 }) I.ns fun h' hn2 hs2=>?_
 obtain⟨oD,esD,epD,hoD,hdD,hcD⟩:=hn2.count (PySem.Within.cons name v hw)
 refine wpAny_bind (wpAny_lookBehind hoD (by rw [hdD];exact pastItsLine_dict (Nat.le_trans hcD (by rw [List.length_cons];omega))) ?_)
 exact wpAny_pure (h _ ⟨(hs2.2 _ (Ne.symm I.ne)).trans I.obj,hn2,I.ne⟩ hs2)
theorem vL {R:Result→Shared→Prop} {vs:List Value} {kw:List (Str × Value)} (X:K.In s.heap) (hm:PySem.W.makesIn K C=true)
  (hi:PySem.W.findIn K (.ref C) "__init__"=some (some (.ref f))) (hf:PySem.W.typeIn K (.ref f)=some (.type "function"))
  (h:codeAny (model prog w) (A.under (.builtin "type.__call__" ⟨.ref C::vs,kw⟩)) (.call (.ref f) ⟨.ref (s.heap.objs.size+1)::vs,kw⟩) (PySem.W.InitBack (s.heap.objs.size+1) R)
   { s with heap:=(s.heap.push PySem.W.emptyDict).push (PySem.W.instObj C s.heap.objs.size) }) :
  codeAny (model prog w) A (.call (.ref C) ⟨vs,kw⟩) R s:=by
 obtain⟨hh,g,d,t,os⟩:=s
 exact PySem.W.make_core (PySem.W.makes_of X hm) (PySem.W.looks_findIn X hi) (fun self=>PySem.W.bind_fn X self hf) (.inl rfl) h
end
def fP (f:Str) (v:V):List (Str × V)→List (Str × V)
 | []=>[(f,v)]
 | (g,x)::r=>if g=f then (g,v)::r else (g,x)::fP f v r
theorem ja (f g:Str) (v:V):∀ fs:List (Str × V),(fP f v fs).lookup g=if g=f then some v else fs.lookup g
 | []=>by
  show List.lookup g [(f,v)]=_
  by_cases h:g=f
  ·have hb:(g==f)=true:=beq_iff_eq.mpr h
   simp only [List.lookup,hb,if_pos h]
  ·have hb:(g==f)=false:=beq_eq_false_iff_ne.mpr h
   simp only [List.lookup,hb,if_neg h]
 | (k,x)::r=>by
  have ih:=ja f g v r
  rw [show fP f v ((k,x)::r)=(if k=f then (k,v)::r else (k,x)::fP f v r) from rfl]
  by_cases hk:k=f
  ·rw [if_pos hk]
   by_cases h:g=k
   ·have hb:(g==k)=true:=beq_iff_eq.mpr h
    simp only [List.lookup,hb,if_pos (h.trans hk)]
   ·have hb:(g==k)=false:=beq_eq_false_iff_ne.mpr h
    simp only [List.lookup,hb,if_neg (fun e:g=f=>h (e.trans hk.symm))]
  ·rw [if_neg hk]
   by_cases h:g=k
   ·have hb:(g==k)=true:=beq_iff_eq.mpr h
    simp only [List.lookup,hb,if_neg (fun e:g=f=>hk (h.symm.trans e))]
   ·have hb:(g==k)=false:=beq_eq_false_iff_ne.mpr h
    simp only [List.lookup,hb]
    exact ih
theorem iW (f:Str) (v:V):∀ fs:List (Str × V),f∈(fP f v fs).map (·.1)∧∀ g,g∈fs.map (·.1)→g∈(fP f v fs).map (·.1)
 | []=>⟨by simp [fP],fun g h=>by simp at h⟩
 | (k,x)::r=>by
  obtain⟨i1,i2⟩:=iW f v r
  rw [show fP f v ((k,x)::r)=(if k=f then (k,v)::r else (k,x)::fP f v r) from rfl]
  by_cases hk:k=f
  ·rw [if_pos hk]
   subst hk
   exact⟨by simp,fun g h=>by simpa using h⟩
  ·rw [if_neg hk]
   refine⟨?_,fun g h=>?_⟩
   ·rw [List.map_cons]
    exact List.mem_cons_of_mem _ i1
   ·rw [List.map_cons] at h ⊢
    rcases List.mem_cons.mp h with e | e
    ·exact List.mem_cons.mpr (.inl e)
    ·exact List.mem_cons_of_mem _ (i2 g e)
theorem i9 (f:Str) (v:V):∀ fs:List (Str × V),(fP f v fs).length≤fs.length+1
 | []=>by simp [fP]
 | (k,x)::r=>by
  have ih:=i9 f v r
  rw [show fP f v ((k,x)::r)=(if k=f then (k,v)::r else (k,x)::fP f v r) from rfl]
  by_cases hk:k=f
  ·rw [if_pos hk,List.length_cons,List.length_cons];omega
  ·rw [if_neg hk,List.length_cons,List.length_cons];omega
theorem eF.some_of {v:V} {o:Option Value} (r:eF (some v) o):∃ u,o=some u∧RelV v u:=by
 cases o with
 | none=>exact (show False from r).elim
 | some u=>exact⟨u,rfl,r⟩
theorem eF.none_of {o:Option Value} (r:eF none o):o=none:=by
 cases o with
 | none=>rfl
 | some u=>exact (show False from r).elim
theorem tQ {v:V} {u:Value} (r:RelV v u):PySem.W.handedIn u=true:=by
 cases v with
 | non=>cases (show u=Value.none from r);rfl
 | bl b=>cases (show u=Value.bool b from r);rfl
 | int i=>obtain⟨t,e⟩:=(show ∃ t,u=Value.int i t from r);cases e;rfl
 | str x=>obtain⟨t,e⟩:=(show ∃ t,u=Value.str x t from r);cases e;rfl
 | byt b=>obtain⟨t,e⟩:=(show ∃ t,u=Value.bytes b t from r);cases e;rfl
 | flt b=>obtain⟨t,e⟩:=(show ∃ t,u=Value.float b t from r);cases e;rfl
 | ref a=>cases (show u=Value.ref a from r);rfl
 | ty n=>cases (show u=Value.type n from r);rfl
section
variable {P:Program} {w:World} {H H':Hp} {h h':Heap} {a C dx:Addr} {fs fs':List (Str × V)}
theorem jD (hok:fF P w H h) (e:H a=some (.ins C dx fs)):∃ mA,qv h a dx C mA∧(∀ f,eF (fs.lookup f) (mA f))∧PySem.Within mA (fs.map (·.1))∧fs.length≤1000∧H dx=some (.own a):=by
 obtain⟨d,z,ne,ob,mA,n,r,q⟩:=(show bo P w H h a (.ins C dx fs) from hok a _ e)
 exact⟨mA,⟨ob,n,ne⟩,r,q,z,d⟩
end
structure ll (K:PySem.W.Frag) (C:Addr):Prop where
 pg:PySem.W.plainGet K C Str.empty=true
 hd:PySem.W.hasDictIn K C=true
 po:PySem.W.plainOver K C=true
 sa:PySem.W.findIn K (.ref C) "__setattr__"=some (some (.builtin "object.__setattr__"))
theorem ll.get {K:PySem.W.Frag} {C:Addr} (c:ll K C) (f:Str):PySem.W.plainGet K C f=true:=c.pg
def cJ (K:PySem.W.Frag) (C:Addr) (f:Str):Prop:=PySem.W.findIn K (.ref C) f=some none
theorem cJ.CV {K:PySem.W.Frag} {C:Addr} {f:Str} (n:cJ K C f):PySem.W.takerIn K C f=some none:=by
 unfold PySem.W.takerIn
 rw [show PySem.W.findIn K (.ref C) f=some none from n]
 rfl
structure Meth (K:PySem.W.Frag) (C:Addr) (m:Str) (f:Addr):Prop where
 at_:PySem.W.findIn K (.ref C) m=some (some (.ref f))
 fn:PySem.W.isFn K (.ref f)=true
 kp:PySem.W.keepIn K (.ref f)=true
section
variable {X:Cx} {pins:List (Addr × Obj)} {σ:St} {H:Hp} {s:Shared} {a C dx:Addr} {fs:List (Str × V)} {f:Str} {v:V} {A:Around} {E:Value→Shared→Prop}
theorem jY {b:Bool} {Q:Value→Shared→Prop} (I:Inv X pins σ H s) (e:H a=some (.ins C dx fs)) (c:ll X.K C) (n:cJ X.K C f) (l:fs.lookup f=some v)
  (h:∀ u s',Inv X pins σ H s'→RelV v u→Q u s'):wpAny (model X.prog X.w) A (getAttr (.ref a) f b) Q E s:=by
 obtain⟨mA,O,r,_,_,_⟩:=jD I.hok e
 obtain⟨u,hu,ru⟩:=eF.some_of (v:=v) (o:=mA f) (by rw [← l];exact r f)
 exact get_map I.fH O (c.get f) c.hd n hu (tQ ru) (h u _ (I.tok _) ru)
theorem jZ {m:Str} {g:Addr} {pl:Sem Bool} {Q:Value × List Value→Shared→Prop} (I:Inv X pins σ H s) (e:H a=some (.ins C dx fs)) (c:ll X.K C) (k:Meth X.K C m g) (l:fs.lookup m=none)
  (h:Q (.ref g,[.ref a]) s):wpAny (model X.prog X.w) A (getMethod (.ref a) m pl) Q E s:=by
 obtain⟨mA,O,r,_,_,_⟩:=jD I.hok e
 have hn:mA m=none:=eF.none_of (by rw [← l];exact r m)
 exact vn I.fH O (c.get m) k.at_ k.fn hn h
theorem kQ {y:V} {u:Value} {Q:Unit→Shared→Prop} (I:Inv X pins σ H s) (e:H a=some (.ins C dx fs)) (c:ll X.K C) (n:cJ X.K C f) (hl:fs.length<1000) (ry:RelV y u)
  (h:∀ s',Inv X pins σ (upd H a (.ins C dx (fP f y fs))) s'→Q () s'):wpAny (model X.prog X.w) A (setAttr (.ref a) f u) Q E s:=by
 obtain⟨mA,O,r,wi,_,ho⟩:=jD I.hok e
 have hz:(fs.map (·.1)).length≤sizeLine:=by rw [List.length_map,sizeLine_eq];omega
 refine zt I.fH O c.sa c.po n.CV c.hd wi hz fun h' O' sb=>h _ ?_
 have hd:∃ o,h'.get? dx=some o:=let ⟨o,_,_,e',_⟩:=O'.ns;⟨o,e'⟩
 refine I.write (x:=a) (e:=dx) (by rw [e];exact True.intro) (.inr ho) (fun b q hb z=>(sb.2 b hb).trans z) hd ?_
 refine⟨by rw [aq O.ne];exact ho,?_,O.ne,O'.obj,_,O'.ns,fun g=>?_,fun g hg=>?_⟩
 ·have:=i9 f y fs;omega
 ·show eF ((fP f y fs).lookup g) (if g=f then some u else mA g)
  rw [ja]
  by_cases q:g=f
  ·rw [if_pos q,if_pos q];exact ry
  ·rw [if_neg q,if_neg q];exact r g
 ·by_cases q:g=f
  ·rw [q];exact (iW f y fs).1
  ·refine (iW f y fs).2 g (wi g fun z=>hg ?_)
   show (if g=f then some u else mA g)=none
   rw [if_neg q];exact z
theorem Inv.made (I:Inv X pins σ H s):Inv X pins σ (upd (upd H s.heap.objs.size (.own (s.heap.objs.size+1))) (s.heap.objs.size+1) (.ins C s.heap.objs.size []))
  { s with heap:=(s.heap.push PySem.W.emptyDict).push (PySem.W.instObj C s.heap.objs.size) }:=by
 have e1:(s.heap.push PySem.W.emptyDict).get? s.heap.objs.size=some PySem.W.emptyDict:=Heap.get?_push_size s.heap rfl
 have e2:((s.heap.push PySem.W.emptyDict).push (PySem.W.instObj C s.heap.objs.size)).get? (s.heap.objs.size+1)=some (PySem.W.instObj C s.heap.objs.size):=by
  have:=Heap.get?_push_size (s.heap.push PySem.W.emptyDict) (o:=PySem.W.instObj C s.heap.objs.size) rfl
  rwa [Heap.size_push] at this
 have e3:(s.heap.push PySem.W.emptyDict).Ns s.heap.objs.size (fun _=>none):=⟨PySem.W.emptyDict,#[],_,e1,rfl,(fun e he=>absurd he (by simp)),fun _=>rfl⟩
 have I1:=I.laid (a:=s.heap.objs.size) (o:=.own (s.heap.objs.size+1)) (h':=s.heap.push PySem.W.emptyDict) (t':=s.toks) (fun b u q=>Heap.get?_push_of_some _ q) (Nat.le_refl _) ⟨_,e1⟩
 refine I1.laid (a:=s.heap.objs.size+1) (o:=.ins C s.heap.objs.size []) (t':=s.toks) (fun b u q=>Heap.get?_push_of_some _ q) (Nat.le_of_eq (Heap.size_push _ _)) ?_
 have ne:s.heap.objs.size≠s.heap.objs.size+1:=Nat.ne_of_lt (Nat.lt_succ_self _)
 refine⟨by rw [aq ne,ag],Nat.zero_le _,ne,e2,fun _=>none,(Heap.Ns1.of_empty e3).at fun o q=>Heap.get?_push_of_some _ q,fun _=>True.intro,fun y hy=>absurd rfl hy⟩
theorem yi {prog:Program} {w:World} {env:Env} {e:Expr} {f:Str} {pos:Pos} {s:Shared} {Q:Value→Shared→Prop} (hb:attributeBase e f env (eval e env)=eval e env)
  (h:wpAny (model prog w) A (eval e env) (fun o s₁=>wpAny (model prog w) A (getAttr o f true) Q E s₁) E s):wpAny (model prog w) A (eval (.Attribute e f pos) env) Q E s :=
 Attribute_any_ h (by rw [arm_eval_Attribute,hb])
end
def BF (K:PySem.W.Frag) (ta:TE) (f:Str):TE:=fun σ H Q=>ta σ H fun x H1=>∃ a C dx fs v,x=.ref a∧H1 a=some (.ins C dx fs)∧ll K C∧cJ K C f∧fs.lookup f=some v∧Q v H1
def Bw (K:PySem.W.Frag) (ta tv:TE) (f:Str):TS:=fun D σ H=>tv σ H fun y H1=>ta σ H1 fun x H2=>∃ a C dx fs,x=.ref a∧H2 a=some (.ins C dx fs)∧ll K C∧cJ K C f∧fs.length<1000 ∧
 D.nx σ (upd H2 a (.ins C dx (fP f y fs)))
def B6 (X:Cx) (op:Operator) (rd:V→V→Hp→VK→Prop):Prop :=
 ∀(pins:List (Addr × Obj)) (s:Shared) (σ:St) (H:Hp) (x y:V) (u v:Value) (Q:VK),Inv X pins σ H s→RelV x u→RelV y v→rd x y H Q→wpAny (model X.prog X.w) X.A (inplaceOp op u v) (EP X pins σ Q) X.xe s
def jJ (K:PySem.W.Frag) (ta tv:TE) (rd:V→V→Hp→VK→Prop) (f:Str):TS:=fun D σ H=>ta σ H fun x H1=>∃ a C dx fs v,x=.ref a∧H1 a=some (.ins C dx fs)∧ll K C∧cJ K C f∧fs.lookup f=some v ∧
 tv σ H1 fun y H2=>rd v y H2 fun z H3=>∃ dx' fs',H3 a=some (.ins C dx' fs')∧fs'.length<1000∧D.nx σ (upd H3 a (.ins C dx' (fP f z fs')))
section
variable {X:Cx} {o e value:Expr} {f:Str} {pos pos' tpos:Pos} {ta tv:TE}
theorem gT (he:PE X e ta) (hb:attributeBase e f X.env (eval e X.env)=eval e X.env):PE X (.Attribute e f pos) (BF X.K ta f):=by
 intro pins s σ H Q I h
 refine yi hb (bj (he pins s σ H _ I h) fun u s1 ⟨x,H1,I1,rx,a,C,dx,fs,v,ex,ea,c,n,l,q⟩=>?_)
 subst ex
 obtain rfl:u=Value.ref a:=rx
 exact jY I1 ea c n l fun u' s2 I2 ru=>⟨v,H1,I2,ru,q⟩
theorem rh (ha:PE X o ta) (hv:PE X value tv) (hs:swapsWith value (some (.Attribute o f pos')) pos.line X.env=pure false):PS X (.Assign [.Attribute o f pos'] value pos) (Bw X.K ta tv f):=by
 intro pins s σ H D I h
 refine plainObj_wpAny_Assign_Attribute (bj (hv pins s σ H _ I h) fun u s1 ⟨y,H1,I1,ry,q⟩=>bj (ha pins s1 σ H1 _ I1 q) fun ov s2 ⟨x,H2,I2,rx,a,C,dx,fs,ex,ea,c,n,l,q2⟩=>?_) hs
 subst ex
 obtain rfl:ov=Value.ref a:=rx
 exact kQ I2 ea c n l ry fun s3 I3=>⟨σ,_,I3,q2⟩
theorem uz {op:Operator} {rd:V→V→Hp→VK→Prop} (ha:PE X o ta) (hv:PE X value tv) (hop:B6 X op rd):PS X (.AugAssign (.Attribute o f tpos) op value pos) (jJ X.K ta tv rd f):=by
 intro pins s σ H D I h
 refine wpAny_AugAssign_AttributeAny (bj (ha pins s σ H _ I h) fun ov s1 ⟨x,H1,I1,rx,a,C,dx,fs,v,ex,ea,c,n,l,q⟩=>?_)
 subst ex
 obtain rfl:ov=Value.ref a:=rx
 refine jY I1 ea c n l fun u s2 I2 ru=>bj (hv pins s2 σ H1 _ I2 q) fun w3 s3 ⟨y,H2,I3,ry,q3⟩=>bj (hop pins s3 σ H2 v y u w3 _ I3 ru ry q3) fun w4 s4 ⟨z,H3,I4,rz,dx',fs',ea',l',q4⟩=>?_
 exact kQ I4 ea' c n l' rz fun s5 I5=>⟨σ,_,I5,q4⟩
def Dy:V→V→Hp→VK→Prop:=fun x y H Q=>∃ i j,x=.int i∧y=.int j∧Q (.int (i+j)) H
theorem AH:B6 X .Add Dy:=by
 rintro pins s σ H x y u v Q I rx ry ⟨i,j,rfl,rfl,q⟩
 obtain⟨t,rfl⟩:=(show ∃ t,u=Value.int i t from rx)
 obtain⟨t',rfl⟩:=(show ∃ t',v=Value.int j t' from ry)
 exact PyProof.Rows.iadd_int ⟨.int (i+j),H,I.tok _,⟨_,rfl⟩,q⟩
end
section
variable {X:Cx} {pins:List (Addr × Obj)} {σ:St} {H:Hp} {s:Shared} {A:Around} {E:Value→Shared→Prop} {Q:Value→Shared→Prop} {c:Value} {b:Bool}
inductive gB (K:PySem.W.Frag) (H:Hp):V→Value→Prop where
 | non:gB K H .non (.type "NoneType")
 | bl (x:Bool):gB K H (.bl x) (.type "bool")
 | int (i:Int):gB K H (.int i) (.type "int")
 | str (x:Str):gB K H (.str x) (.type "str")
 | flt (x:UInt64):gB K H (.flt x) (.type "float")
 | lst {a:Addr} {xs:List V} (e:H a=some (.lst xs)):gB K H (.ref a) (.type "list")
 | frz {a:Addr} {o:Obj} {xs:List V} (e:H a=some (.frz o (.lst xs))):gB K H (.ref a) (.type "list")
 | tup {a:Addr} {xs:List V} (e:H a=some (.tup xs)):gB K H (.ref a) (.type "tuple")
 | dK {a:Addr} {kvs:List (Key × V)} (e:H a=some (.dK kvs)):gB K H (.ref a) (.type "dict")
 | dT {a:Addr} {kvs:List (List Key × V)} (e:H a=some (.dT kvs)):gB K H (.ref a) (.type "dict")
 | ins {a C dx:Addr} {fs:List (Str × V)} (e:H a=some (.ins C dx fs)) (cl:ll K C) (ha:PySem.W.findIn K (.ref C) "__class__"=some (some (.builtin "object.__class__")))
   (hn:PySem.W.specialIn K (.builtin "object.__class__") "__get__"=some (some (.builtin "getset_descriptor.__get__"))) (htk:PySem.W.takesIn K (.builtin "object.__class__")=some true)
   (hm:PySem.W.mroIn K C (.type "object")=some true):gB K H (.ref a) (.ref C)
theorem gh {x:V} {u t:Value} (I:Inv X pins σ H s) (rx:RelV x u) (ty:gB X.K H x t) (e:PySem.W.kitOne X.K t c=some b) (h:∀ tk,Q (.bool b) { s with toks:=tk }) :
  wpAny (model X.prog X.w) A (call (.builtin "isinstance") [u,c]) Q E s:=by
 cases ty with
 | non=>cases (show u=Value.none from rx);exact PySem.W.kia_one PySem.W.kitx_none I.fH True.intro e (fun z=>nomatch z) h
 | bl y=>cases (show u=Value.bool y from rx);exact PySem.W.kia_one PySem.W.kitx_bool I.fH True.intro e (fun z=>nomatch z) h
 | int i=>obtain⟨t,q⟩:=(show ∃ t,u=Value.int i t from rx);cases q;exact PySem.W.kia_one PySem.W.kitx_int I.fH True.intro e (fun z=>nomatch z) h
 | str y=>obtain⟨t,q⟩:=(show ∃ t,u=Value.str y t from rx);cases q;exact PySem.W.kia_one PySem.W.kitx_str I.fH True.intro e (fun z=>nomatch z) h
 | flt y=>obtain⟨t,q⟩:=(show ∃ t,u=Value.float y t from rx);cases q;exact PySem.W.kia_one PySem.W.kitx_float I.fH True.intro e (fun z=>nomatch z) h
 | @lst a xs ea =>
  cases (show u=Value.ref a from rx)
  obtain⟨_,_,n,_,h1⟩:=(show bo X.prog X.w H s.heap a (.lst xs) from I.hok a _ ea)
  exact PySem.W.kia_one PySem.W.kitx_list I.fH ⟨_,h1,rfl⟩ e (fun z=>nomatch z) h
 | @frz a ob xs ea =>
  cases (show u=Value.ref a from rx)
  obtain⟨_,_,_,n,_,h1⟩:=(show bo X.prog X.w H s.heap a (.frz ob (.lst xs)) from I.hok a _ ea)
  exact PySem.W.kia_one PySem.W.kitx_list I.fH ⟨_,h1,rfl⟩ e (fun z=>nomatch z) h
 | @tup a xs ea =>
  cases (show u=Value.ref a from rx)
  obtain⟨_,_,_,p⟩:=(show bo X.prog X.w H s.heap a (.tup xs) from I.hok a _ ea)
  obtain⟨o,h1,h2,_⟩:=p
  exact PySem.W.kia_one PySem.W.kitx_tuple I.fH ⟨o,h1,h2⟩ e (fun z=>nomatch z) h
 | @dK a kvs ea =>
  cases (show u=Value.ref a from rx)
  obtain⟨_,_,vs,_,p⟩:=(show bo X.prog X.w H s.heap a (.dK kvs) from I.hok a _ ea)
  obtain⟨o,es,ep,h1,h2,_⟩:=p
  exact PySem.W.kia_one PySem.W.kitx_dict I.fH ⟨o,h1,h2.1⟩ e (fun z=>nomatch z) h
 | @dT a kvs ea =>
  cases (show u=Value.ref a from rx)
  obtain⟨_,_,xs,_,o,es,ep,h1,h2,_⟩:=(show bo X.prog X.w H s.heap a (.dT kvs) from I.hok a _ ea)
  exact PySem.W.kia_one PySem.W.kitx_dict I.fH ⟨o,h1,h2.1⟩ e (fun z=>nomatch z) h
 | @ins a C dx fs ea cl ha hn htk hm =>
  cases (show u=Value.ref a from rx)
  obtain⟨mA,O,_⟩:=jD I.hok ea
  obtain⟨od,J,_⟩:=O.look
  exact PySem.W.kia_one (PySem.W.kitx_own (cl.get _) cl.hd ha hn htk hm) I.fH J e (fun z=>nomatch z) h
end
end L2
namespace L2
open PySem PySem.Spec PyProof.Rows
structure bM (k:Nat) (A:Around):Prop where
 hd:A.handled=none
 dp:A.depth+3*k+5<recursionLimit
 un:A.units+16*k+200<cLine
theorem bM.mono {j k:Nat} {A:Around} (r:bM k A) (h:j≤k):bM j A:=⟨r.hd,by have:=r.dp;omega,by have:=r.un;omega⟩
theorem bM.deeper {k:Nat} {A:Around} (r:bM (k+1) A) (env:Env):bM k (A.deeper env) :=
 ⟨r.hd,by have:=r.dp;show A.depth+1+3*k+5<_;omega,by have:=r.un;show A.units+3+16*k+200<_;omega⟩
theorem qK {A:Around} {C:Addr} {us:List Value} {kw:List (Str × Value)}:(A.under (.builtin "type.__call__" ⟨.ref C::us,kw⟩)).depth=A.depth+1:=by
 first | rfl | simp [Around.under,Code.weight,Code.isCreation,Code.isGuard,Code.isCaller,Code.frames,Code.isFrame,guardIds]
theorem qL {A:Around} {C:Addr} {us:List Value} {kw:List (Str × Value)}:(A.under (.builtin "type.__call__" ⟨.ref C::us,kw⟩)).units=A.units+1:=by
 first | rfl | simp [Around.under,Code.cUnits,Code.frames,Code.isFrame]
theorem bM.make {k:Nat} {A:Around} (r:bM (k+1) A) (C:Addr) (us:List Value) (kw:List (Str × Value)):bM k (A.under (.builtin "type.__call__" ⟨.ref C::us,kw⟩)) :=
 ⟨r.hd,by have:=r.dp;rw [qK];omega,by have:=r.un;rw [qL];omega⟩
theorem bM.depth {k:Nat} {A:Around} (r:bM k A):A.depth<recursionLimit:=by have:=r.dp;omega
theorem bM.units {k:Nat} {A:Around} (r:bM k A):A.units+64<cLine:=by have:=r.un;omega
def xJ:TA:=fun _ H Q=>Q [] H
def xD (ta:TE) (tr:TA):TA:=fun σ H Q=>ta σ H fun x H1=>tr σ H1 fun xs H2=>Q (x::xs) H2
section
variable {X:Cx} {e:Expr} {es:List Expr} {te:TE} {t:TA} {pos:Pos}
theorem af:PA X [] xJ:=fun _ _ _ _ H Q I h=>Calls.spliced_nil ⟨[],H,I,.nil,h⟩
theorem aa (ha:PE X e te) (hr:PA X es t) (hs:starEach (e::es) X.env=(false,eval e X.env)::starEach es X.env:=by rfl):PA X (e::es) (xD te t):=by
 intro pos pins s σ H Q I h
 rw [hs]
 show wpAny _ _ (spliced ((false,eval e X.env)::backTo pos (starEach es X.env))) _ _ s
 refine Calls.spliced_cons (bj (ha pins s σ H _ I h) fun u s1 ⟨x,H1,I1,r1,q1⟩=>?_)
 exact bj (hr pos pins s1 σ H1 _ I1 q1) fun us s2 ⟨xs,H2,I2,r2,q2⟩=>⟨x::xs,H2,I2,.cons r1 r2,q2⟩
def BK (t:TA):TE:=fun σ H Q=>t σ H fun xs H1=>xs.length≤sizeLine∧∀ p,H1 p=none→Q (.ref p) (upd H1 p (.tup xs))
def BG (t:TA):TE:=fun σ H Q=>t σ H fun xs H1=>xs.length≤sizeLine∧∀ p,H1 p=none→Q (.ref p) (upd H1 p (.lst xs))
theorem aN {x1} (h:PA X es t):PE X (.Tuple es x1 pos) (BK t):=by
 intro pins s σ H Q I hq
 refine wpAny_Tuple_spliced (bj (h pos pins s σ H _ I hq) fun us s1 ⟨xs,H1,I1,r,z,q⟩=>⟨by rw [← r.length];exact z,?_⟩)
 have hf:H1 s1.heap.objs.size=none:=I1.hok.fresh (Nat.le_refl _)
 refine⟨.ref s1.heap.objs.size,upd H1 s1.heap.objs.size (.tup xs),I1.laid (t':=s1.toks) (fun b u e=>Heap.get?_push_of_some _ e) (Nat.le_refl _) ?_,rfl,q _ hf⟩
 exact⟨z,us,r,⟨_,Heap.get?_push_size _ rfl,rfl,_,rfl⟩⟩
theorem dG (h:PA X es t):PE X (.List es pos) (BG t):=by
 intro pins s σ H Q I hq
 refine wpAny_List_spliced (bj (h pos pins s σ H _ I hq) fun us s1 ⟨xs,H1,I1,r,z,q⟩=>⟨by rw [← r.length];exact z,?_⟩)
 have hf:H1 s1.heap.objs.size=none:=I1.hok.fresh (Nat.le_refl _)
 refine⟨.ref s1.heap.objs.size,upd H1 s1.heap.objs.size (.lst xs),I1.laid (t':=s1.toks) (fun b u e=>Heap.get?_push_of_some _ e) (Nat.le_refl _) ?_,rfl,q _ hf⟩
 exact⟨z,us,0,r,Heap.get?_push_size _ rfl⟩
end
abbrev Sp:=List V→Hp→VK→XK→Prop
abbrev jN:=List Env→Hp→Shared→XK→Value→Shared→Prop
structure kY (P:Program) (w:World) (K:PySem.W.Frag) (mg:Str→Option Value) (base:Heap) (A:Around) (outer:List Env) (s:Shared) (H:Hp):Prop where
 frames:A.frames=some outer
 mod:Mod K mg base
 bs:∀ b o,base.get? b=some o→s.heap.get? b=some o∧H b=none
 bsz:base.objs.size≤s.heap.objs.size
 iS:s.heap.FunFrames base outer
 frf:∀ b∈gD outer,H b=none
 hok:fF P w H s.heap
 bare:AllBare s.gens
def CE (outer:List Env) (P:Program) (w:World) (H:Hp) (s:Shared) (Q:VK) (u:Value) (s':Shared):Prop :=
 ∃ v H',s'.os=s.os∧AllBare s'.gens∧Un (gD outer) [] H H' s.heap s'.heap∧fF P w H' s'.heap∧RelV v u∧Q v H'
def CR (CX:jN) (outer:List Env) (P:Program) (w:World) (H:Hp) (s:Shared) (Q:VK) (E:XK) (r:Result) (s':Shared):Prop :=
 match r with
 | .ok (.ret u)=>CE outer P w H s Q u s'
 | .ok _=>False
 | .error e=>CX outer H s E e s'
structure cQ (P:Program) (w:World) (K:PySem.W.Frag) (mg:Str→Option Value) (base:Heap) (CX:jN) (k:Nat) (f:Addr) (fd:FuncData) (ps:List Str) (sp:Sp):Prop where
 len:∀ vs H Q E,sp vs H Q E→vs.length=ps.length
 run:∀(A:Around) (outer:List Env) (s:Shared) (H:Hp) (args:Args) (us:List Value) (vs:List V) (Q:VK) (E:XK),bM k A→kY P w K mg base A outer s H→BindsTo s fd args (ps.zip us)→Vals vs us→sp vs H Q E →
  codeAny (model P w) A (.call (.ref f) args) (CR CX outer P w H s Q E) s
theorem cQ.mono {P:Program} {w:World} {K:PySem.W.Frag} {mg:Str→Option Value} {base:Heap} {CX:jN} {j k:Nat} {f:Addr} {fd:FuncData} {ps:List Str} {sp:Sp} (F:cQ P w K mg base CX j f fd ps sp) (h:j≤k) :
  cQ P w K mg base CX k f fd ps sp:=⟨F.len,fun A outer s H args us vs Q E hr=>F.run A outer s H args us vs Q E (hr.mono h)⟩
theorem cQ.imp {P:Program} {w:World} {K:PySem.W.Frag} {mg:Str→Option Value} {base:Heap} {CX:jN} {k:Nat} {f:Addr} {fd:FuncData} {ps:List Str} {sp sp':Sp} (F:cQ P w K mg base CX k f fd ps sp)
  (h:∀ vs H Q E,sp' vs H Q E→sp vs H Q E):cQ P w K mg base CX k f fd ps sp' :=
 ⟨fun vs H Q E q=>F.len vs H Q E (h _ _ _ _ q),fun A outer s H args us vs Q E hr he hb hv hs=>F.run A outer s H args us vs Q E hr he hb hv (h _ _ _ _ hs)⟩
theorem kY.make {P:Program} {w:World} {K:PySem.W.Frag} {mg:Str→Option Value} {base:Heap} {A:Around} {outer:List Env} {s:Shared} {H:Hp} (e:kY P w K mg base A outer s H) (C:Addr) (us:List Value) (kw:List (Str × Value)) :
  kY P w K mg base (A.under (.builtin "type.__call__" ⟨.ref C::us,kw⟩)) outer s H:=⟨by first | exact e.frames | (simpa [Around.under,Code.envs,Code.isFrame,pushEnvs] using e.frames),e.mod,e.bs,e.bsz,e.iS,e.frf,e.hok,e.bare⟩
section
variable {X:Cx} {pins:List (Addr × Obj)} {σ:St} {H:Hp} {s s':Shared}
theorem Inv.Az (I:Inv X pins σ H s):kY X.prog X.w X.K X.mg X.base X.A X.stack s H :=
 ⟨I.ok.frames,I.ok.mod,I.bs,Nat.le_trans I.ok.bsz I.sz,I.stack,I.iE,I.hok,I.bare⟩
theorem Inv.after {Q:VK} {u:Value} (I:Inv X pins σ H s) (h:CE X.stack X.prog X.w H s Q u s'):EP X pins σ Q u s':=by
 obtain⟨v,H',os,bare,un,hok,r,q⟩:=h
 obtain⟨hh,g,d,t,os'⟩:=s'
 obtain rfl:os'=s.os:=os
 exact⟨v,H',I.call (h':=hh) (g':=g) (d':=d) (t':=t) (ch:=[]) un hok bare (fun b z=>absurd z (by simp)),r,q⟩
end
def qd (sp:Sp) (aM:List V) (E:XK) (t:TA):TE:=fun σ H Q=>t σ H fun vs H1=>sp (vs++aM) H1 Q E
def mi (C:Addr) (m:Str) (sp:Sp) (aM:List V) (E:XK) (ta:TE) (t:TA):TE:=fun σ H Q=>ta σ H fun x H1=>∃ a dx fs,x=.ref a∧H1 a=some (.ins C dx fs)∧fs.lookup m=none ∧
 t σ H1 fun vs H2=>sp (x::(vs++aM)) H2 Q E
def sY (C:Addr) (sp:Sp) (aM:List V) (E:XK) (t:TA):TE:=fun σ H Q=>t σ H fun vs H1=>∀ x dx,H1 x=none→H1 dx=none→dx≠x →
 sp (.ref x::(vs++aM)) (upd (upd H1 dx (.own x)) x (.ins C dx [])) (fun v H2=>v=.non∧Q (.ref x) H2) E
def Binds (K:PySem.W.Frag) (fd:FuncData) (ps:List Str) (ds:List Value):Prop :=
 ∀(s:Shared) (us:List Value),K.In s.heap→(us++ds).length=ps.length→BindsTo s fd ⟨us,[]⟩ (ps.zip (us++ds))
theorem Binds.all {K:PySem.W.Frag} {fd:FuncData} {ps:List Str} (h:∀ us:List Value,us.length=ps.length→bindArgs fd ⟨us,[]⟩=pure (ps.zip us)):Binds K fd ps []:=fun s us _ hl=>by
 rw [List.append_nil] at hl ⊢
 exact .of_eq (h us hl)
def Passes (CX:jN) (X:Cx) (E:XK):Prop:=∀(pins:List (Addr × Obj)) (σ:St) (H:Hp) (s:Shared) (e:Value) (s':Shared),Inv X pins σ H s→CX X.stack H s E e s'→X.xe e s'
section
variable {X:Cx} {CX:jN} {k:Nat} {f C:Addr} {fd:FuncData} {ps:List Str} {sp:Sp} {aM:List V} {ds:List Value} {E:XK} {x m:Str} {p pos apos:Pos} {e o:Expr} {es:List Expr} {ta:TE} {t:TA}
theorem ro {pins:List (Addr × Obj)} {σ:St} {H:Hp} {s:Shared} {Q:VK} {us:List Value} {vs:List V} (F:cQ X.prog X.w X.K X.mg X.base CX k f fd ps sp) (hr:bM k X.A) (hb:Binds X.K fd ps ds) (hd:Vals aM ds) (hx:Passes CX X E)
  (I:Inv X pins σ H s) (r:Vals vs us) (h:sp (vs++aM) H Q E):wpAny (model X.prog X.w) X.A (call (.ref f) us) (EP X pins σ Q) X.xe s:=by
 have r2:Vals (vs++aM) (us++ds):=r.append hd
 have hl:(us++ds).length=ps.length:=by rw [← r2.length];exact F.len _ _ _ _ h
 refine wpAny_call (codeAny_mono (F.run X.A X.stack s H ⟨us,[]⟩ (us++ds) (vs++aM) Q E hr I.Az (hb s us I.fH hl) r2 h) fun r s' hq=>?_)
 cases r with
 | error e=>exact hx pins σ H s e s' I hq
 | ok fl =>
  cases fl with
  | ret u=>exact I.after hq
  | next=>exact False.elim hq
  | brk=>exact False.elim hq
  | cont=>exact False.elim hq
theorem sk (F:cQ X.prog X.w X.K X.mg X.base CX k f fd ps sp) (hr:bM k X.A) (hg:Gl X x) (hm:X.mg x=some (.ref f)) (hk:PySem.W.keepIn X.K (.ref f)=true) (hb:Binds X.K fd ps ds) (hd:Vals aM ds) (hx:Passes CX X E)
  (ha:PA X (e::es) t) (hdb:(x==("__debug__":Str))=false:=by decide) (he:starEach (e::es) X.env=(false,eval e X.env)::starEach es X.env:=by rfl) (hpl:(backTo pos (starEach es X.env)).any (·.1)=false:=by rfl) :
  PE X (.Call (.Name x p) (e::es) [] pos) (qd sp aM E t):=by
 intro pins s σ H Q I h
 refine wpAny_Call_Name_kw (hZ I hg hm ?_ hdb)
 refine PySem.W.callWith_K (h₀:=X.base) I.ok.mod.kin hk (bj (ha pos pins s σ H _ I h) fun us s1 ⟨vs,H1,I1,r,q⟩=>⟨I1.fH,?_⟩) he hpl
 exact ro F hr hb hd hx I1 r q
theorem y7 {pl:Sem Bool} (he:PE X o ta) (c:ll X.K C) (hm:Meth X.K C m f) (F:cQ X.prog X.w X.K X.mg X.base CX k f fd ps sp) (hr:bM k X.A) (hb:Binds X.K fd ps ds) (hd:Vals aM ds) (hx:Passes CX X E) (ha:PA X (e::es) t)
  (hst:starEach (e::es) X.env=(false,eval e X.env)::starEach es X.env:=by rfl) (hpl:(backTo pos (starEach es X.env)).any (·.1)=false:=by rfl)
  (ht:eval (.Call (.Attribute o m apos) (e::es) [] pos) X.env=(do
   let ov ← eval o X.env
   standAt apos.atName
   let (f,first) ← holding [ov] (getMethod ov m pl)
   callWith pos f first (backTo pos (starEach (e::es) X.env)) (backToKw pos (keywordEach [] X.env))):=by rfl) :
  PE X (.Call (.Attribute o m apos) (e::es) [] pos) (mi C m sp aM E ta t):=by
 intro pins s σ H Q I h
 refine PySem.W.methodCall_KW (pl:=pl) (bj (he pins s σ H _ I h) fun u s1 ⟨x,H1,I1,rx,a,dx,fs,ex,ea,l,q⟩=>?_) ht
 subst ex
 obtain rfl:u=Value.ref a:=rx
 refine jZ I1 ea c hm l ?_
 refine PySem.W.callWith_K (first:=[.ref a]) (h₀:=X.base) I.ok.mod.kin hm.kp (bj (ha pos pins s1 σ H1 _ I1 q) fun us s2 ⟨vs,H2,I2,r,q2⟩=>⟨I2.fH,?_⟩) hst hpl
 exact ro (us:=.ref a::us) (vs:=.ref a::vs) F hr hb hd hx I2 (.cons rfl r) q2
theorem wC {pl:Sem Bool} (he:PE X o ta) (c:ll X.K C) (hm:Meth X.K C m f) (F:cQ X.prog X.w X.K X.mg X.base CX k f fd ps sp) (hr:bM k X.A) (hb:Binds X.K fd ps ds) (hd:Vals aM ds) (hx:Passes CX X E)
  (ht:eval (.Call (.Attribute o m apos) [] [] pos) X.env=(do
   let ov ← eval o X.env
   standAt apos.atName
   let (f,first) ← holding [ov] (getMethod ov m pl)
   callWith pos f first (backTo pos (starEach [] X.env)) (backToKw pos (keywordEach [] X.env))):=by rfl) :
  PE X (.Call (.Attribute o m apos) [] [] pos) (mi C m sp aM E ta xJ):=by
 intro pins s σ H Q I h
 refine PySem.W.methodCall_KW (pl:=pl) (bj (he pins s σ H _ I h) fun u s1 ⟨x,H1,I1,rx,a,dx,fs,ex,ea,l,q⟩=>?_) ht
 subst ex
 obtain rfl:u=Value.ref a:=rx
 refine jZ I1 ea c hm l ?_
 exact PySem.W.callWith_K0 (first:=[.ref a]) I1.fH hm.kp (ro (us:=[.ref a]) (vs:=[.ref a]) F hr hb hd hx I1 (.cons rfl .nil) q)
structure Mk (K:PySem.W.Frag) (C f:Addr):Prop where
 makes:PySem.W.makesIn K C=true
 init:PySem.W.findIn K (.ref C) "__init__"=some (some (.ref f))
 fn:PySem.W.isFn K (.ref f)=true
 kp:PySem.W.keepIn K (.ref C)=true
theorem wY {pins:List (Addr × Obj)} {σ:St} {H:Hp} {s:Shared} {Q:VK} {us:List Value} {vs:List V} (M:Mk X.K C f) (F:cQ X.prog X.w X.K X.mg X.base CX k f fd ps sp) (hr:bM (k+1) X.A) (hb:Binds X.K fd ps ds) (hd:Vals aM ds)
  (hx:Passes CX X E) (I:Inv X pins σ H s) (r:Vals vs us)
  (h:∀ x dx,H x=none→H dx=none→dx≠x→sp (.ref x::(vs++aM)) (upd (upd H dx (.own x)) x (.ins C dx [])) (fun v H2=>v=.non∧Q (.ref x) H2) E) :
  wpAny (model X.prog X.w) X.A (call (.ref C) us) (EP X pins σ Q) X.xe s:=by
 have hq:=h (s.heap.objs.size+1) s.heap.objs.size (I.hok.fresh (Nat.le_succ _)) (I.hok.fresh (Nat.le_refl _)) (Nat.ne_of_lt (Nat.lt_succ_self _))
 have I2:=Inv.made (C:=C) I
 have r2:Vals (V.ref (s.heap.objs.size+1)::(vs++aM)) (Value.ref (s.heap.objs.size+1)::(us++ds)):=.cons rfl (r.append hd)
 have hl:(Value.ref (s.heap.objs.size+1)::us++ds).length=ps.length:=by
  have e:=r2.length
  rw [F.len _ _ _ _ hq] at e
  exact e.symm
 refine wpAny_call (vL (f:=f) I.fH M.makes M.init (beq_iff_eq.mp M.fn) (codeAny_mono (F.run _ X.stack _ _ ⟨Value.ref (s.heap.objs.size+1)::us,[]⟩ (Value.ref (s.heap.objs.size+1)::(us++ds)) _ _ E (hr.make C us [])
  (I2.Az.make C us []) (hb _ (Value.ref (s.heap.objs.size+1)::us) I2.fH hl) r2 hq) fun r s' hq'=>?_))
 cases r with
 | error e=>exact hx pins σ _ _ e s' I2 hq'
 | ok fl =>
  cases fl with
  | ret u =>
   obtain⟨v,H',I3,rv,ev,q3⟩:=I2.after hq'
   subst ev
   exact⟨rv,⟨V.ref (s.heap.objs.size+1),H',I3,rfl,q3⟩⟩
  | next=>exact False.elim hq'
  | brk=>exact False.elim hq'
  | cont=>exact False.elim hq'
theorem y4 (M:Mk X.K C f) (F:cQ X.prog X.w X.K X.mg X.base CX k f fd ps sp) (hr:bM (k+1) X.A) (hg:Gl X x) (hm:X.mg x=some (.ref C)) (hb:Binds X.K fd ps ds) (hd:Vals aM ds) (hx:Passes CX X E)
  (ha:PA X (e::es) t) (hdb:(x==("__debug__":Str))=false:=by decide) (he:starEach (e::es) X.env=(false,eval e X.env)::starEach es X.env:=by rfl) (hpl:(backTo pos (starEach es X.env)).any (·.1)=false:=by rfl) :
  PE X (.Call (.Name x p) (e::es) [] pos) (sY C sp aM E t):=by
 intro pins s σ H Q I h
 refine wpAny_Call_Name_kw (hZ I hg hm ?_ hdb)
 refine PySem.W.callWith_K (h₀:=X.base) I.ok.mod.kin M.kp (bj (ha pos pins s σ H _ I h) fun us s1 ⟨vs,H1,I1,r,q⟩=>⟨I1.fH,?_⟩) he hpl
 exact wY M F hr hb hd hx I1 r q
end
section
variable {X:Cx} {CX:jN} {k:Nat} {f C:Addr} {fd:FuncData} {ps ks:List Str} {sp:Sp} {E:XK} {x m:Str} {p pos apos kpos:Pos} {e o:Expr} {es:List Expr} {kws:List Keyword} {te ta:TE} {t tk:TA} {nm:Option Str}
variable {g:List Value→List Value→List Value} {gV:List V→List V→List V}
end
structure ay (N P:List Str) (sc:Scope):Prop where
 kind:sc.kind=.function
 co:sc.isCoroutine=false
 gen:sc.isGenerator=false
 nd:N.Nodup
 pre:N.take P.length=P
 par:∀ x∈P,sc.names.lookup x=some .local∨sc.names.lookup x=some .cell
 nofree:∀ y∈sc.names,y.2≠.free
theorem lB {kindOf:Str→Option NameKind} {x:Str}:∀{binds:List (Str × Value)} {m:Str→Option Value},(∀ v,(x,v)∉binds)→bindL kindOf binds m x=m x
 | [],_,_=>rfl
 | (n,v)::r,m,h=>by
  unfold bindL
  rw [lB fun w hw=>h w (List.mem_cons_of_mem _ hw)]
  split
  ·have:x≠n:=by rintro rfl;exact h v List.mem_cons_self
   simp [this]
  ·rfl
theorem ly {kindOf:Str→Option NameKind} {x:Str}:∀{binds:List (Str × Value)} {m:Str→Option Value},(∀ v,(x,v)∉binds)→bindC kindOf binds m x=m x
 | [],_,_=>rfl
 | (n,v)::r,m,h=>by
  unfold bindC
  rw [ly fun w hw=>h w (List.mem_cons_of_mem _ hw)]
  split
  ·rfl
  ·have:x≠n:=by rintro rfl;exact h v List.mem_cons_self
   simp [this]
theorem lz {kindOf:Str→Option NameKind} {x:Str} {v:Value}:∀{P:List Str} {vs:List Value} {i:Nat} {m:Str→Option Value},P.Nodup→P[i]?=some x→vs[i]?=some v→kindOf x=some .local →
  bindL kindOf (P.zip vs) m x=some v
 | [],_,_,_,_,h,_,_=>by simp at h
 | _::_,[],_,_,_,_,h,_=>by simp at h
 | p::P,w::vs,0,m,nd,h1,h2,hk=>by
  simp at h1 h2;subst h1;subst h2
  show bindL kindOf ((p,w)::P.zip vs) m p=_
  unfold bindL
  rw [lB fun v hv=>(List.nodup_cons.mp nd).1 (List.of_mem_zip hv).1,if_pos hk]
  simp
 | p::P,w::vs,i+1,m,nd,h1,h2,hk=>by
  show bindL kindOf ((p,w)::P.zip vs) m x=_
  unfold bindL
  exact lz (i:=i) (List.nodup_cons.mp nd).2 (by simpa using h1) (by simpa using h2) hk
theorem lu {kindOf:Str→Option NameKind} {x:Str} {v:Value}:∀{P:List Str} {vs:List Value} {i:Nat} {m:Str→Option Value},P.Nodup→P[i]?=some x→vs[i]?=some v→kindOf x≠some .local →
  bindC kindOf (P.zip vs) m x=some v
 | [],_,_,_,_,h,_,_=>by simp at h
 | _::_,[],_,_,_,_,h,_=>by simp at h
 | p::P,w::vs,0,m,nd,h1,h2,hk=>by
  simp at h1 h2;subst h1;subst h2
  show bindC kindOf ((p,w)::P.zip vs) m p=_
  unfold bindC
  rw [ly fun v hv=>(List.nodup_cons.mp nd).1 (List.of_mem_zip hv).1,if_neg hk]
  simp
 | p::P,w::vs,i+1,m,nd,h1,h2,hk=>by
  show bindC kindOf ((p,w)::P.zip vs) m x=_
  unfold bindC
  exact lu (i:=i) (List.nodup_cons.mp nd).2 (by simpa using h1) (by simpa using h2) hk
def start (N:List Str) (vs:List V):St:=vs.map some++List.replicate (N.length-vs.length) none
def fb (CX:jN) (P:Program) (w:World) (K:PySem.W.Frag) (mg:Str→Option Value) (base:Heap) (N:List Str) (qual:Str) (scope:Scope) (f:Addr) (cd:Value) (A:Around) (outer:List Env) (s:Shared) (H:Hp) (E:XK):Cx where
 prog:=P
 w:=w
 K:=K
 mg:=mg
 base:=base
 A:=A.deeper (envOfC qual scope s.heap.objs.size f cd)
 N:=N
 s₀:=s
 H₀:=H
 env:=envOfC qual scope s.heap.objs.size f cd
 outer:=outer
 stack:=envOfC qual scope s.heap.objs.size f cd::outer
 ex:=[]
 calm:=true
 fn:=fun _=>true
 pn:=[]
 xe:=fun e s'=>wpAny (model P w) (A.deeper (envOfC qual scope s.heap.objs.size f cd)) (leaving (envOfC qual scope s.heap.objs.size f cd) e) (fun _ s''=>CX outer H s E e s'') (fun e' s''=>CX outer H s E e' s'') s'
theorem oh {sc:Scope} {n:Nat} {x:Str} (h:sc.names.lookup x=some .cell):∃ c,(cellsFrom n sc.names []).lookup x=some c:=by
 have q:=PySem.W.cellsFrom_some sc.names n [] (.inl h)
 exact Option.isSome_iff_exists.mp q
theorem tV {CX:jN} {P:Program} {w:World} {K:PySem.W.Frag} {mg:Str→Option Value} {base:Heap} {N ps:List Str} {qual:Str} {scope:Scope} {f:Addr} {cd:Value} {A:Around} {outer:List Env} {s s1:Shared} {H:Hp} {E:XK} {us:List Value} {vs:List V}
  (S:ay N ps scope) (hd:A.handled=none) (e0:kY P w K mg base A outer s H) (hl:vs.length=ps.length) (r:Vals vs us)
  (x:InCallC s s.heap.objs.size (bindL (envOfC qual scope s.heap.objs.size f cd).kindOf (ps.zip us) fun _=>none) (cellsFrom (s.heap.objs.size+1) scope.names []) (bindC (envOfC qual scope s.heap.objs.size f cd).kindOf (ps.zip us) fun _=>none) s1) :
  Inv (fb CX P w K mg base N qual scope f cd A outer s H E) [] (start N vs) H s1:=by
 have hpl:ps.length≤N.length:=by have:=congrArg List.length S.pre;rw [List.length_take] at this;omega
 obtain⟨h1,tk,rfl,hk⟩:=x.done
 have noA:∀ b:Addr,b∉(fb CX P w K mg base N qual scope f cd A outer s H E).ex:=fun b z=>absurd (show b∈([]:List Addr) from z) (by simp)
 refine⟨⟨e0.mod,S.kind,rfl,rfl,Nat.le_refl _,fun y z c h1 h2=>?_,fun y hy=>?_,fun y c _ h=>?_,fun _=>hd,Around.frames_deeper e0.frames,.inr ⟨rfl,rfl⟩,fun b z=>absurd z (noA b),e0.bs,e0.bsz,fun b _ _=>noA b,fun b z=>absurd z (noA b),e0.iS,e0.frf⟩,
  rfl,e0.bare,Un.kept hk,⟨_,x.toInCall.ns,fun i y v h1 h2 h3=>?_⟩,fun y c h=>⟨_,x.cell y c h⟩,e0.hok.fresh (Nat.le_refl _),fun y c h=>?_,fun p hp=>absurd (show p∈([]:List (Addr × Obj)) from hp) (by simp),e0.hok.kept hk,?_⟩
 ·exact name_of_addr x.apart (PySem.mem_of_lookup h1) (PySem.mem_of_lookup h2)
 ·have hy:scope.names.lookup y=some .cell∨scope.names.lookup y=some .free:=hy
  rcases hy with hy | hy
  ·exact oh hy
  ·exact absurd rfl (S.nofree _ (PySem.mem_of_lookup hy))
 ·exact Nat.le_of_lt (x.above y c (PySem.mem_of_lookup h))
 ·have hi:i<vs.length:=by
   unfold start at h2
   by_cases hi:i<vs.length
   ·exact hi
   ·rw [List.getElem?_append_right (by simpa using hi)] at h2
    rw [List.getElem?_replicate] at h2
    split at h2<;>cases h2
  have ha:vs[i]?=some v:=by
   unfold start at h2
   rw [List.getElem?_append_left (by simpa using hi),List.getElem?_map] at h2
   cases e:vs[i]? with
   | none=>rw [e] at h2;cases h2
   | some a=>rw [e] at h2;cases h2;rfl
  obtain⟨u,hu,rv⟩:=r.get ha
  have hp:ps[i]?=some y:=by
   rw [← S.pre,List.getElem?_take_of_lt (by omega)];exact h1
  have ndP:ps.Nodup:=by rw [← S.pre];exact S.nd.sublist (List.take_sublist _ _)
  refine⟨u,rv,?_⟩
  rcases S.par y (List.mem_of_getElem? hp) with k | k
  ·exact .inl ⟨k,lz ndP hp hu k⟩
  ·obtain⟨c,e⟩:=oh (n:=s.heap.objs.size+1) k
   refine .inr ⟨.inl k,c,e,?_⟩
   have q:=x.cell y c e
   rw [lu ndP hp hu (by show scope.names.lookup y≠_;rw [k];decide)] at q
   exact q
 ·exact e0.hok.fresh (Nat.le_of_lt (x.above y c (PySem.mem_of_lookup h)))
 ·unfold start
  show _=N.length
  rw [List.length_append,List.length_map,List.length_replicate]
  omega
theorem vh {CX:jN} {P:Program} {w:World} {K:PySem.W.Frag} {mg:Str→Option Value} {base:Heap} {k:Nat} {f:Addr} {name qual:Str} {params:Arguments} {body:List Stmt} {scope:Scope} {dV kV doc pm cdv ct oc:Value} {an od:Option Addr}
  {osl:Array (Option Value)} {N ps:List Str} {sp:Sp} (lk:K.lookup f=some ⟨oc,od,.func (PySem.W.fnOf name qual params body scope dV kV doc pm an cdv ct),osl⟩) (hcd:PySem.W.codeIn K cdv qual=true) (S:ay N ps scope)
  (len:∀ vs H Q E,sp vs H Q E→vs.length=ps.length)
  (hbody:∀(A:Around) (outer:List Env) (s:Shared) (H:Hp) (vs:List V) (Q:VK) (E:XK),bM k (A.deeper (envOfC qual scope s.heap.objs.size f cdv))→sp vs H Q E →
   ∃ t,iL (fb CX P w K mg base N qual scope f cdv A outer s H E) body t∧t { nx:=fun _ H'=>Q .non H',rt:=Q } (start N vs) H) :
  cQ P w K mg base CX (k+1) f (PySem.W.fnOf name qual params body scope dV kV doc pm an cdv ct) ps sp:=by
 refine⟨len,fun A outer s H args us vs Q E hr e0 hb r hsp=>?_⟩
 have hl:=len _ _ _ _ hsp
 have KX:K.In s.heap:=e0.mod.kin.keeps fun b o e=>(e0.bs b o e).1
 have lim:s.heap.NoLimit:=e0.mod.nolimit.keeps fun b o e=>(e0.bs b o e).1
 have hkind:∀ y∈ps.zip us,scope.names.lookup y.1=some .local∨(scope.names.lookup y.1=some .cell∧((cellsFrom (s.heap.objs.size+1) scope.names []).lookup y.1).isSome=true):=fun⟨n,v⟩ hy=>by
  rcases S.par n (List.of_mem_zip hy).1 with q | q
  ·exact .inl q
  ·exact .inr ⟨q,PySem.W.cellsFrom_some _ _ _ (.inl q)⟩
 refine codeAny_call_function hr.depth (KX _ _ lk) rfl S.co S.gen rfl (PySem.W.codeRec_of KX hcd) (hb _ _ _ _ ?_)
 refine wpAny_newFunctionEnv_cells S.kind hkind fun env he s1 x=>?_
 subst he
 refine⟨lim.keeps x.toInCall.keep,codeAny_func ?_⟩
 obtain⟨t,ht,hq⟩:=hbody A outer s H vs Q E (hr.deeper _) hsp
 have I:Inv (fb CX P w K mg base N qual scope f cdv A outer s H E) [] (start N vs) H s1:=tV S hr.hd e0 hl r x
 refine wpAny_mono (ht [] s1 (start N vs) H _ I hq) (fun fl s' hs=>?_) fun e s' hs=>hs
 have fin:∀{σ':St} {H':Hp} {v:V} {u:Value},Inv (fb CX P w K mg base N qual scope f cdv A outer s H E) [] σ' H' s'→RelV v u→Q v H'→CE outer P w H s Q u s' :=
  fun {σ' H' v u} J rv q=>⟨v,H',J.os,J.bare,J.base,J.hok,rv,q⟩
 cases fl with
 | ret u =>
  obtain⟨v,σ',H',J,rv,q⟩:=hs
  exact fin J rv q
 | next =>
  obtain⟨σ',H',J,q⟩:=hs
  exact fin (v:=V.non) (u:=Value.none) J rfl q
 | brk =>
  obtain⟨_,_,_,q⟩:=hs
  exact False.elim q
 | cont =>
  obtain⟨_,_,_,q⟩:=hs
  exact False.elim q
end L2
namespace L2
open PySem PySem.Spec PyProof.Rows
section
variable {X:Cx} {x:Str} {p pos:Pos} {e:Expr} {es:List Expr} {t:TA} {id T:String} {r:List V→Hp→VK→Prop}
def C3 (r:List V→Hp→VK→Prop) (t:TA):TE:=fun σ H Q=>t σ H fun vs H1=>r vs H1 Q
theorem aG (hc:cD X (.builtin id) r) (hg:Gl X x) (hm:X.mg x=none) (hv:bootBuiltins x=some (.builtin id)) (ha:PA X (e::es) t) (hn:x ≠ "__name__":=by decide) (hdb:(x==("__debug__":Str))=false:=by decide)
  (he:starEach (e::es) X.env=(false,eval e X.env)::starEach es X.env:=by rfl) (hpl:(backTo pos (starEach es X.env)).any (·.1)=false:=by rfl):PE X (.Call (.Name x p) (e::es) [] pos) (C3 r t):=by
 intro pins s σ H Q I h
 refine wpAny_Call_Name_kw (gR I hg hm hv ?_ hn hdb)
 exact PyProof.Rows.callWith_builtin1 (bj (ha pos pins s σ H _ I h) fun us s1 ⟨vs,H1,I1,r1,q1⟩=>hc pins s1 σ H1 vs us Q I1 r1 q1) he hpl
theorem bW (hc:cD X (.type T) r) (hg:Gl X x) (hm:X.mg x=none) (hv:bootBuiltins x=some (.type T)) (ha:PA X (e::es) t) (hn:x ≠ "__name__":=by decide) (hdb:(x==("__debug__":Str))=false:=by decide)
  (he:starEach (e::es) X.env=(false,eval e X.env)::starEach es X.env:=by rfl) (hpl:(backTo pos (starEach es X.env)).any (·.1)=false:=by rfl):PE X (.Call (.Name x p) (e::es) [] pos) (C3 r t):=by
 intro pins s σ H Q I h
 refine wpAny_Call_Name_kw (gR I hg hm hv ?_ hn hdb)
 exact PyProof.Rows.callWith_type1 (bj (ha pos pins s σ H _ I h) fun us s1 ⟨vs,H1,I1,r1,q1⟩=>hc pins s1 σ H1 vs us Q I1 r1 q1) he hpl
end
end L2
namespace HT
open PySem PyProof.Rows
section
open PySem.SeqAt
open PySem.AutoSeq1 (wpAny_loadPart')
open PySem.MeetsSeq PySem.MeetsSeq2 PySem.MeetsSeq3
end
section
variable {prog:Program} {w:World} {A:Around} {E:Value→Shared→Prop} {s:Shared}
theorem yk {t b:Addr} {vs ws:List Value} {Q:Value→Shared→Prop} (ht:IsTup s.heap t vs.toArray) (hb:IsTup s.heap b ws.toArray) (hv:vs≠[])
  (h1:ws=[]→Q (.ref t) s) (h2:ws≠[]→Q (.ref s.heap.objs.size) { s with heap:=s.heap.push { cls:=.type "tuple",data:=.seq (vs++ws).toArray } })
  (hsz:vs.length+ws.length≤sizeLine):wpAny (model prog w) A (binaryOp .Add (.ref t) (.ref b)) Q E s:=by
 obtain⟨⟨cls,dd,data,sl⟩,ho,hc,n,hd⟩:=id ht
 obtain⟨⟨cls2,dd2,data2,sl2⟩,ho2,hc2,n2,hd2⟩:=id hb
 simp only at hc hd hc2 hd2
 subst hc hd hc2 hd2
 have e:vs.toArray++ws.toArray=(vs++ws).toArray:=by simp
 by_cases hw:ws=[]
 ·exact concat_meets ⟨_,ho,rfl⟩ ⟨_,ho2,rfl⟩ noFill_tuple_add seq_tuple_add PySem.F.slot_tuple_add PySem.F.entry_tuple_add (PySem.F.args_tuple_add_2 _ _)
   (tuple_addW1 t b vs.toArray ws.toArray n n2 dd dd2 sl sl2 (by simpa using hv) (by simp [hw])) ⟨ho,ho2,h1 hw⟩
 ·refine concat_meets ⟨_,ho,rfl⟩ ⟨_,ho2,rfl⟩ noFill_tuple_add seq_tuple_add PySem.F.slot_tuple_add PySem.F.entry_tuple_add (PySem.F.args_tuple_add_2 _ _)
   (tuple_addW2 t b vs.toArray ws.toArray n n2 dd dd2 sl sl2 (by simpa using hv) (by simpa using hw) (by rw [List.size_toArray,List.size_toArray];exact hsz)) ⟨ho,ho2,?_⟩
  rw [e]
  exact h2 hw
def lg (n d:Nat):Option Int→Nat
 | none=>d
 | some v=>if v<0 then (v+(n:Int)).toNat else min v.toNat n
theorem rq {v:Value} {o:Option Int} {Q:Option Int→Shared→Prop} (p:IsPart v o) (h:Q o s):wpAny (model prog w) A (Builtin.Slice.slicePartIndex v) Q E s:=by
 cases p with
 | none=>exact slicePart_none h
 | int i t=>exact slicePart_int h
end
end HT
namespace L2
open PySem PySem.Spec PyProof.Rows
abbrev TO:=St→Hp→(Option Int→Hp→Prop)→Prop
def PO (X:Cx) (e:Option Expr) (t:TO):Prop :=
 ∀(pins:List (Addr × Obj)) (s:Shared) (σ:St) (H:Hp) (Q:Option Int→Hp→Prop),Inv X pins σ H s→t σ H Q →
  wpAny (model X.prog X.w) X.A (evalPart e X.env) (fun u s'=>∃ o H',Inv X pins σ H' s'∧IsPart u o∧Q o H') X.xe s
def nM:TO:=fun _ H Q=>Q none H
def xO (t:TE):TO:=fun σ H Q=>t σ H fun x H1=>∃ i,x=.int i∧Q (some i) H1
section
variable {X:Cx} {e:Expr} {te:TE} {lo hi:Option Expr} {tl th:TO} {pos p2:Pos}
theorem m7:PO X none nM:=by
 intro pins s σ H Q I h
 rw [evalPart_none]
 exact wpAny_pure ⟨none,H,I,.none,h⟩
theorem ic (h:PE X e te):PO X (some e) (xO te):=by
 intro pins s σ H Q I hw
 rw [evalPart_some]
 refine bj (h pins s σ H _ I hw) fun u s1 ⟨x,H1,I1,r1,q1⟩=>?_
 obtain⟨i,rfl,q⟩:=q1
 obtain⟨t,rfl⟩:=r1
 exact⟨some i,H1,I1,.int i t,q⟩
def BS (X:Cx) (r:V→Option Int→Option Int→Hp→VK→Prop):Prop :=
 ∀(pins:List (Addr × Obj)) (s:Shared) (σ:St) (H:Hp) (x:V) (v vl vu:Value) (lo hi:Option Int) (sl:Addr) (Q:VK),Inv X pins σ H s→RelV x v→s.heap.IsSliceOf sl vl vu .none→IsPart vl lo→IsPart vu hi→r x lo hi H Q →
  ∃ T id,typeLookup (.type T) "__getitem__"=pure (some (.builtin id))∧s.TypeIs v T∧wpAny (model X.prog X.w) X.A (getItem v (.ref sl)) (EP X pins σ Q) X.xe s
def DJ (r:V→Option Int→Option Int→Hp→VK→Prop) (te:TE) (tl th:TO):TE:=fun σ H Q=>te σ H fun x H1=>tl σ H1 fun l H2=>th σ H2 fun u H3=>r x l u H3 Q
theorem kx {r:V→Option Int→Option Int→Hp→VK→Prop} (hr:BS X r) (he:PE X e te) (hl:PO X lo tl) (hu:PO X hi th):PE X (.Subscript e (.Slice lo hi none p2) pos) (DJ r te tl th):=by
 intro pins s σ H Q I h
 refine Subscript_ (bj (he pins s σ H _ I h) fun v s1 ⟨x,H1,I1,r1,q1⟩=>?_)
 refine wpAny_Slice (bj (hl pins s1 σ H1 _ I1 q1) fun vl s2 ⟨l,H2,I2,pl,q2⟩=>bj (hu pins s2 σ H2 _ I2 q2) fun vu s3 ⟨u,H3,I3,pu,q3⟩=>?_)
 rw [evalPart_none]
 refine wpAny_pure ?_
 have I4:Inv X pins σ H3 { s3 with heap:=s3.heap.push { cls:=.type "slice",data:=.fields #[vl,vu,.none] } }:=I3.kept (t':=s3.toks) fun b ob q=>Heap.get?_push_of_some _ q
 obtain⟨T,id,hT,ht,hg⟩:=hr pins { s3 with heap:=s3.heap.push { cls:=.type "slice",data:=.fields #[vl,vu,.none] } } σ H3 x v vl vu l u s3.heap.objs.size Q I4 r1 (Heap.IsSliceOf.new ..) pl pu q3
 show wpAny (model X.prog X.w) X.A (subscriptTail e (.Slice lo hi none p2) v (.ref s3.heap.objs.size)) (EP X pins σ Q) X.xe { s3 with heap:=s3.heap.push { cls:=.type "slice",data:=.fields #[vl,vu,.none] } }
 exact tail_any (ops:=[.ref s3.heap.objs.size,v]) ht hT hg (by with_unfolding_all rfl)
def jU (xs:List V) (lo hi:Option Int):List V:=(xs.drop (HT.lg xs.length 0 lo)).take (HT.lg xs.length xs.length hi-HT.lg xs.length 0 lo)
theorem i8 (xs:List V) (lo hi:Option Int):(jU xs lo hi).length≤xs.length:=by
 unfold jU
 rw [List.length_take,List.length_drop]
 omega
def CC (K:PySem.W.Frag):R2:=fun x y H Q=>∃ a b xs ys,x=.ref a∧y=.ref b∧bC K H a xs∧bC K H b ys∧xs≠[]∧xs.length+ys.length≤sizeLine ∧
 (ys=[]→Q (.ref a) H)∧(ys≠[]→∀ p,H p=none→Q (.ref p) (upd H p (.tup (xs++ys))))
theorem Vals.jG {xs:List V} {us:List Value} (r:Vals xs us):us=[]↔xs=[]:=by
 cases r with
 | nil=>simp
 | cons _ _=>simp
theorem yV:fG X (binaryOp .Add) (CC X.K):=by
 intro pins s σ H x y v u Q I rx ry h
 obtain⟨a,b,xs,ys,rfl,rfl,ha,hb,hx,hz,q1,q2⟩:=h
 cases rx
 cases ry
 obtain⟨its,r1,p1,_⟩:=I.tuple ha
 obtain⟨its2,r2,p2,_⟩:=I.tuple hb
 refine HT.yk p1 p2 (fun z=>hx (r1.jG.mp z)) (fun z=>⟨.ref a,H,I,rfl,q1 (r2.jG.mp z)⟩) (fun z=>?_) (by rw [← r1.length,← r2.length];exact hz)
 refine⟨.ref s.heap.objs.size,_,I.laid (t':=s.toks) (o:=.tup (xs++ys)) (fun b ob q=>Heap.get?_push_of_some _ q) (Nat.le_refl _) ?_,rfl,q2 (fun w=>z (r2.jG.mpr w)) _ (I.hok.fresh (Nat.le_refl _))⟩
 exact⟨by rw [List.length_append];exact hz,_,r1.append r2,IsTup.new _ _⟩
end
end L2
namespace L2
open PySem PySem.Spec PyProof.Rows
def vH (n:Nat) (i:Int):Option Nat:=if 0≤i then (if i<n then some i.toNat else none) else if -(n:Int)≤i then some (i+n).toNat else none
def nV {α:Type} (xs:List α) (i:Int):Option α:=(vH xs.length i).bind fun j=>xs[j]?
theorem yz {n:Nat} {i:Int} {j:Nat} (h:vH n i=some j):seqIndex? i n=some j∧j<n ∧ -(n:Int)≤i∧i<n:=by
 unfold vH at h
 by_cases h0:0≤i
 ·rw [if_pos h0] at h
  by_cases h1:i<n
  ·rw [if_pos h1] at h
   have e:i.toNat=j:=Option.some.inj h
   exact⟨by rw [seqIndex_of h0 h1,e],by omega,by omega,h1⟩
  ·rw [if_neg h1] at h;cases h
 ·rw [if_neg h0] at h
  by_cases h1:-(n:Int)≤i
  ·rw [if_pos h1] at h
   have e:(i+n).toNat=j:=Option.some.inj h
   exact⟨by rw [seqIndex_neg (by omega) h1,e],by omega,h1,by omega⟩
  ·rw [if_neg h1] at h;cases h
theorem rO {α:Type} {xs:List α} {i:Int} {v:α} (h:nV xs i=some v):∃ j,seqIndex? i xs.length=some j∧xs[j]?=some v∧j<xs.length ∧ -(xs.length:Int)≤i∧i<xs.length:=by
 unfold nV at h
 cases e:vH xs.length i with
 | none=>rw [e] at h;cases h
 | some j =>
  rw [e] at h
  obtain⟨h1,h2,h3,h4⟩:=yz e
  exact⟨j,h1,h,h2,h3,h4⟩
theorem yh {α:Type} {xs:List α} {j:Nat} {v:α} (h:xs[j]?=some v):nV xs (j:Int)=some v:=by
 have hj:j<xs.length:=(List.getElem?_eq_some_iff.mp h).1
 have e:vH xs.length (j:Int)=some j:=by
  unfold vH
  rw [if_pos (by omega),if_pos (by omega)];simp
 unfold nV;rw [e];exact h
theorem uR {α:Type} (xs:List α) (v:α):nV (xs++[v]) (-1)=some v:=by
 have hl:(xs++[v]).length=xs.length+1:=by simp
 have e:vH (xs++[v]).length (-1)=some xs.length:=by
  unfold vH
  rw [hl,if_neg (by decide),if_pos (by omega)]
  congr 1
  omega
 unfold nV
 rw [e]
 show (xs++[v])[xs.length]?=some v
 simp
def yc (b:Expr):Prop:=∀ o i,subscripted b false o i=operate [o,i] (getItem o i)
def zI (X:Cx) (r:R2):Prop :=
 ∀(value slice:Expr) (pins:List (Addr × Obj)) (s:Shared) (σ:St) (H:Hp) (x y:V) (v u:Value) (Q:VK),Inv X pins σ H s→RelV x v→RelV y u→r x y H Q →
  subscripted slice false v u=operate [v,u] (getItem v u)→wpAny (model X.prog X.w) X.A (subscriptTail value slice v u) (EP X pins σ Q) X.xe s
def An (X:Cx) (id:String) (r:V→List V→Hp→VK→Prop):Prop :=
 ∀(pins:List (Addr × Obj)) (s:Shared) (σ:St) (H:Hp) (x:V) (xs:List V) (v:Value) (us:List Value) (Q:VK),Inv X pins σ H s→RelV x v→Vals xs us→r x xs H Q →
  wpAny (model X.prog X.w) X.A (call (.builtin id) (v::us)) (EP X pins σ Q) X.xe s
section
variable {X:Cx} {a b:Expr} {ta tb:TE} {pos:Pos}
theorem aL {r:R2} (hr:zI X r) (ha:PE X a ta) (hb:PE X b tb) (hs:yc b):PE X (.Subscript a b pos) (BY r ta tb):=by
 intro pins s σ H Q I h
 exact Subscript_ (Aw ha hb I h fun v u s2 x y H2 I2 rx ry q=>hr a b pins s2 σ H2 x y v u Q I2 rx ry q (hs _ _))
def Br (K:PySem.W.Frag):R2:=fun x y H Q=>∃ p xs i v,x=.ref p∧y=.int i∧aX K H p xs∧nV xs i=some v∧Q v H
def Bt (K:PySem.W.Frag):R2:=fun x y H Q=>∃ p xs i v,x=.ref p∧y=.int i∧bC K H p xs∧nV xs i=some v∧Q v H
theorem gi:zI X (Br X.K):=by
 intro value slice pins s σ H x y v u Q I rx ry h hs
 obtain⟨p,xs,i,z,rfl,rfl,hq,he,q⟩:=h
 cases rx
 obtain⟨t,rfl⟩:=ry
 obtain⟨its,r,pl,hz⟩:=I.list hq
 obtain⟨j,h1,h2,h3,h4,h5⟩:=rO he
 obtain⟨w,ew,rw'⟩:=r.get h2
 have hl:=r.length
 have hn:=mN
 have fin:EP X pins σ Q w s:=⟨z,H,I,rw',q⟩
 by_cases h0:0≤i
 ·have hj:i.toNat=j:=by
   rw [seqIndex_of h0 h5] at h1
   exact Option.some.inj h1
  exact item_listR pl.isList h0 (by omega) (by rw [hj];simpa using ew) fin hs
 ·have hj:(i+(its.toArray.size:Int)).toNat=j:=by
   rw [seqIndex_neg (by omega) h4] at h1
   rw [List.size_toArray,← hl]
   exact Option.some.inj h1
  exact subscriptTail_builtinR (x:=w) pl.isList.typeIs slot_list_getitem.lookup
   (wpAny_getItem_list_neg (Q:=fun r s'=>r=w∧EP X pins σ Q r s') pl.isList (by omega) (by rw [List.size_toArray]<;>omega) (by omega) (by rw [hj];simpa using ew) ⟨rfl,fin⟩) hs
theorem aR:zI X (Bt X.K):=by
 intro value slice pins s σ H x y v u Q I rx ry h hs
 obtain⟨p,xs,i,z,rfl,rfl,hq,he,q⟩:=h
 cases rx
 obtain⟨t,rfl⟩:=ry
 obtain⟨its,r,pl,hz⟩:=I.tuple hq
 obtain⟨j,h1,h2,h3,h4,h5⟩:=rO he
 obtain⟨w,ew,rw'⟩:=r.get h2
 have hl:=r.length
 have hn:=mN
 have fin:EP X pins σ Q w s:=⟨z,H,I,rw',q⟩
 exact subscriptTail_builtinR (x:=w) pl.typeIs slot_tuple_getitem.lookup
  (getItem_tuple (j:=j) (Q:=fun r s'=>r=w∧EP X pins σ Q r s') pl (by omega) (by omega) (by rw [List.size_toArray,← hl];exact h1) (by simpa using ew) ⟨rfl,fin⟩) hs
theorem ny (lo hi:Option Int) (n:Nat):(sliceBounds lo hi none n).1=((HT.lg n 0 lo:Nat):Int)∧(sliceBounds lo hi none n).2.1=((HT.lg n n hi:Nat):Int)∧(sliceBounds lo hi none n).2.2=1:=by
 refine⟨?_,?_,rfl⟩
 ·cases lo with
  | none=>simp [sliceBounds,HT.lg]
  | some i =>
   simp only [sliceBounds,HT.lg,Option.getD_none,show (1:Int) > 0 by decide,if_true]
   by_cases h:i<0
   ·simp only [h,if_true]<;>omega
   ·simp only [h,if_false]<;>omega
 ·cases hi with
  | none=>simp [sliceBounds,HT.lg]
  | some i =>
   simp only [sliceBounds,HT.lg,Option.getD_none,show (1:Int) > 0 by decide,if_true]
   by_cases h:i<0
   ·simp only [h,if_true]<;>omega
   ·simp only [h,if_false]<;>omega
theorem lh (its:List Value) (lo hi:Option Int):slicePick its.toArray lo hi none=((its.drop (HT.lg its.length 0 lo)).take (HT.lg its.length its.length hi-HT.lg its.length 0 lo)).toArray:=by
 obtain⟨h1,h2,h3⟩:=ny lo hi its.toArray.size
 unfold slicePick
 rw [h1,h2,h3]
 simp only [sliceRange_one,pick_run,List.size_toArray]<;>rfl
def DE (K:PySem.W.Frag):V→Option Int→Option Int→Hp→VK→Prop:=fun x lo hi H Q=>∃ a xs,x=.ref a∧aX K H a xs∧∀ p,H p=none→Q (.ref p) (upd H p (.lst (jU xs lo hi)))
theorem nr:BS X (DE X.K):=by
 intro pins s σ H x v vl vu lo hi sl Q I rx hs pl pu h
 obtain⟨a,xs,rfl,hx,q⟩:=h
 cases rx
 obtain⟨its,r,ht,hz⟩:=I.list hx
 have hlen:=r.length
 refine⟨"list",_,slot_list_getitem.lookup,ht.isList.typeIs,?_⟩
 refine wpAny_getItem_list_slice ht.isList hs pl pu .none (by simp) ?_ (by rw [List.size_toArray]<;>omega)
 rw [lh,← hlen]
 refine⟨.ref s.heap.objs.size,_,I.laid (t':=s.toks) (o:=.lst (jU xs lo hi)) (fun b ob q=>Heap.get?_push_of_some _ q) (Nat.le_refl _) ?_,rfl,q _ (I.hok.fresh (Nat.le_refl _))⟩
 exact⟨Nat.le_trans (i8 xs lo hi) hz,_,0,(r.drop (HT.lg xs.length 0 lo)).take (HT.lg xs.length xs.length hi-HT.lg xs.length 0 lo),Heap.get?_push_size _ rfl⟩
def dB:V→Bool
 | .non=>true
 | .bl _=>true
 | .int _=>true
 | .str _=>true
 | _=>false
def oH:V→V→Bool
 | .non,.non=>true
 | .bl a,.bl b=>a==b
 | .bl a,.int b=>(if a then 1 else 0)==b
 | .int a,.bl b=>a==(if b then 1 else 0)
 | .int a,.int b=>a==b
 | .str a,.str b=>a==b
 | _,_=>false
theorem AA {A:Around} {s:Shared} {y x:V} {u v:Value} (ry:RelV y u) (rx:RelV x v) (fy:dB y=true) (fx:dB x=true):SeqAt.EqAt A s u v (oH y x):=by
 cases y with
 | non =>
  cases ry
  cases x with
  | non=>cases rx;exact SeqAt.EqAt.same _
  | bl b=>cases rx;exact SeqAt.EqAt.none_bool b
  | int b=>obtain⟨t,rfl⟩:=rx;exact SeqAt.EqAt.none_int b t
  | str b=>obtain⟨t,rfl⟩:=rx;exact SeqAt.EqAt.none_str b t
  | _=>exact absurd (show false=true from fx) Bool.false_ne_true
 | bl a =>
  cases ry
  cases x with
  | non=>cases rx;exact SeqAt.EqAt.bool_none a
  | bl b=>cases rx;exact SeqAt.EqAt.bool_bool a b
  | int b=>obtain⟨t,rfl⟩:=rx;exact SeqAt.EqAt.bool_int a b t
  | str b=>obtain⟨t,rfl⟩:=rx;exact SeqAt.EqAt.bool_str a b t
  | _=>exact absurd (show false=true from fx) Bool.false_ne_true
 | int a =>
  obtain⟨t',rfl⟩:=ry
  cases x with
  | non=>cases rx;exact SeqAt.EqAt.int_none a t'
  | bl b=>cases rx;exact SeqAt.EqAt.int_bool a t' b
  | int b=>obtain⟨t,rfl⟩:=rx;exact SeqAt.EqAt.int_int a t' b t
  | str b=>obtain⟨t,rfl⟩:=rx;exact SeqAt.EqAt.int_str a t' b t
  | _=>exact absurd (show false=true from fx) Bool.false_ne_true
 | str a =>
  obtain⟨t',rfl⟩:=ry
  cases x with
  | non=>cases rx;exact SeqAt.EqAt.str_none a t'
  | bl b=>cases rx;exact SeqAt.EqAt.str_bool a t' b
  | int b=>obtain⟨t,rfl⟩:=rx;exact SeqAt.EqAt.str_int a t' b t
  | str b=>obtain⟨t,rfl⟩:=rx;exact SeqAt.EqAt.str_str a t' b t
  | _=>exact absurd (show false=true from fx) Bool.false_ne_true
 | _=>exact absurd (show false=true from fy) Bool.false_ne_true
def tN (x:V) (u:Value):Bool:=match u with
 | .none=>oH .non x
 | .bool b=>oH (.bl b) x
 | .int i _=>oH (.int i) x
 | .str z _=>oH (.str z) x
 | _=>false
theorem qB {x y:V} {u:Value} (r:RelV y u) (f:dB y=true):tN x u=oH y x:=by
 cases y with
 | non=>cases r;rfl
 | bl b=>cases r;rfl
 | int i=>obtain⟨t,rfl⟩:=r;rfl
 | str z=>obtain⟨t,rfl⟩:=r;rfl
 | _=>exact absurd (show false=true from f) Bool.false_ne_true
theorem mx {x:V}:∀{xs:List V} {us:List Value},Vals xs us→xs.all dB=true→us.any (tN x)=xs.any fun y=>oH y x
 | _,_,.nil,_=>rfl
 | y::xs,u::us,.cons r t,f=>by
  rw [List.all_cons,Bool.and_eq_true] at f
  rw [List.any_cons,List.any_cons,qB r f.1,mx t f.2]
theorem h7 {A:Around} {s:Shared} {x:V} {v:Value} (rx:RelV x v) (fx:dB x=true):∀{xs:List V} {us:List Value},Vals xs us→xs.all dB=true→∀ u∈us,SeqAt.EqAt A s u v (tN x u)
 | _,_,.nil,_=>fun u hu=>by cases hu
 | y::xs,u::us,.cons r t,f=>fun u' hu=>by
  rw [List.all_cons,Bool.and_eq_true] at f
  rcases List.mem_cons.mp hu with rfl | hu
  ·rw [qB r f.1];exact AA r rx f.1 fx
  ·exact h7 rx fx t f.2 u' hu
def Ci (x:V) (xs:List V):Bool:=xs.any fun y=>oH y x
def DZ (K:PySem.W.Frag) (neg:Bool):R2:=fun x y H Q=>∃ p xs,y=.ref p∧(aX K H p xs∨bC K H p xs)∧dB x=true∧xs.all dB=true∧Q (.bl (if neg then !Ci x xs else Ci x xs)) H
theorem mT:fG X (compareOp .NotIn) (DZ X.K true):=by
 intro pins s σ H x y v u Q I rx ry h
 obtain⟨p,xs,rfl,hq,fx,fs,q⟩:=h
 cases ry
 rcases hq with hq | hq
 ·obtain⟨its,r,pl,hz⟩:=I.list hq
  refine SeqAt.notIn_listAt (tN x) pl.isList (fun w hw=>h7 rx fx r fs w (by simpa using hw)) ⟨.bl _,H,I,rfl,?_⟩
  rw [show its.toArray.any (tN x)=its.any (tN x) by simp,mx r fs]
  exact q
 ·obtain⟨its,r,pl,hz⟩:=I.tuple hq
  refine SeqAt.notIn_tupleAt (tN x) pl (fun w hw=>h7 rx fx r fs w (by simpa using hw)) ⟨.bl _,H,I,rfl,?_⟩
  rw [show its.toArray.any (tN x)=its.any (tN x) by simp,mx r fs]
  exact q
theorem mB:cD X (.builtin "len") (fun xs H Q=>∃ p ys,xs=[.ref p]∧(aX X.K H p ys∨bC X.K H p ys)∧Q (.int ys.length) H):=by
 intro pins s σ H xs us Q I r h
 obtain⟨p,ys,rfl,hq,q⟩:=h
 obtain⟨u,rfl,rx⟩:=vals1 r
 cases rx
 have hn:=mN
 rcases hq with hq | hq
 ·obtain⟨its,r',pl,hz⟩:=I.list hq
  have hlen:=r'.length
  exact Calls.call_len_list pl.isList (by simp only [List.size_toArray]<;>omega) ⟨.int ys.length,H,I.tok _,⟨s.toks+1,by rw [List.size_toArray,hlen]⟩,q⟩
 ·obtain⟨its,r',pl,hz⟩:=I.tuple hq
  have hlen:=r'.length
  exact len_tuple pl (by simp only [List.size_toArray]<;>omega) ⟨.int ys.length,H,I.tok _,⟨s.toks+1,by rw [List.size_toArray,hlen]⟩,q⟩
theorem mC:cD X (.type "list") (fun xs H Q=>∃ p ys,xs=[.ref p]∧(aX X.K H p ys∨bC X.K H p ys)∧∀ l,H l=none→Q (.ref l) (upd H l (.lst ys))):=by
 intro pins s σ H xs us Q I r h
 obtain⟨p,ys,rfl,hq,q⟩:=h
 obtain⟨u,rfl,rx⟩:=vals1 r
 cases rx
 have fin:∀(its:List Value),Vals ys its→ys.length≤sizeLine→∀(h':Heap) (c':Nat),(∀ b o',s.heap.get? b=some o'→h'.get? b=some o') →
   h'.get? s.heap.objs.size=some { cls:=.type "list",dict:=none,data:=.seq its.toArray c',slots:=#[] }→EP X pins σ Q (.ref s.heap.objs.size) { s with heap:=h' }:=fun its r' hz h' c' kp e =>
  ⟨.ref s.heap.objs.size,_,I.laid (t':=s.toks) kp (Nat.le_refl _) (show bo X.prog X.w _ h' _ (.lst ys) from ⟨hz,its,c',r',e⟩),rfl,q _ (I.hok.fresh (Nat.le_refl _))⟩
 rcases hq with hq | hq
 ·obtain⟨its,r',pl,hz⟩:=I.list hq
  have hlen:=r'.length
  obtain⟨o,ho,hc,n,hd⟩:=pl.isList
  exact call_list_seq p (.inl rfl) ho hc hd (fun h' c' kp e=>fin its r' hz h' c' kp e) (by simp only [List.size_toArray]<;>omega)
 ·obtain⟨its,r',pl,hz⟩:=I.tuple hq
  have hlen:=r'.length
  obtain⟨o,ho,hc,n,hd⟩:=pl
  exact call_list_seq p (.inr rfl) ho hc hd (fun h' c' kp e=>fin its r' hz h' c' kp e) (by simp only [List.size_toArray]<;>omega)
theorem bI:cD X (.type "tuple") (fun xs H Q=>∃ p ys,xs=[.ref p]∧((aX X.K H p ys∧∀ l,H l=none→Q (.ref l) (upd H l (.tup ys)))∨(bC X.K H p ys∧Q (.ref p) H))):=by
 intro pins s σ H xs us Q I r h
 obtain⟨p,ys,rfl,h⟩:=h
 obtain⟨u,rfl,rx⟩:=vals1 r
 cases rx
 rcases h with⟨hq,q⟩|⟨hq,q⟩
 ·obtain⟨its,r',pl,hz⟩:=I.list hq
  have hlen:=r'.length
  refine call_tuple_list pl.isList (fun h' kp=>?_) (by simp only [List.size_toArray]<;>omega)
  have I1:Inv X pins σ H { s with heap:=h' }:=I.kept (t':=s.toks) kp
  have I2:Inv X pins σ (upd H h'.objs.size (.tup ys)) { s with heap:=h'.push { cls:=.type "tuple",data:=.seq its.toArray } } :=
   I1.laid (t':=s.toks) (fun b o e=>Heap.get?_push_of_some _ e) (Nat.le_refl _) (show bo X.prog X.w _ _ _ (.tup ys) from ⟨hz,its,r',IsTup.new _ _⟩)
  exact⟨.ref h'.objs.size,_,I2,rfl,q _ (I1.hok.fresh (Nat.le_refl _))⟩
 ·obtain⟨its,r',pl,hz⟩:=I.tuple hq
  exact call_tuple_same pl ⟨.ref p,H,I,rfl,q⟩
def DL (K:PySem.W.Frag) (T:String) (x:V) (H:Hp):Prop:=match x with
 | .str _=>T = "str"
 | .int _=>T = "int"
 | .ref p=>(T = "list"∧∃ xs,aX K H p xs)∨(T = "tuple"∧∃ o,K.lookup p=some o∧o.cls=.type "tuple"∧o.dict=none) ∨
   (T = "dict"∧((∃ kvs,H p=some (.dK kvs))∨∃ kvs,H p=some (.dT kvs)))∨(T = "set"∧∃ S n,H p=some (.set S n))
 | _=>False
theorem xX {pins:List (Addr × Obj)} {σ:St} {H:Hp} {s:Shared} {T:String} {x:V} {v:Value} (I:Inv X pins σ H s) (r:RelV x v) (ty:DL X.K T x H) :
  s.TypeIs v T∧∀ a,v=.ref a→∃ ob,s.heap.get? a=some ob∧ob.dict=none:=by
 cases x with
 | str z =>
  obtain⟨t,rfl⟩:=r
  cases (show T = "str" from ty)
  exact⟨typeIs_str s z t,fun _ e=>nomatch e⟩
 | int i =>
  obtain⟨t,rfl⟩:=r
  cases (show T = "int" from ty)
  exact⟨typeIs_int s i t,fun _ e=>nomatch e⟩
 | ref p =>
  cases r
  rcases ty with⟨rfl,xs,hq⟩|⟨rfl,o,hk,hc,hd⟩|⟨rfl,hk⟩|⟨rfl,S,n,hk⟩
  ·obtain⟨its,_,pl,_⟩:=I.list hq
   refine⟨pl.isList.typeIs,fun a e=>?_⟩
   cases e
   obtain⟨o,n,e,c,hd,_⟩:=pl
   exact⟨o,e,hd⟩
  ·refine⟨⟨o,I.fH p o hk,hc⟩,fun a e=>?_⟩
   cases e
   exact⟨o,I.fH _ o hk,hd⟩
  ·have z:∃ o,s.heap.get? p=some o∧o.ExactDict:=by
    rcases hk with⟨kvs,hk⟩|⟨kvs,hk⟩
    ·obtain⟨_,_,_,_,o,_,_,e,ex,_⟩:=I.hok p _ hk
     exact⟨o,e,ex⟩
    ·obtain⟨_,_,_,_,o,_,_,e,ex,_⟩:=I.hok p _ hk
     exact⟨o,e,ex⟩
   obtain⟨o,e,ex⟩:=z
   refine⟨⟨o,e,ex.1⟩,fun a e2=>?_⟩
   cases e2
   exact⟨o,e,ex.2.1⟩
  ·obtain⟨o,_,_,_,e,ex,_⟩:=I.hok p _ hk
   refine⟨⟨o,e,ex.1⟩,fun a e2=>?_⟩
   cases e2
   exact⟨o,e,ex.2.1⟩
 | _=>exact False.elim ty
def BD (K:PySem.W.Frag) (T:String) (r:V→List V→Hp→VK→Prop) (to:TE):TE:=fun σ H Q=>to σ H fun x H1=>DL K T x H1∧r x [] H1 Q
def DF (K:PySem.W.Frag) (T:String) (r:V→List V→Hp→VK→Prop) (to:TE) (t:TA):TE:=fun σ H Q=>to σ H fun x H1=>DL K T x H1∧t σ H1 fun xs H2=>r x xs H2 Q
variable {o e:Expr} {es:List Expr} {to:TE} {t:TA} {name:Str} {apos cpos:Pos} {T id:String} {r:V→List V→Hp→VK→Prop}
theorem Bi (pa:PlainAttrs T) (slot:Slot T name id) (hty:typeOf (.builtin id)=pure (.type "method_descriptor")) (hm:An X id r) (ho:PE X o to)
  (hbase:attributeBase o name X.env (eval o X.env)=eval o X.env:=by rfl) (hline:(apos.endLine==cpos.line)=true:=by rfl):PE X (.Call (.Attribute o name apos) [] [] cpos) (BD X.K T r to):=by
 intro pins s σ H Q I h
 refine wpAny_Call_method0_late hbase hline (bj (ho pins s σ H _ I h) fun v s1 ⟨x,H1,I1,r1,ty,q1⟩=>?_)
 obtain⟨h1,h2⟩:=xX I1 r1 ty
 exact⟨T,id,pa,slot,hty,h1,h2,Calls.callWith_builtin rfl (PySem.evalArgs_none (hm pins s1 σ H1 x [] v [] Q I1 r1 .nil q1))⟩
theorem kq (pa:PlainAttrs T) (slot:Slot T name id) (hty:typeOf (.builtin id)=pure (.type "method_descriptor")) (hm:An X id r) (ho:PE X o to) (ha:PA X (e::es) t)
  (hbase:attributeBase o name X.env (eval o X.env)=eval o X.env:=by rfl)
  (hfew:((backTo cpos (starEach (e::es) X.env)).all (fun x=>!x.1) && (backToKw cpos (keywordEach [] X.env)).all (fun x=>x.1.isSome)
   && decide ((e::es).length+([]:List Keyword).length+(if ([]:List Keyword).isEmpty then 0 else 1)<30))=true:=by rfl)
  (hline:(apos.endLine==cpos.line)=true:=by rfl) (hs:starEach (e::es) X.env=(false,eval e X.env)::starEach es X.env:=by rfl) (hplain:(backTo cpos (starEach es X.env)).any (·.1)=false:=by rfl) :
  PE X (.Call (.Attribute o name apos) (e::es) [] cpos) (DF X.K T r to t):=by
 intro pins s σ H Q I h
 refine wpAny_Call_method_late hbase hfew hline rfl (bj (ho pins s σ H _ I h) fun v s1 ⟨x,H1,I1,r1,ty,q1⟩=>?_)
 obtain⟨h1,h2⟩:=xX I1 r1 ty
 refine⟨T,id,pa,slot,hty,h1,h2,?_⟩
 have hA:=ha cpos pins s1 σ H1 _ I1 q1
 rw [hs] at hA ⊢
 refine Calls.callWith_builtin (by show (false || (backTo cpos (starEach es X.env)).any (·.1))=false;rw [hplain]<;>rfl) (Calls.evalArgs_plain ?_)
 exact bj hA fun us s2 ⟨vs,H2,I2,r2,q2⟩=>hm pins s2 σ H2 x vs v us Q I2 r1 r2 q2
/- xs.append(e),list.index on a module's tuple .. are An facts of 06m -/
end
end L2
namespace L2
open PySem PySem.Spec PyProof.Rows
def CZ (X:Cx) (id:String) (r:V→List V→Hp→VK→Prop):Prop :=
 ∀(pins:List (Addr × Obj)) (s:Shared) (σ:St) (H:Hp) (x:V) (xs:List V) (v:Value) (us:List Value) (Q:VK),Inv X pins σ H s→RelV x v→Vals xs us→r x xs H Q →
  wpAny (model X.prog X.w) X.A (call (.builtin id) (v::us)) (EP X pins σ Q) X.xe s
theorem Vals.one:∀{x:V} {us:List Value},Vals [x] us→∃ u,us=[u]∧RelV x u
 | _,_,.cons r .nil=>⟨_,rfl,r⟩
theorem Vals.zero:∀{us:List Value},Vals [] us→us=[]
 | _,.nil=>rfl
theorem Vals.dropLast {xs:List V} {us:List Value} (h:Vals xs us):Vals xs.dropLast us.dropLast:=by
 induction h with
 | nil=>exact .nil
 | cons r t ih =>
  cases t with
  | nil=>exact .nil
  | cons q t'=>exact .cons r ih
theorem qC {α:Type} (l:List α):l.eraseIdx (l.length-1)=l.dropLast:=by
 induction l with
 | nil=>rfl
 | cons a r ih =>
  cases r with
  | nil=>rfl
  | cons b r =>
   have e:(a::b::r).length-1=((b::r).length-1)+1:=by
    have h1:(a::b::r).length=r.length+2:=rfl
    have h2:(b::r).length=r.length+1:=rfl
    omega
   rw [e,List.eraseIdx_cons_succ,ih]
   all_goals rfl
section
variable {X:Cx} {pins:List (Addr × Obj)} {σ:St} {H:Hp} {s:Shared} {l b:Addr} {xs ys zs:List V}
theorem Inv.AS {its its':List Value} {n:Nat} {f:Array Value→Array Value} {t':Nat} (I:Inv X pins σ H s) (hH:H l=some (.lst xs))
  (e:s.heap.get? l=some { cls:=.type "list",data:=.seq its.toArray n }) (hf:f its.toArray=its'.toArray) (hv:Vals ys its') (hz:ys.length≤sizeLine) :
  Inv X pins σ (upd H l (.lst ys)) { s with heap:=s.heap.update l (Obj.mapSeq f),toks:=t' }:=by
 have q:=PySem.IsL.update e f
 rw [hf] at q
 refine I.write (x:=l) (e:=l) (by rw [hH];exact trivial) (.inl rfl) (fun b' u hb hu=>(Heap.get?_update_other s.heap (Obj.mapSeq f) (Ne.symm hb)).trans hu) ⟨_,q⟩ ?_
 exact⟨hz,its',_,hv,q⟩
theorem Inv.Dt {its:List Value} {t':Nat} (I:Inv X pins σ H s) (hv:Vals ys its) (hz:ys.length≤sizeLine) :
  Inv X pins σ (upd H s.heap.objs.size (.lst ys)) { s with heap:=s.heap.push { cls:=.type "list",data:=.seq its.toArray },toks:=t' } :=
 I.laid (fun _ _ q=>Heap.get?_push_of_some _ q) (Nat.le_refl _) ⟨hz,its,0,hv,Heap.get?_push_size _ rfl⟩
theorem Inv.fresh (I:Inv X pins σ H s):H s.heap.objs.size=none:=I.hok.fresh (Nat.le_refl _)
theorem Inv.qJ (I:Inv X pins σ H s) (hH:H l=some (.lst xs)):xs.length≤sizeLine∧∃(its:List Value) (n:Nat),Vals xs its∧xs.length=its.length∧s.heap.get? l=some { cls:=.type "list",data:=.seq its.toArray n }:=by
 obtain⟨z,its,n,r,e⟩:=I.hok l _ hH
 exact⟨z,its,n,r,r.length,e⟩
theorem vU {n:Nat} (h:n≤sizeLine):Builtin.List.listTooLong n=false:=by
 unfold Builtin.List.listTooLong
 exact decide_eq_false (by omega)
end
section
variable {X:Cx}
def zm:V→List V→Hp→VK→Prop:=fun x vs H Q=>∃ l xs y,x=.ref l∧vs=[y]∧H l=some (.lst xs)∧xs.length<sizeLine∧Q .non (upd H l (.lst (xs++[y])))
theorem eK:CZ X "list.append" zm:=by
 intro pins s σ H x vs v us Q I rx rv h
 obtain⟨l,xs,y,rfl,rfl,hH,hz,q⟩:=h
 cases rx
 obtain⟨u,rfl,ru⟩:=rv.one
 obtain⟨z,its,n,r,hl,e⟩:=I.qJ hH
 refine call_meets F.slot_list_append ⟨_,e,rfl⟩ F.entry_list_append (F.args_list_append_2 _ _) (PySem.list_append l its.toArray n u (by rw [List.size_toArray];omega)) ⟨e,?_⟩
 refine⟨.non,_,I.AS (its':=its++[u]) hH e (by simp) (r.append (.cons ru .nil)) ?_,rfl,q⟩
 rw [List.length_append,List.length_singleton]
 omega
def zo:V→List V→Hp→VK→Prop:=fun x vs H Q=>∃ l b xs zs,x=.ref l∧vs=[.ref b]∧H l=some (.lst xs)∧H b=some (.lst zs)∧xs.length+zs.length≤sizeLine∧Q .non (upd H l (.lst (xs++zs)))
theorem ub:CZ X "list.extend" zo:=by
 intro pins s σ H x vs v us Q I rx rv h
 obtain⟨l,b,xs,zs,rfl,rfl,hH,hB,hz,q⟩:=h
 cases rx
 obtain⟨u,rfl,ru⟩:=rv.one
 cases ru
 obtain⟨z,its,n,r,hl,e⟩:=I.qJ hH
 obtain⟨z2,its2,n2,r2,hl2,e2⟩:=I.qJ hB
 have hsz:its.toArray.size+its2.toArray.size≤sizeLine:=by rw [List.size_toArray,List.size_toArray];omega
 have hlong:¬(!its.toArray.isEmpty && Builtin.List.listTooLong (its.toArray.size+its2.toArray.size))=true:=by
  rw [vU hsz,Bool.and_false]
  exact Bool.false_ne_true
 refine call_meets F.slot_list_extend ⟨_,e,rfl⟩ F.entry_list_extend (F.args_list_extend_2 _ _)
  (AutoSeq1.list_extend_list_list_0 l its.toArray n b its2.toArray n2 hlong (by rw [List.size_toArray];omega) (by omega)) ⟨e,e2,?_⟩
 refine⟨.non,_,I.AS (its':=its++its2) hH e (by simp) (r.append r2) ?_,rfl,q⟩
 rw [List.length_append]
 omega
def DD:V→List V→Hp→VK→Prop:=fun x vs H Q=>∃ l xs y,x=.ref l∧vs=[]∧H l=some (.lst xs)∧xs[xs.length-1]?=some y∧Q y (upd H l (.lst xs.dropLast))
theorem AW:CZ X "list.pop" DD:=by
 intro pins s σ H x vs v us Q I rx rv h
 obtain⟨l,xs,y,rfl,rfl,hH,hy,q⟩:=h
 cases rx
 have hus:=rv.zero
 subst hus
 obtain⟨z,its,n,r,hl,e⟩:=I.qJ hH
 obtain⟨u,hu,ru⟩:=r.get hy
 have hy':its.toArray[its.toArray.size-1]?=some u:=by
  show its.toArray[its.length-1]?=some u
  rw [← Array.getElem?_toList,← hl]
  exact hu
 refine call_meets F.slot_list_pop ⟨_,e,rfl⟩ F.entry_list_pop (F.args_list_pop_1 _) (MeetsSeq.list_pop_last l its.toArray n u hy' (by rw [List.size_toArray];omega)) ⟨e,?_⟩
 refine⟨y,_,I.AS (its':=its.dropLast) hH e ?_ r.dropLast ?_,ru,q⟩
 ·show its.toArray.eraseIdxIfInBounds (its.toArray.size-1)=its.dropLast.toArray
  rw [List.size_toArray,List.eraseIdxIfInBounds_toArray,qC]
 ·rw [List.length_dropLast]
  omega
def Dz:R2:=fun x y H Q=>∃ l b xs zs,x=.ref l∧y=.ref b∧H l=some (.lst xs)∧H b=some (.lst zs)∧xs.length+zs.length≤sizeLine∧∀ p,H p=none→Q (.ref p) (upd H p (.lst (xs++zs)))
theorem A9:fG X (binaryOp .Add) Dz:=by
 intro pins s σ H x y v u Q I rx ry h
 obtain⟨l,b,xs,zs,rfl,rfl,hH,hB,hz,q⟩:=h
 cases rx
 cases ry
 obtain⟨z,its,n,r,hl,e⟩:=I.qJ hH
 obtain⟨z2,its2,n2,r2,hl2,e2⟩:=I.qJ hB
 refine PySem.P.add_list e e2 ?_ (by rw [List.size_toArray,List.size_toArray];omega)
 have ea:its.toArray++its2.toArray=(its++its2).toArray:=by simp
 rw [ea]
 exact⟨.ref _,_,I.Dt (t':=s.toks) (r.append r2) (by rw [List.length_append];omega),rfl,q _ I.fresh⟩
end
section
variable {prog:Program} {w:World} {A:Around} {E:Value→Shared→Prop} {s:Shared}
end
section
variable {X:Cx}
end
end L2
namespace Att
open PySem PySem.W PySem.Calls PyProof.Rows
theorem jv {P:Params} {h:Heap}:∀(ns:List Int) (vs:List Value),WellAll P h vs (ns.map WData.int)→IntsAre vs ns:=by
 intro ns
 induction ns with
 | nil =>
  intro vs w
  rw [List.map_nil] at w
  cases w
  exact .nil
 | cons n ns ih =>
  intro vs w
  rw [List.map_cons] at w
  cases w with
  | cons a b =>
   cases a
   exact .cons _ _ (ih _ b)
theorem uD {l:OpenLaw} {n:Nat} (hn:l.most=some n) {P:Params} {h:Heap} {args:List WData} {vals:List Value}
  (hpre:l.row.toRowW.claim.pre args=true) (hwl:WellAll P h vals args) :
  ∃ a vs ns,vals=[Value.ref a]∧args=[WData.list (ns.map WData.int)]∧h.get? a=some { cls:=.type "list",data:=.seq vs.toArray }∧IntsAre vs ns∧ns.length≤n:=by
 have hsh:WShape.hasAll [] args [.list .int]=true:=(pre_splitW hpre).1
 have hc:l.pre.holds [] { args:=args }=true:=(pre_splitW hpre).2
 obtain⟨d,r,rfl,h1,h2⟩:=hasAllW_cons hsh
 obtain rfl:=hasAllW_nil h2
 obtain⟨xs,rfl,h3⟩:=hasW_list h1
 obtain⟨ns,rfl⟩:=items_int h3
 have hlen:ns.length≤n:=by
  unfold OpenLaw.pre at hc
  have h4:(WTm.not (.lt (.lit (.int (n:Int))) (.len (.arg 0)))).holds [] { args:=[.list (ns.map .int)] }=true:=by
   have h4:=(holds_andW hc).1
   rw [hn] at h4
   exact h4
  have h5:=condW_of h4 (w_not (w_lt w_lit (w_len_list (w_arg rfl))))
  rw [List.length_map] at h5
  refine Nat.le_of_not_lt fun q=>?_
  have q':(n:Int)<((ns.length:Nat):Int):=by omega
  first
   | (rw [decide_eq_true q'] at h5;exact absurd h5 (by decide))
   | (simp at h5;omega)
 cases hwl with
 | cons w1 w2 =>
  cases w2
  cases w1 with
  | list ho hall=>exact⟨_,_,ns,rfl,rfl,ho,jv ns _ hall,hlen⟩
theorem uy (l:OpenLaw) (args:List WData):l.row.toRowW.claim.post args (.bool true) args=true :=
 postW_of (r:=l.row.toRowW) (X:=(true==true))
  (show WShape.has [] (.bool true) .bool=true by first | rfl | decide | simp [WShape.has,WShape.arms,WShape.armsAll])
  (show (WTm.eq .res (.lit (.bool true))).value [] { args:=args,res:=some (.bool true),after:=args }=some (.bool (true==true)) from w_eq_bool (w_res rfl) w_lit) rfl
theorem nW {l:OpenLaw} {n:Nat} {q:Program} {loose:List Str} {XP:(Str→Option Value)→Heap→Prop} {YP:World→Heap→Prop} {d:DefRec}
  (hn:l.most=some n) (hdf:d.params.defaults=[])
  (call:∀(w:World) (s₀ s₁:Shared) (mg mb:Str→Option Value) (fa:Addr) (o:Obj) (pm cd doc:Value) (a:Addr) (vs:List Value) (ns:List Int),
   Ground q loose [] XP w s₀ mg mb s₁.heap→YP w s₁.heap →
   s₁.heap.get? fa=some o→o.data=.func (docDef d.name d.params d.body d.scope pm cd doc)→s₁.heap.CodeRec cd d.name→mg d.name=some (.ref fa) →
   s₁.heap.get? a=some { cls:=.type "list",data:=.seq vs.toArray }→IntsAre vs ns→ns.length≤n→s₁.gens=#[] →
   codeAny (model l.prog w) callerA (.call (.ref fa) ⟨[.ref a],[]⟩) (fun r s'=>r=.ok (.ret (.bool true))∧OldK s₁.heap s'.heap∧s'.os=s₁.os∧AllBare s'.gens) s₁) :
  WalkO q loose XP YP l.row.toRowW d [] (fun f vs=>PySem.call f vs):=by
 intro w s₀ s₁ mg mb G Y fa o pm cd doc dV kV ho hd hcd hD hmg hg args vals as hpre hlay hrd hwl hlo
 obtain rfl:dV=.none:=Dflts.none hD hdf
 obtain rfl:kV=.none:=Dflts.noKw hD
 obtain⟨a,vs,ns,rfl,rfl,hobj,hints,hlen⟩:=uD hn hpre hwl
 refine enter_call (codeAny_mono (call w s₀ s₁ mg mb fa o pm cd doc a vs ns G Y ho (fd_plain hd) hcd hmg hobj hints hlen hg) fun r s' hq=>?_)
 obtain⟨rfl,h2,h3,h4⟩:=hq
 exact⟨.inl ⟨.bool true,.bool true,[],rfl,fun _=>rfl,.bool true,uy l _,fun _=>⟨List.Pairwise.nil,fun _ hm=>(nomatch hm)⟩⟩,h2,h3,h4⟩
section
variable {prog:Program} {w:World} {A:Around} {E:Value→Shared→Prop} {s:Shared} {K:Frag}
end
end Att
namespace L2
open PySem PySem.Spec PyProof.Rows
theorem ml:∀{vs:List Value} {ns:List Int},IntsAre vs ns→Vals (ns.map V.int) vs
 | _,_,.nil=>.nil
 | _,_,.cons n t h=>.cons ⟨t,rfl⟩ (ml h)
def ya (H:Hp):Prop:=∀ b,H b=none∨∃ o xs,H b=some (.frz o (.lst xs))
theorem vI {P:Program} {w:World} {K:PySem.W.Frag} {mg mb:Str→Option Value} {CX:jN} {k:Nat} {fa a:Addr} {fd:FuncData} {x:Str} {sp:Sp} {s₁:Shared} {vs:List Value} {ns:List Int}
  (KX:K.In s₁.heap) (hns:s₁.heap.Ns mainGlobals mg) (hb:s₁.heap.Ns builtinsNs mb) (hbb:∀ x:Str,x ≠ "__name__"→mb x=bootBuiltins x) (hlim:s₁.heap.NoLimit) (hg:s₁.gens=#[])
  (ha:s₁.heap.get? a=some { cls:=.type "list",data:=.seq vs.toArray }) (hi:IntsAre vs ns) (hl:ns.length≤sizeLine) (hr:bM k callerA)
  (F:∀ base:Heap,K.In base→base.Ns mainGlobals mg→cQ P w K mg base CX k fa fd [x] sp) (hbind:∀(s:Shared) (u:Value),BindsTo s fd ⟨[u],[]⟩ [(x,u)])
  (hsp:∀ H:Hp,ya H→aX K H a (ns.map V.int)→sp [.ref a] H (fun v _=>v=.bl true) fun _ _ _=>False)
  (hCX:∀ H e s',CX [] H s₁ (fun _ _ _=>False) e s'→False) :
  codeAny (model P w) callerA (.call (.ref fa) ⟨[.ref a],[]⟩) (fun r s'=>r=.ok (.ret (.bool true))∧OldK s₁.heap s'.heap∧s'.os=s₁.os∧AllBare s'.gens) s₁:=by
 have rv:=ml hi
 have lenV:=hi.length
 -- from an abstract heap in which nothing but the script may be tracked
 have core:∀ H:Hp,ya H→aX K H a (ns.map V.int)→fF P w H s₁.heap→(∀ b,H b≠none→b=a)→(H a≠none→K.lookup a=none) →
   codeAny (model P w) callerA (.call (.ref fa) ⟨[.ref a],[]⟩) (fun r s'=>r=.ok (.ret (.bool true))∧OldK s₁.heap s'.heap∧s'.os=s₁.os∧AllBare s'.gens) s₁:=by
  intro H hO hS hok hA hK
  have base_of:∀{b:Addr} {o:Obj},s₁.heap.get? b=some o→H b=none→(mH s₁.heap H).get? b=some o:=fun e n=>vx e n
  have noA:∀{b:Addr} {o:Obj} {es:Array DictEntry} {ep:Nat},s₁.heap.get? b=some o→o.data=.dict es ep→H b=none:=fun {b o es ep} e d=>by
   cases q:H b with
   | none=>rfl
   | some u =>
    have e':b=a:=hA b (by rw [q];simp)
    subst e'
    rw [ha] at e;cases e
    have d':Data.seq vs.toArray _=Data.dict es ep:=d
    cases d'
  have nsK:∀{b:Addr} {m:Str→Option Value},s₁.heap.Ns b m→(mH s₁.heap H).Ns b m:=fun {b m} ⟨o,es,ep,e,d,r⟩=>⟨o,es,ep,base_of e (noA e d),d,r⟩
  have hKb:K.In (mH s₁.heap H):=fun b o e=>base_of (KX b o e) (by
   cases q:H b with
   | none=>rfl
   | some u =>
    have e':b=a:=hA b (by rw [q];simp)
    subst e'
    rw [hK (by rw [q];simp)] at e;cases e)
  have hM:Mod K mg (mH s₁.heap H):=⟨hKb,nsK hns,⟨mb,nsK hb,hbb⟩,let ⟨mc,h1,h2⟩:=hlim;⟨mc,nsK h1,h2⟩⟩
  have e0:kY P w K mg (mH s₁.heap H) callerA [] s₁ H:=⟨rfl,hM,fun b o e=>yE e,Nat.le_of_eq (tR _ _),trivial,fun b hb=>absurd (show b∈([]:List Addr) from hb) (by simp),hok,.of_eq hg⟩
  refine codeAny_mono ((F _ hKb (nsK hns)).run callerA [] s₁ H ⟨[.ref a],[]⟩ [.ref a] [.ref a] _ _ hr e0 (hbind s₁ (.ref a)) (.cons rfl .nil) (hsp H hO hS)) fun r s' h=>?_
  cases r with
  | error e=>exact (hCX H e s' h).elim
  | ok fl =>
   cases fl with
   | next=>exact False.elim h
   | brk=>exact False.elim h
   | cont=>exact False.elim h
   | ret u =>
    obtain⟨v,H',os,bare,un,hok',r',q⟩:=h
    have q':v=.bl true:=q
    subst q'
    obtain rfl:u=Value.bool true:=r'
    refine⟨rfl,OldK.of_keep fun b o e=>?_,os,bare⟩
    cases q:H b with
    | none=>exact un.keep b o e q (by intro z;exact absurd (show b∈([]:List Addr) from z) (by simp)) (by simp)
    | some u =>
     rcases hO b with z | ⟨ob,xs,z⟩
     ·rw [q] at z;cases z
     ·have z2:=un.frzs b ob _ z
      obtain⟨e1,_⟩:=hok b _ z
      obtain⟨e2,_⟩:=hok' b _ z2
      rw [e] at e1;cases e1
      exact e2
 cases hk:K.lookup a with
 | some o =>
  -- the script is one of the module's own objects
  have e:=KX a o hk
  rw [ha] at e
  cases e
  refine core (fun _=>none) (fun _=>.inl rfl) (.inr ⟨_,vs.toArray,_,hk,rfl,rfl,rfl,by rw [List.size_toArray,lenV];exact hl,by simpa using rv⟩) (fun b u z=>by have z':(none:Option HO)=some u:=z;cases z') (fun b z=>absurd rfl z) fun z=>absurd rfl z
 | none =>
  refine core (fun b=>if b=a then some (.frz { cls:=.type "list",data:=.seq vs.toArray } (.lst (ns.map V.int))) else none) (fun b=>?_) (.inl (.inr ⟨{ cls:=.type "list",data:=.seq vs.toArray },if_pos rfl⟩)) (fun b u z=>?_) (fun b z=>?_) fun _=>hk
  ·by_cases hb:b=a
   ·exact .inr ⟨_,_,if_pos hb⟩
   ·exact .inl (if_neg hb)
  ·by_cases hb:b=a
   ·have z':=(if_pos hb).symm.trans z
    cases z'
    subst hb
    exact⟨ha,by rw [List.length_map];exact hl,vs,_,rv,ha⟩
   ·have z':=(if_neg hb).symm.trans z
    cases z'
  ·by_cases hb:b=a
   ·exact hb
   ·exact absurd (if_neg hb) z
end L2
namespace L2
open PySem PySem.Spec PyProof.Rows
abbrev aZ {K:PySem.W.Frag} {h:Heap} (_:K.In h):PySem.W.Frag:=K
theorem tj {l:PySem.W.OpenLaw} {n k:Nat} {q:Program} {loose:List Str} {XP:(Str→Option Value)→Heap→Prop} {YP:World→Heap→Prop} {d:DefRec} {K:Params→PySem.W.Frag} {CX:World→jN} {sp:World→Sp} {x:Str}
  (hn:l.most=some n) (hn2:n≤sizeLine) (hdf:d.params.defaults=[]) (hr:bM k callerA)
  (hY:∀(w:World) (h:Heap),YP w h→(K w.params).In h)
  (F:∀(w:World) (mg:Str→Option Value) (fa:Addr) (h:Heap),(K w.params).In h→h.Ns mainGlobals mg→mg d.name=some (.ref fa) →
   ∃ fd:FuncData,(∀(s:Shared) (u:Value),BindsTo s fd ⟨[u],[]⟩ [(x,u)]) ∧
    ∀ base:Heap,(K w.params).In base→base.Ns mainGlobals mg→cQ l.prog w (K w.params) mg base (CX w) k fa fd [x] (sp w))
  (hsp:∀(w:World) (H:Hp) (a:Addr) (ns:List Int),ns.length≤n→ya H→aX (K w.params) H a (ns.map V.int)→sp w [.ref a] H (fun v _=>v=.bl true) fun _ _ _=>False)
  (hCX:∀(w:World) (H:Hp) (s:Shared) (e:Value) (s':Shared),CX w [] H s (fun _ _ _=>False) e s'→False) :
  PySem.W.WalkO q loose XP YP l.row.toRowW d [] (fun f vs=>PySem.call f vs):=by
 refine Att.nW hn hdf fun w s₀ s₁ mg mb fa o pm cd doc a vs ns G Y ho hd hcd hmg hobj hints hlen hg=>?_
 have KX:=hY w _ Y
 obtain⟨fd,hb,hF⟩:=F w mg fa _ KX G.T.g hmg
 exact vI KX G.T.g G.T.b G.T.builtins G.T.nolimit hg hobj hints (Nat.le_trans hlen hn2) hr hF hb (fun H hO hS=>hsp w H a ns hlen hO hS) fun H e s'=>hCX w H s₁ e s'
theorem xY {l:PySem.W.OpenLaw} {n k:Nat} {q:Program} {loose:List Str} {XP:(Str→Option Value)→Heap→Prop} {YP:World→Heap→Prop} {d:DefRec} {K:Params→PySem.W.Frag} {CX:jN} {sp:PySem.W.Frag→Sp} {x:Str}
  (hn:l.most=some n) (hn2:n≤sizeLine) (hdf:d.params.defaults=[]) (hr:bM k callerA)
  (hY:∀(w:World) (h:Heap),YP w h→(K w.params).In h)
  (F:∀(w:World) (mg:Str→Option Value) (fa:Addr) (h:Heap),(K w.params).In h→h.Ns mainGlobals mg→mg d.name=some (.ref fa) →
   ∃ fd:FuncData,(∀(s:Shared) (u:Value),BindsTo s fd ⟨[u],[]⟩ [(x,u)]) ∧
    ∀ base:Heap,(K w.params).In base→base.Ns mainGlobals mg→cQ l.prog w (K w.params) mg base CX k fa fd [x] (sp (K w.params)))
  (hsp:∀(K:PySem.W.Frag) (H:Hp) (a:Addr) (ns:List Int),ns.length≤n→ya H→aX K H a (ns.map V.int)→sp K [.ref a] H (fun v _=>v=.bl true) fun _ _ _=>False)
  (hCX:∀(H:Hp) (s:Shared) (e:Value) (s':Shared),CX [] H s (fun _ _ _=>False) e s'→False) :
  PySem.W.WalkO q loose XP YP l.row.toRowW d [] (fun f vs=>PySem.call f vs) :=
 tj (K:=K) (CX:=fun _=>CX) (sp:=fun w=>sp (K w.params)) hn hn2 hdf hr hY F (fun w H a ns h1 h2 h3=>hsp (K w.params) H a ns h1 h2 h3) fun _ H s e s'=>hCX H s e s'
end L2
/- THE LAST THEOREM (shape;LID,My.* are yours):
   My.Adr: a structure of the addresses that your layer names (classes,functions);My.Txt K t: a structure (Prop) of the equations over K;
   My.txt_mk:{K} {implicit addresses ..} (e1:nsIn K mainGlobals "law"=some (some (.ref f))) (e2:K.lookup f=some ⟨oc,od,.func (fnOf "law" "law" params body scope dV kV doc pm an cdv ct),sl⟩) (e3:codeIn K cdv "law"=true) ..:∃ t,My.Txt K t
set_option maxRecDepth 100000 in
set_option maxHeartbeats 0 in
theorem PySem.Challenge.cw_LID_holds : PySem.Challenge.rw_LID.Holds := by
 w_on;o_law;k_head;(case hw=>w_witness2)
 k_fill
 refine L2.tj (l:=PySem.Challenge.rw_LID) (n:=63) (k:=40) (x := "script") (CX:=fun w=>..) (sp:=fun _=>My.sp_law) rfl (by decide) rfl ⟨rfl,by decide,by decide⟩ (fun w h Y=>PySem.W.kIn_of Y) ?F ?S ?C
 case F =>
  intro w mg fa h KX G hmg
  have T:∃ t,My.Txt (L2.aZ KX) t:=by
   dsimp only [L2.aZ]                          -- K must stand as «<heap const> w.params» for k_is
   refine' My.txt_mk ?e1 ?e2 ?e3 ..
   (case e1=>PySem.W.k_is)                    -- in the order: a name -> its address -> its object -> its parts
   (case e2=>PySem.W.k_is)
   ..
  obtain⟨t,T⟩:=T
  have e0:=hmg.symm.trans (PySem.W.mg_of KX G T.law)
  cases e0                                       -- fa is the law's own address
  exact⟨_,fun s u=>.of_eq rfl,fun base kb nb=>My.law_fn T kb nb⟩     -- if «.of_eq rfl» comes too early: refine' ⟨_,?b,fun base kb nb=>My.law_fn T kb nb⟩;exact fun s u=>.of_eq rfl
 case S=>exact fun w H a ns hl hO hS=>..
 case C=>exact ..
(the tactic k_is has no namespace: write k_is) -/
namespace L2
open PySem PySem.Spec PyProof.Rows
def inClass (s:Stmt) (j:Nat):Stmt:=match s with
 | .ClassDef _ _ _ body _ _ _ _ _ _ _=>body.getD j (.Pass ⟨0,0,0,0⟩)
 | _=>.Pass ⟨0,0,0,0⟩
def bz (s:Stmt):Arguments:=match s with
 | .FunctionDef _ a _ _ _ _ _ _ _ _=>a
 | _=>{ posonlyargs:=[],args:=[],vararg:=none,kwonlyargs:=[],kw_defaults:=[],kwarg:=none,defaults:=[] }
def aS (s:Stmt):List Stmt:=match s with
 | .FunctionDef _ _ b _ _ _ _ _ _ _=>b
 | _=>[]
def ak (s:Stmt):Scope:=match s with
 | .FunctionDef _ _ _ _ _ _ sc _ _ _=>sc
 | _=>{ kind:=.function,names:=[],isGenerator:=false,isCoroutine:=false }
abbrev aK:jN:=fun _ _ _ _ _ _=>False
abbrev E0:XK:=fun _ _ _=>False
theorem aF {X:Cx}:Passes aK X E0:=fun _ _ _ _ _ _ _ h=>h.elim
structure uL (K:PySem.W.Frag) (x qual:Str) (st:Stmt) (f:Addr) (fd:FuncData):Prop where
 ex:∃(oc:Value) (od:Option Addr) (kV doc pm:Value) (an:Option Addr) (cdv ct:Value) (osl:Array (Option Value)),
  fd=PySem.W.fnOf x qual (bz st) (aS st) (ak st) .none kV doc pm an cdv ct∧K.lookup f=some ⟨oc,od,.func fd,osl⟩∧PySem.W.codeIn K cdv qual=true
 kp:PySem.W.keepIn K (.ref f)=true
section
variable {P:Program} {w:World} {K:PySem.W.Frag} {mg:Str→Option Value} {base:Heap}
theorem uL.ok {x qual:Str} {st:Stmt} {f:Addr} {fd:FuncData} {N ps:List Str} {k:Nat} {sp:Sp} (F:uL K x qual st f fd) (S:ay N ps (ak st)) (len:∀ vs H Q E,sp vs H Q E→vs.length=ps.length)
  (hbody:∀(cdv:Value) (A:Around) (outer:List Env) (s:Shared) (H:Hp) (vs:List V) (Q:VK) (E:XK),bM k (A.deeper (envOfC qual (ak st) s.heap.objs.size f cdv))→sp vs H Q E →
   ∃ t,iL (fb aK P w K mg base N qual (ak st) f cdv A outer s H E).lR (aS st) t∧t { nx:=fun _ H'=>Q .non H',rt:=Q } (start N vs) H):cQ P w K mg base aK (k+1) f fd ps sp:=by
 obtain⟨oc,od,kV,doc,pm,an,cdv,ct,osl,rfl,lk,hcd⟩:=F.ex
 refine vh lk hcd S len fun A outer s H vs Q E hr hsp=>?_
 obtain⟨t,h,q⟩:=hbody cdv A outer s H vs Q E hr hsp
 exact⟨t,h.lR,q⟩
theorem uL.binds {x qual:Str} {st:Stmt} {f:Addr} {fd:FuncData} {ps:List Str} (F:uL K x qual st f fd)
  (h:∀(kV doc pm:Value) (an:Option Addr) (cdv ct:Value) (us:List Value),us.length=ps.length→bindArgs (PySem.W.fnOf x qual (bz st) (aS st) (ak st) .none kV doc pm an cdv ct) ⟨us,[]⟩=pure (ps.zip us)):Binds K fd ps []:=by
 obtain⟨oc,od,kV,doc,pm,an,cdv,ct,osl,rfl,lk,hcd⟩:=F.ex
 exact .all (h kV doc pm an cdv ct)
theorem qE {x qual:Str} {st:Stmt} {f:Addr} {oc:Value} {od an:Option Addr} {osl:Array (Option Value)} {kV doc pm cdv ct:Value} (l:K.lookup f=some ⟨oc,od,.func (PySem.W.fnOf x qual (bz st) (aS st) (ak st) .none kV doc pm an cdv ct),osl⟩)
  (c:PySem.W.codeIn K cdv qual=true) (k:PySem.W.keepIn K (.ref f)=true):uL K x qual st f (PySem.W.fnOf x qual (bz st) (aS st) (ak st) .none kV doc pm an cdv ct):=⟨⟨oc,od,kV,doc,pm,an,cdv,ct,osl,rfl,l,c⟩,k⟩
end
theorem dD {A:Around} {k:Nat} (hr:bM k A):A.units+1<cLine:=Nat.lt_of_le_of_lt (Nat.add_le_add_left (by decide:1≤64) _) hr.units
theorem l7 {n:Nat} (h:n≤1000):n<sizeLine:=Nat.lt_of_le_of_lt h (by decide)
section
variable {X:Cx}
theorem pv (i:Nat) {x:Str} {pos:Pos} (hN:X.N[i]?=some x:=by rfl) (hv:BU X.env.scope x:=by first | exact Or.inl rfl | exact Or.inr (Or.inl rfl) | exact Or.inr (Or.inr rfl)) (hd:(x==("__debug__":Str))=false:=by decide)
  (hcd:(x==("__classdict__":Str))=false:=by decide):PE X (.Name x pos) (xQ i):=qZ hN hv hd hcd
end
theorem aP {c A B:Prop} [Decidable c] (h1:c→A) (h2:¬c→B):if c then A else B:=by
 by_cases h:c
 ·rw [if_pos h]
  exact h1 h
 ·rw [if_neg h]
  exact h2 h
def aB (H H':Hp):Prop:=∀ b o,H b=some o→H' b=some o
theorem aB.refl (H:Hp):aB H H:=fun _ _ h=>h
theorem aB.trans {H H1 H2:Hp} (a:aB H H1) (b:aB H1 H2):aB H H2:=fun c o h=>b c o (a c o h)
theorem aB.free {H H':Hp} (e:aB H H') {l:Addr} (h:H' l=Option.none):H l=Option.none:=by
 cases q:H l with
 | none=>rfl
 | some o =>
  rw [e l o q] at h
  cases h
end L2
set_option maxHeartbeats 1000000
namespace L2
open PySem PySem.Spec PyProof.Rows
theorem mD {Ex:Value→Shared→Prop} {prog:Program} {w:World} {A:Around} {R:Result→Shared→Prop} {s:Shared} {elt target iter:Expr} {ifs:List Expr} {scope:Scope} {pos:Pos} {it acc:Value} {env:Env} (I:Nat→Shared→Prop)
  (turn:∀ n s,I n s→wpAny (model prog w) A (pyNext it) (fun r s₁=>match r with
   | none=>R (.ok .next) s₁
   | some v=>wpAny (model prog w) A (letOwnedTupleGo target it v) (fun _ s₁'=>wpAny (model prog w) A (assign target env v) (fun _ s₂ =>
     wpAny (model prog w) A (forIn ifs true fun c r=>if r=true then do let ok ← isTrue c env (eval c env);pure (ForInStep.yield ok) else pure (ForInStep.yield r)) (fun ok s₃ =>
      if ok=true then wpAny (model prog w) A (eval elt env) (fun x s₄ =>
       wpAny (model prog w) A (call (.builtin "list.append") [acc,x]) (fun _ s₅=>∃ m,m<n∧I m s₅) Ex s₄) Ex s₃
      else ∃ m,m<n∧I m s₃) Ex s₂) Ex s₁') Ex s₁) Ex s)
  (n:Nat) (h:I n s) (hE:∀ e s',Ex e s'→notedBy (model prog w) A env (fun e s''=>R (.error e) s'') e s') :
  codeAny (model prog w) A (.compLoop (.ListComp elt [⟨target,iter,ifs,0⟩] scope pos) 0 it acc env) R s:=by
 refine codeAny_loop rfl I (fun n s hI=>?_) n h
 show wpAny _ A ((compTurn (.ListComp elt [⟨target,iter,ifs,0⟩] scope pos) 0 it acc env).onRaise (fun x=>do noteFrame x env;theTreesLotGoes x)) _ _ s
 refine wpAny_noted ?_
 rw [compTurn_list]
 refine wpAny_bind (wpAny_standAt (wpAny_bind (wpAny_mono (turn n s hI) (fun r s₁ h₁=>?_) fun _ _ h'=>hE _ _ h')))
 cases r with
 | none=>exact wpAny_pure h₁
 | some v =>
  refine wpAny_bind (wpAny_mono h₁ (fun _ s₁' h₁'=>?_) fun _ _ h'=>hE _ _ h')
  refine wpAny_bind (wpAny_mono h₁' (fun _ s₂ h₂=>wpAny_bind (wpAny_mono h₂ (fun ok s₃ h₃=>?_) fun _ _ h'=>hE _ _ h')) fun _ _ h'=>hE _ _ h')
  cases ok with
  | false=>exact wpAny_pure ⟨rfl,h₃⟩
  | true =>
   exact wpAny_bind (wpAny_bind (wpAny_mono h₃ (fun x s₄ h₄=>wpAny_bind (wpAny_mono h₄ (fun _ s₅ h₅=>wpAny_pure (wpAny_pure ⟨rfl,h₅⟩)) fun _ _ h'=>hE _ _ h')) fun _ _ h'=>hE _ _ h'))
def dO (X:Cx) (Ex:Value→Shared→Prop) (N':List Str) (scope:Scope) (cl:List (Str × Addr)) (C:Addr) (s₂:Shared) (H₂:Hp) (fp:List Addr):Cx :=
 { X with N:=N',s₀:=s₂,H₀:=H₂,env:=compEnvC scope cl C X.env,outer:=X.stack,stack:=X.stack,ex:=fp,fn:=fun _=>false,pn:=[],xe:=Ex }
abbrev gO (X:Cx):=dO X fun _ _=>False
def AllIn (env:Env):List (Str × Addr)→Prop
 | []=>True
 | p::r=>env.cells.lookup p.1=some p.2∧AllIn env r
theorem AllIn.get {env:Env}:∀{l:List (Str × Addr)},AllIn env l→∀ y c,l.lookup y=some c→env.cells.lookup y=some c
 | [],_,_,_,h=>by simp at h
 | (z,d)::r,a,y,c,h=>by
  rw [List.lookup_cons] at h
  cases e:y==z with
  | true =>
   rw [e] at h
   have q:y=z:=by simpa using e
   subst q
   cases h
   exact a.1
  | false =>
   rw [e] at h
   exact AllIn.get a.2 y c h
def dN (js:List (Option Nat)) (σ:St):St:=js.map fun o=>match o with | none=>none | some j=>(σ[j]?).join
structure jO (X:Cx) (N':List Str) (js:List (Option Nat)) (scope:Scope) (cl:List (Str × Addr)):Prop where
 clos:closureFor scope X.env=pure cl
 kind:scope.kind=.function
 nocell:∀ y∈scope.names,y.2≠.cell
 names:∀ y∈scope.names,y.2=.local→scope.names.lookup y.1=some .local
 sub:AllIn X.env cl
 has:∀ y∈scope.names,y.2=.free→(cl.lookup y.1).isSome=true
 jlen:js.length=N'.length
 jok:∀(i j:Nat) x,js[i]?=some (some j)→N'[i]?=some x→X.N[j]?=some x∧(cl.lookup x).isSome=true∧BU X.env.scope x∧X.env.kindOf x≠some .local∧((relabel scope X.env).names.lookup x=some .cell∨(relabel scope X.env).names.lookup x=some .free)
theorem jc {scope:Scope} {env:Env} {x:Str} {k:NameKind} (hn:∀ y∈scope.names,y.2≠.cell) (h:(relabel scope env).names.lookup x=some k) (hk:k=.cell∨k=.free):∃ y∈scope.names,y.1=x∧y.2=.free:=by
 have hm:=PySem.mem_of_lookup h
 obtain⟨⟨n,q⟩,hm',e⟩:=List.mem_map.mp hm
 dsimp only at e
 split at e
 ·rename_i hc
  have e1:n=x:=congrArg Prod.fst e
  refine⟨(n,q),hm',e1,?_⟩
  have:(q==NameKind.free)=true:=by
   simp only [Bool.and_eq_true] at hc
   exact hc.1.1
  simpa using this
 ·have e1:n=x:=congrArg Prod.fst e
  have e2:q=k:=congrArg Prod.snd e
  refine⟨(n,q),hm',e1,?_⟩
  rcases hk with hk | hk
  ·exact absurd (e2.trans hk) (hn _ hm')
  ·exact e2.trans hk
def lobj (ys:List Value):Obj:={ cls:=.type "list",data:=.seq ys.toArray ys.length }
def tu (X:Cx) (ifs:List Expr) (t:TT):Prop :=
 ∀(pins:List (Addr × Obj)) (s:Shared) (σ:St) (H:Hp) (Q:Bool→Hp→Prop),Inv X pins σ H s→t σ H Q →
  wpAny (model X.prog X.w) X.A (forIn ifs true fun c r=>if r=true then do let ok ← isTrue c X.env (eval c X.env);pure (ForInStep.yield ok) else pure (ForInStep.yield r)) (TP X pins σ Q) X.xe s
def xK:TT:=fun _ H Q=>Q true H
theorem bG {X:Cx}:tu X [] xK:=fun pins s σ H Q I h=>wpAny_tests_nil ⟨H,I,h⟩
theorem kB {X:Cx} {c:Expr} {t:TT} (h:PT X c t):tu X [c] t:=fun pins s σ H Q I q=>wpAny_tests_one (h pins s σ H Q I q)
def cw:List (Option V)→List (Option V)→Prop
 | [],[]=>True
 | none::r,_::r'=>cw r r'
 | some v::r,some u::r'=>u=v∧cw r r'
 | _,_=>False
theorem cw.len:∀{a b:List (Option V)},cw a b→a.length=b.length
 | [],[],_=>rfl
 | none::r,_::r',h=>by simp [cw.len (a:=r) (b:=r') h]
 | some v::r,some u::r',h=>by simp [cw.len (a:=r) (b:=r') h.2]
 | some v::r,none::r',h=>h.elim
 | some v::r,[],h=>h.elim
 | none::r,[],h=>h.elim
 | [],_::_,h=>h.elim
theorem cw.get:∀{a b:List (Option V)},cw a b→∀(i:Nat) v,a[i]?=some (some v)→b[i]?=some (some v)
 | [],[],_,i,v,h=>by simp at h
 | none::r,_::r',h,0,v,e=>by simp at e
 | none::r,_::r',h,i+1,v,e=>by
  have:=cw.get (a:=r) (b:=r') h i v (by simpa using e)
  simpa using this
 | some v::r,some u::r',h,0,v',e=>by
  have q:v=v':=by simpa using e
  have:=h.1
  simp [this,q]
 | some v::r,some u::r',h,i+1,v',e=>by
  have:=cw.get (a:=r) (b:=r') h.2 i v' (by simpa using e)
  simpa using this
 | some v::r,none::r',h,_,_,_=>h.elim
 | some v::r,[],h,_,_,_=>h.elim
 | none::r,[],h,_,_,_=>h.elim
 | [],_::_,h,_,_,_=>h.elim
def C4 (js:List (Option Nat)) (wi:TI) (g:TG) (tt:TT) (te:TE):TE:=fun σ H Q=>wi σ H fun J H1=>∃ W:Nat→Nat→List V→Hp→Prop,(∃ m,W 0 m [] H1)∧∀ i m ys H,W i m ys H →
 (J.stop i H∧ys.length≤sizeLine∧∀ p,H p=none→Q (.ref p) (upd H p (.lst ys))) ∨
 (J.go i H∧ys.length<sizeLine∧∃ N:List V→Hp→Prop,(∀ ys' H',N ys' H'→∃ m',m'<m∧W (i+1) m' ys' H') ∧
  ∀ x H',J.yld i H x H'→g x (dN js σ) H' fun σ2 H2=>cw (dN js σ) σ2∧tt σ2 H2 fun b H3=>if b=true then te σ2 H3 fun v H4=>N (ys++[v]) H4 else N ys H3)
structure qu (X:Cx) (C:Addr) (s₂:Shared) (H₂:Hp) (fp:List Addr):Prop where
 inv:∃ pins σ,Inv X pins σ H₂ s₂
 new:∀ b∈fp,X.s₀.heap.objs.size≤b∨b∈X.ex
 nof:∀ b∈gD X.stack,b∉fp
 le:s₂.heap.objs.size≤C
theorem rX {X:Cx} {Ex:Addr→Shared→Hp→List Addr→Value→Shared→Prop} {elt target iter:Expr} {ifs:List Expr} {scope:Scope} {pos:Pos} {N':List Str} {js:List (Option Nat)} {cl:List (Str × Addr)} {g:TG} {tt:TT} {te:TE} (hcalm:X.calm=true)
  (K:jO X N' js scope cl)
  (hg:∀ C s₂ H₂ fp,qu X C s₂ H₂ fp→PG (dO X (Ex C s₂ H₂ fp) N' scope cl C s₂ H₂ fp) target g) (ht:∀ C s₂ H₂ fp,qu X C s₂ H₂ fp→tu (dO X (Ex C s₂ H₂ fp) N' scope cl C s₂ H₂ fp) ifs tt) (he:∀ C s₂ H₂ fp,qu X C s₂ H₂ fp→PE (dO X (Ex C s₂ H₂ fp) N' scope cl C s₂ H₂ fp) elt te)
  (herr:∀ C s₂ H₂ fp use Q' acc e s',Ex C s₂ H₂ fp e s'→notedBy (model X.prog X.w) X.A (compEnvC scope cl C X.env) (fun e s''=>compPost (model X.prog X.w) X.A X.xe use Q' acc C (.error e) s'') e s')
  {pins:List (Addr × Obj)} {σ:St} {Q:VK} {use:Option (Value→Sem Unit)} {Q':Value→Shared→Prop} {itv:Value} {s2:Shared}
  (h2:Dd X pins σ target (fun J H1=>∃ W:Nat→Nat→List V→Hp→Prop,(∃ m,W 0 m [] H1)∧∀ i m ys H,W i m ys H →
 (J.stop i H∧ys.length≤sizeLine∧∀ p,H p=none→Q (.ref p) (upd H p (.lst ys))) ∨
 (J.go i H∧ys.length<sizeLine∧∃ N:List V→Hp→Prop,(∀ ys' H',N ys' H'→∃ m',m'<m∧W (i+1) m' ys' H') ∧
  ∀ x H',J.yld i H x H'→g x (dN js σ) H' fun σ2 H2=>cw (dN js σ) σ2∧tt σ2 H2 fun b H3=>if b=true then te σ2 H3 fun v H4=>N (ys++[v]) H4 else N ys H3)) itv s2)
  (hok:∀ C D vys H4 s5,(∃ m,s5.heap.Ns C m)→s2.heap.objs.size≤D→D≤C→D≠C→H4 D=none→H4 C=none→(∀ h',Heap.SameBut C s5.heap h'→Inv X pins σ (upd H4 D (.lst vys)) { s5 with heap:=h' })→Q (.ref D) (upd H4 D (.lst vys))→compPost (model X.prog X.w) X.A X.xe use Q' (.ref D) C (.ok .next) s5) :
  wpAny (model X.prog X.w) X.A (newList []) (fun acc s₃=>wpAny (model X.prog X.w) X.A (newFunctionEnv scope X.env.globals cl [] X.env.qual none .none (some X.env)) (fun cenv s₄ =>
   codeAny (model X.prog X.w) X.A (.compStart (.ListComp elt [⟨target,iter,ifs,0⟩] scope pos) 0 itv acc { cenv with scope:=relabel scope X.env }) (compPost (model X.prog X.w) X.A X.xe use Q' acc cenv.locals) s₄) X.xe s₃) X.xe s2:=by
 obtain⟨it,fp,tn,J,H2,e,I2,T,st2,f2,W,⟨m0,w0⟩,turn⟩:=h2
 subst e
 refine wpAny_newObj_type (wpAny_newFunctionEnv K.nocell (by intro y hy;simp at hy) (fun h₁ hns₁ hsb₁=>?_) K.kind)
 dsimp only at hns₁ hsb₁ ⊢
 generalize hP2:s2.heap.push { cls:=.type "list",dict:=none,data:=.seq ([]:List Value).toArray }=P2 at hns₁ hsb₁ ⊢
 have hC:P2.objs.size=s2.heap.objs.size+1:=by rw [← hP2,Heap.size_push]
 have hDC:s2.heap.objs.size≠P2.objs.size:=by rw [hC];exact Nat.ne_of_lt (Nat.lt_succ_self _)
 have below:∀ b,b<s2.heap.objs.size→b≠P2.objs.size∧b≠s2.heap.objs.size:=fun b hb=>⟨by rw [hC];exact Nat.ne_of_lt (Nat.lt_succ_of_lt hb),Nat.ne_of_lt hb⟩
 have old:∀ b o,s2.heap.get? b=some o→h₁.get? b=some o:=fun b o e=>hsb₁.extBut b o (below b (Heap.lt_size e)).1 (Heap.get?_push_of_some _ (hP2▸Heap.get?_push_of_some _ e))
 have hacc:h₁.get? s2.heap.objs.size=some (lobj []):=hsb₁.extBut _ _ hDC (Heap.get?_push_of_some _ (hP2▸Heap.get?_push_size _ rfl))
 generalize hCe:P2.objs.size=C at *
 generalize hDe:s2.heap.objs.size=D at *
 let Y:Cx:=dO X (Ex C s2 H2 fp) N' scope cl C s2 H2 fp
 have cellsX:∀ y c,Y.env.cells.lookup y=some c→X.env.cells.lookup y=some c:=K.sub.get
 have cellLt:∀ y c,Y.env.cells.lookup y=some c→c<D:=fun y c e=>by
  obtain⟨v,q⟩:=I2.cell y c (cellsX y c e)
  rw [← hDe]
  exact q.lt
 have freshH:∀ a,D≤a→H2 a=none:=fun a ha=>I2.hok.fresh (by rw [hDe];exact ha)
 have hDleC:D≤C:=by rw [hC];exact Nat.le_succ _
 have lc:qu X C s2 H2 fp:=⟨⟨pins,σ,I2⟩,fun b hb=>((f2 b hb).2.2.2.1).symm,fun b hf hb=>by
   rcases List.mem_cons.mp (I2.gc b hf) with z | z
   ·exact (f2 b hb).2.1 z
   ·exact (f2 b hb).2.2.1 z,by rw [hDe];exact hDleC⟩
 have hbelowfp:∀ b∈fp,b<D:=fun b hb=>by
  obtain⟨o,e,_⟩:=T.obj _ _ st2 b hb
  rw [← hDe]
  exact Heap.lt_size e
 have okY:Y.Ok:=by
  refine⟨I2.ok.mod,K.kind,I2.ok.glob,I2.ok.blt,?_,fun x y c e1 e2=>I2.ok.inj x y c (cellsX x c e1) (cellsX y c e2),fun x hx=>?_,fun x c hf _=>?_,I2.ok.hd,I2.ok.frames,.inl rfl,fun b hb=>?_,I2.bs,Nat.le_trans I2.ok.bsz I2.sz,fun b o e hb=>?_,fun b hb hf=>?_,I2.stack,I2.iE⟩
  ·show s2.heap.objs.size≤C
   rw [hDe];exact hDleC
  ·have hx':(relabel scope X.env).names.lookup x=some .cell∨(relabel scope X.env).names.lookup x=some .free:=hx
   have:∃ y∈scope.names,y.1=x∧y.2=.free:=by
    rcases hx' with q | q
    ·exact jc K.nocell q (.inl rfl)
    ·exact jc K.nocell q (.inr rfl)
   obtain⟨y,hm,e1,e2⟩:=this
   have q:=K.has y hm e2
   rw [e1] at q
   exact Option.isSome_iff_exists.mp q
  ·exact absurd (show false=true from hf) (by decide)
  ·exact⟨Nat.ne_of_lt (Nat.lt_of_lt_of_le (hbelowfp b hb) hDleC),fun x c e=>(f2 b hb).2.2.2.2.1 x c (cellsX x c e)⟩
  ·rcases (f2 b hb).2.2.2.1 with z | z
   ·exact I2.ok.noex b o e z
   ·exact absurd (Nat.lt_of_lt_of_le (Heap.lt_size e) (Nat.le_trans I2.ok.bsz z)) (Nat.lt_irrefl _)
  ·rcases List.mem_cons.mp (I2.gc b hf) with z | z
   ·exact (f2 b hb).2.1 z
   ·exact (f2 b hb).2.2.1 z
 -- the block's names
 have locY:∀{s':Shared} {H':Hp} {σ':St},True:=fun {_ _ _}=>trivial
 have invY0:Inv Y [(D,lobj [])] (dN js σ) H2 { s2 with heap:=h₁,toks:=s2.toks+([]:List (Str × Value)).length }:=by
  refine⟨okY,rfl,I2.bare,Un.kept old,⟨_,hns₁,fun i x v e1 e2 vis=>?_⟩,fun y c e=>?_,freshH C hDleC,fun y c e=>I2.freeC y c (cellsX y c e),fun p hp=>?_,I2.hok.kept old,?_⟩
  ·-- a name of the block that has a value stands outside in a cell
   have e2':(dN js σ)[i]?=some (some v):=e2
   unfold dN at e2'
   rw [List.getElem?_map] at e2'
   cases ej:js[i]? with
   | none=>rw [ej] at e2';cases e2'
   | some o =>
    rw [ej] at e2'
    cases o with
    | none=>cases e2'
    | some j =>
     obtain⟨n1,n2,n3,n4,n5⟩:=K.jok i j x ej e1
     have e3:(σ[j]?).join=some v:=by simpa using e2'
     have e4:σ[j]?=some (some v):=by
      cases q:σ[j]? with
      | none=>rw [q] at e3;cases e3
      | some z=>rw [q] at e3;simpa using e3
     obtain⟨m,hn,hl⟩:=I2.loc
     obtain⟨u,r,l⟩:=hl j x v n1 e4 n3
     refine⟨u,r,.inr ⟨n5,?_⟩⟩
     rcases l with⟨k,_⟩|⟨k,c,ec,z⟩
     ·exact absurd k n4
     ·obtain⟨c',ec'⟩:=Option.isSome_iff_exists.mp n2
      have ee:=cellsX x c' ec'
      rw [ec] at ee
      cases ee
      refine⟨c,ec',?_⟩
      obtain⟨o,ho,hd⟩:=z
      exact⟨o,old c o ho,hd⟩
  ·obtain⟨v,o,ho,hd⟩:=I2.cell y c (cellsX y c e)
   exact⟨v,o,old c o ho,hd⟩
  ·have hp':p∈[(D,lobj [])]:=hp
   have e:p=(D,lobj []):=by simpa using hp'
   subst e
   refine⟨hacc,freshH D (Nat.le_refl _),hDC,fun z=>?_,fun v z=>by cases z⟩
   rcases List.mem_cons.mp (I2.gc D z) with q | q
   ·exact absurd (q▸I2.lt) (by rw [hDe];exact Nat.lt_irrefl _)
   ·exact I2.yC (by rw [hDe];exact Nat.le_refl _) q
  ·show (dN js σ).length=N'.length
   unfold dN
   rw [List.length_map]
   exact K.jlen
 have hDfs:D∉Y.fs:=fun z=>by
  rcases List.mem_cons.mp (I2.gc D z) with q | q
  ·exact absurd (q▸I2.lt) (by rw [hDe];exact Nat.lt_irrefl _)
  ·exact I2.yC (by rw [hDe];exact Nat.le_refl _) q
 have stat:∀{H':Hp} {ys:List Value},(∀ b∈fp,H' b=none)→∀ b∈fp,mr Y [(D,lobj ys)] H' b:=fun {H' ys} hn b hb=>by
  refine⟨hn b hb,Nat.ne_of_lt (Nat.lt_of_lt_of_le (hbelowfp b hb) hDleC),okY.exfs b hb,.inl hb,fun x c e=>(f2 b hb).2.2.2.2.1 x c (cellsX x c e),fun p hp=>?_⟩
  have hp':p∈[(D,lobj ys)]:=hp
  have e:p=(D,lobj ys):=by simpa using hp'
  subst e
  exact Nat.ne_of_gt (hbelowfp b hb)
 have loop:∀ s3:Shared,s3={ s2 with heap:=h₁,toks:=s2.toks+([]:List (Str × Value)).length } →
   codeAny (model X.prog X.w) X.A (.compLoop (.ListComp elt [⟨target,iter,ifs,0⟩] scope pos) 0 (.ref it) (.ref D) (compEnvC scope cl C X.env)) (compPost (model X.prog X.w) X.A X.xe use Q' (.ref D) C) s3:=by
  rintro s3 rfl
  refine mD (fun n s'=>∃ i ys vys H',Inv Y [(D,lobj ys)] (dN js σ) H' s'∧tn i s'.heap∧(∀ b∈fp,H' b=none)∧Vals vys ys∧W i n vys H') ?_ m0
   ⟨0,[],[],H2,invY0,T.keep _ _ _ st2 fun b _ o e=>old b o e,fun b hb=>(f2 b hb).1,.nil,w0⟩ fun e s' z=>herr C s2 H2 fp use Q' (.ref D) e s' z
  rintro n s4 ⟨i,ys,vys,H4,I4,st4,fr4,rv,w4⟩
  rcases turn i n vys H4 w4 with⟨stop,hz,qn⟩|⟨go,hz,Nn,hN,step⟩
  ·refine bj (T.done Y rfl rfl rfl hcalm i _ s4 _ H4 (Ex C s2 H2 fp) I4 (stat fr4) st4 stop) fun r s5 ⟨hr,I5⟩=>?_
   subst hr
   obtain⟨m5,hn5,_⟩:=I5.loc
   obtain⟨pD,nD,_,_,_⟩:=I5.pin (D,lobj ys) (by show _∈[(D,lobj ys)];simp)
   have nC:H4 C=none:=I5.free
   refine hok C D vys H4 s5 ⟨m5,hn5⟩ (Nat.le_refl _) hDleC hDC nD nC (fun h' hsb=>?_) (qn D nD)
   have pD':h'.get? D=some (lobj ys):=hsb.extBut _ _ hDC pD
   refine I2.Cc (s':={ s5 with heap:=h' }) (ch:=fp) I5.os ?_ ?_ I5.bare (fun b hb=>?_)
   ·-- kept
    have u:=I5.base
    have neC:∀ b o,s2.heap.get? b=some o→b≠C∧b≠D:=fun b o e=>by
     have:=Heap.lt_size e
     rw [hDe] at this
     exact⟨Nat.ne_of_lt (Nat.lt_of_lt_of_le this hDleC),Nat.ne_of_lt this⟩
    refine⟨fun b o e nn hb hx=>hsb.extBut b o (neC b o e).1 (u.keep b o e nn hb hx),fun b o e nn hb hx=>?_,fun b o e nn hx=>?_,fun b o e hx=>?_,fun b xs e=>?_,fun b o xs e=>?_,fun b ps e=>?_⟩
    ·obtain⟨sl,q⟩:=u.slot b o e nn hb hx
     exact⟨sl,hsb.extBut b _ (neC b o e).1 q⟩
    ·rw [aq (neC b o e).2]
     exact u.free b o e nn hx
    ·obtain⟨o',q⟩:=u.there b o e hx
     exact⟨o',hsb.extBut b _ (neC b o e).1 q⟩
    ·rw [aq (bf (u.tups b xs e) nD)]
     exact u.tups b xs e
    ·rw [aq (bf (u.frzs b o xs e) nD)]
     exact u.frzs b o xs e
    ·obtain⟨more,q⟩:=u.tbls b ps e
     exact⟨more,by rw [aq (bf q nD)];exact q⟩
   ·intro b o e
    by_cases hb:b=D
    ·subst hb
     rw [ag] at e
     cases e
     exact⟨hz,ys,_,rv,pD'⟩
    ·rw [aq hb] at e
     refine (I5.hok b o e).gE (fun c w' hc q=>hsb.extBut c w' ?_ q) (fun c q=>by rw [aq (bf q nD)];exact q) fun c xs q=>by rw [aq (bf q nD)];exact q
     rintro rfl
     rcases hc with rfl | hc
     ·rw [nC] at e;cases e
     ·rw [nC] at hc;cases hc
   ·exact⟨(f2 b hb).2.2.2.1,(f2 b hb).2.1,(f2 b hb).2.2.2.2.1,(f2 b hb).2.2.2.2.2⟩
  ·refine bj (T.item Y rfl rfl rfl hcalm i _ s4 _ H4 (Ex C s2 H2 fp) I4 (stat fr4) st4 go) fun r s5 ⟨u,hr,h5⟩=>?_
   subst hr
   refine bj h5 fun _ s6 ⟨x,H6,I6,r6,y6,st6,fr6⟩=>?_
   have I6':=I6.pinned (stat fr6) (T.obj _ _ st6)
   refine bj (hg C s2 H2 fp lc _ s6 _ H6 x u _ I6' r6 (step x H6 y6)) fun _ s7 ⟨σ7,H7,I7,k7,q7⟩=>?_
   refine bj (ht C s2 H2 fp lc _ s7 σ7 H7 _ I7 q7) fun b s8 ⟨H8,I8,q8⟩=>?_
   -- behind the tests and the element: the state goes back to what the next turn wants
   have again:∀{s9:Shared} {H9:Hp},Inv Y ([(D,lobj ys)]++kC fp s6.heap) σ7 H9 s9→Inv Y [(D,lobj ys)] (dN js σ) H9 s9∧tn (i+1) s9.heap∧∀ b∈fp,H9 b=none:=fun {s9 H9} I9=>by
    refine⟨(I9.iJ).weak k7.len k7.get,T.keep _ _ _ st6 fun b hb o e=>(I9.pin (b,o) (List.mem_append_right _ (List.mem_append_right _ (fg hb e)))).1,fun b hb=>?_⟩
    obtain⟨o,e,d⟩:=T.obj _ _ st6 b hb
    exact (I9.pin (b,o) (List.mem_append_right _ (List.mem_append_right _ (fg hb e)))).2.1
   cases b with
   | false =>
    rw [if_neg Bool.false_ne_true] at q8 ⊢
    obtain⟨m',hm,w8⟩:=hN _ _ q8
    obtain⟨J8,t8,f8⟩:=again I8
    exact⟨m',hm,i+1,ys,vys,H8,J8,t8,f8,rv,w8⟩
   | true =>
    rw [if_pos rfl] at q8 ⊢
    refine bj (he C s2 H2 fp lc _ s8 σ7 H8 _ I8 q8) fun y s9 ⟨vy,H9,I9,r9,q9⟩=>?_
    obtain⟨J9,t9,f9⟩:=again I9
    obtain⟨pD,nD,neD,nfD,_⟩:=J9.pin (D,lobj ys) (by show _∈[(D,lobj ys)];simp)
    have zl:ys.length<sizeLine:=by rw [← rv.length];exact hz
    refine append_at (hsz:=by show ys.toArray.size≤sizeLine;rw [List.size_toArray];exact Nat.le_of_lt zl) (show s9.heap.get? D=some { cls:=.type "list",data:=.seq ys.toArray ys.length } from pD) fun h' hsb hD'=>?_
    obtain⟨m',hm,w9⟩:=hN _ _ q9
    have eD:h'.get? D=some (lobj (ys++[y])):=by
     rw [hD']
     unfold lobj
     rw [List.length_append,List.length_singleton,List.push_toArray]
    have J10:Inv Y [] (dN js σ) H9 s9:=J9.gq fun p hp=>absurd hp (by simp)
    have J11:Inv Y [] (dN js σ) H9 { s9 with heap:=h' }:=J10.turned (t':=s9.toks) (it:=D) (fun b o hb e=>hsb.extBut b o hb e) nD neD (.inr (by show s2.heap.objs.size≤D;rw [hDe];exact Nat.le_refl _))
     (fun x c e=>Nat.ne_of_lt (cellLt x c e)) fun p hp=>absurd (show p∈([]:List (Addr × Obj)) from hp) (by simp)
    have J12:Inv Y [(D,lobj (ys++[y]))] (dN js σ) H9 { s9 with heap:=h' }:=J11.gq fun p hp=>by
     have e:p=(D,lobj (ys++[y])):=by simpa using hp
     subst e
     exact⟨eD,nD,neD,nfD,fun v z=>by cases z⟩
    have hDf:D∉fp:=fun z=>Nat.lt_irrefl _ (hbelowfp D z)
    exact⟨m',hm,i+1,ys++[y],vys++[vy],H9,J12,T.keep _ _ _ t9 fun b hb o e=>hsb.extBut b o (fun z=>hDf (z▸hb)) e,f9,rv.append (.cons r9 .nil),w9⟩
 exact codeAny_compStart_list (loop _ rfl) (T.self _ 0 _ _ _ (T.keep _ _ _ st2 fun b _ o e=>old b o e) (loop _ rfl))
theorem dW {X:Cx} {elt target iter:Expr} {ifs:List Expr} {scope:Scope} {pos:Pos} {N':List Str} {js:List (Option Nat)} {cl:List (Str × Addr)} {wi:TI} {g:TG} {tt:TT} {te:TE} (hcalm:X.calm=true)
  (K:jO X N' js scope cl) (hi:PI X target iter wi)
  (hg:∀ C s₂ H₂ fp,PG (gO X N' scope cl C s₂ H₂ fp) target g) (ht:∀ C s₂ H₂ fp,tu (gO X N' scope cl C s₂ H₂ fp) ifs tt) (he:∀ C s₂ H₂ fp,PE (gO X N' scope cl C s₂ H₂ fp) elt te)
  (hs:∀ x,foldedSetIterable iter X.env x=pure x:=by intro _;rfl):PE X (.ListComp elt [⟨target,iter,ifs,0⟩] scope pos) (C4 js wi g tt te):=by
 intro pins s σ H Q I h
 rw [eval_ListComp]
 refine wpAny_comprehension_free (use:=none) rfl hs K.clos K.kind K.names (bj (hi pins s σ H _ I h) fun v s1 h1=>bj h1 fun itv s2 h2=>?_)
 exact rX (Ex:=fun _ _ _ _ _ _=>False) hcalm K (fun C s H f _=>hg C s H f) (fun C s H f _=>ht C s H f) (fun C s H f _=>he C s H f) (fun _ _ _ _ _ _ _ _ _ z=>z.elim) h2 fun C D vys H4 s5 ⟨m,hn⟩ _ _ _ _ _ hI q=>⟨m,hn,fun h' hsb=>⟨.ref D,_,hI h' hsb,rfl,q⟩⟩
end L2
namespace L2
open PySem PySem.Spec PyProof.Rows
def Bd (i:Int):Prop:=i.natAbs<2^4000
theorem uS:(10:Nat)^250≤2^4000:=by decide +kernel
theorem Bd.of {i:Int} (h1:-(10^250)<i) (h2:i<10^250):Bd i:=by
 refine Nat.lt_of_lt_of_le ?_ uS
 have:((10:Nat)^250:Nat)=((10:Int)^250).toNat:=by decide +kernel
 rw [this]
 omega
theorem Bd.bits {i:Int} (h:Bd i):Builtin.Int.intBits i≤2^20 :=
 Nat.le_trans (intBits_le h) (by decide)
theorem Bd.DQ {i j:Int} (h:Bd j):Builtin.divisionGoesByPylong i j=false:=by
 refine PyProof.noPylong_of_log2 ?_
 by_cases z:j.natAbs=0
 ·rw [z];decide
 ·exact Nat.lt_of_lt_of_le ((Nat.log2_lt z).mpr h) (by decide)
section
variable {X:Cx}
theorem aO:fG X (binaryOp .Mult) (rI (fun i j=>Bd i∧Bd j) fun i j=>.int (i*j)):=Cy fun _ _ _ _ _ _ _ hc q=>mul_int q (IntMulOk.of_bits hc.1.bits hc.2.bits)
theorem bA:fG X (binaryOp .FloorDiv) (rI (fun _ j=>0<j∧Bd j) fun i j=>.int (i/j)):=Cy fun i j _ _ _ _ _ hc q=>by
 have h1:(0:Int)<j:=hc.1
 exact floordiv_int (by omega) (by rw [Int.fdiv_eq_ediv_of_nonneg i (by omega)];exact q) (.inl hc.2.DQ)
theorem eG:fG X (inplaceOp .FloorDiv) (rI (fun _ j=>0<j∧Bd j) fun i j=>.int (i/j)):=Cy fun i j _ _ _ _ _ hc q=>by
 have h1:(0:Int)<j:=hc.1
 exact ifloordiv_int (by omega) (by rw [Int.fdiv_eq_ediv_of_nonneg i (by omega)];exact q) (.inl hc.2.DQ)
theorem oP:fG X (inplaceOp .Mult) (rI (fun i j=>Bd i∧Bd j) fun i j=>.int (i*j)):=Cy fun _ _ _ _ _ _ _ hc q=>imul_int q (IntMulOk.of_bits hc.1.bits hc.2.bits)
theorem dF {op:Operator} {r:R2} (ho:fG X (inplaceOp op) r):DN X op r:=fun pins s σ H x y v u Q I r1 r2 h=>ho pins s σ H x y v u Q I r1 r2 h
def xN (i j k:Nat) (ta:TA):TS:=fun D σ H=>ta σ H fun vs H1=>∃ v w u,vs=[v,w,u]∧D.nx (((σ.set i (some v)).set j (some w)).set k (some u)) H1
theorem su {i j k:Nat} {x y z:Str} {a b c:Expr} {ta:TA} {px py pz pt pos:Pos} {kt k2 pt2} (hc:X.calm=true) (hN:X.N.Nodup) (hi:X.N[i]?=some x) (hj:X.N[j]?=some y) (hk:X.N[k]?=some z) (hij:i≠j) (hik:i≠k) (hjk:j≠k)
  (hx:X.env.scope.names.lookup x=some .local) (hy:X.env.scope.names.lookup y=some .local) (hz:X.env.scope.names.lookup z=some .local) (ha:PA X [a,b,c] ta)
  (hw:swappedStores [.Tuple [.Name x px,.Name y py,.Name z pz] kt pt] (.Tuple [a,b,c] k2 pt2) X.env=pure (some [x,y,z]))
  (hs:swapsWithSole [.Tuple [.Name x px,.Name y py,.Name z pz] kt pt] (.Tuple [a,b,c] k2 pt2) pos.line X.env=pure false:=by rfl) :
  PS X (.Assign [.Tuple [.Name x px,.Name y py,.Name z pz] kt pt] (.Tuple [a,b,c] k2 pt2) pos) (xN i j k ta):=by
 intro pins s σ H D I h
 rw [exec_Assign_arm]
 refine wpAny_bind (wpAny_standAt ?_)
 rw [hs]
 refine wpAny_bind (wpAny_pure ?_)
 rw [if_neg (by decide)]
 refine wpAny_bind (Tuple_ (bj (ha _ pins s σ H _ I h) fun us s1 ⟨vs,H1,I1,r1,q1⟩=>?_))
 obtain⟨v,w,u,e1,q1⟩:=q1
 subst e1
 obtain⟨u1,u2,u3,rfl,rv,rw',ru⟩:∃ u1 u2 u3,us=[u1,u2,u3]∧RelV v u1∧RelV w u2∧RelV u u3:=by
  cases r1 with
  | cons p q =>
   cases q with
   | cons p' q' =>
    cases q' with
    | cons p'' q'' =>
     cases q''
     exact⟨_,_,_,rfl,p,p',p''⟩
 refine wpAny_newObj_type ?_ (by show 3≤sizeLine;decide)
 have I2:Inv X pins σ H1 { s1 with heap:=s1.heap.push { cls:=.type "tuple",data:=.seq [u1,u2,u3].toArray } }:=I1.kept (t':=s1.toks) fun b o e=>Heap.get?_push_of_some _ e
 rw [hw]
 refine wpAny_bind (wpAny_pure ?_)
 show wpAny (model X.prog X.w) X.A (do rule "assign.swapped-stores";let items ← unpackItems (.ref s1.heap.objs.size) 3 none;assignInOrder [fun v=>bindName X.env z v,fun v=>bindName X.env y v,fun v=>bindName X.env x v] items.reverse;pure Flow.next) _ _ _
 refine wpAny_bind (wpAny_rule (wpAny_bind (unpackItems_tuple (items:=#[u1,u2,u3]) (I.ok.hd hc) (IsTup.new s1.heap _) fun h' hx'=>?_)))
 have I3:=I2.kept (h':=h') (t':=s1.toks) fun b o e=>hx' b o (Nat.ne_of_lt (Heap.lt_size e)) e
 show wpAny _ _ (assignInOrder [fun v=>bindName X.env z v,fun v=>bindName X.env y v,fun v=>bindName X.env x v] [u3,u2,u1] >>= fun _=>pure Flow.next) _ _ _
 refine wpAny_bind (assignInOrder_cons (wpAny_bindName (cV I3 hN hk (.inl hz) ru (fun s2 I4=>?_) (.inr hz))))
 refine assignInOrder_cons (wpAny_bindName (cV I4 hN hj (.inl hy) rw' (fun s3 I5=>?_) (.inr hy)))
 refine assignInOrder_cons (wpAny_bindName (cV I5 hN hi (.inl hx) rv (fun s4 I6=>assignInOrder_nil (wpAny_pure ?_)) (.inr hx)))
 have e:((σ.set k (some u)).set j (some w)).set i (some v)=((σ.set i (some v)).set j (some w)).set k (some u):=by
  rw [List.set_comm _ _ (Ne.symm hij),List.set_comm _ _ (Ne.symm hik),List.set_comm _ _ (Ne.symm hjk)]
 rw [e] at I6
 exact⟨_,H1,I6,q1⟩
def Cz (K:PySem.W.Frag):List V→Hp→VK→Prop:=fun xs H Q=>∃(a:Addr) (bs:List Bool),xs=[.ref a]∧aX K H a (bs.map V.bl)∧Q (.bl (bs.all id)) H
theorem nZ (hc:X.calm=true):cD X (.builtin "all") (Cz X.K):=by
 intro pins s σ H xs us Q I r h
 obtain⟨a,bs,rfl,hq,q⟩:=h
 obtain⟨u,rfl,ru⟩:=vals1 r
 cases ru
 obtain⟨its,rv,p,hz⟩:=I.list hq
 have hl:=p.isList
 have hlt:a<s.heap.objs.size:=by obtain⟨_,e,_⟩:=hl;exact Heap.lt_size e
 have hb:∀(i:Nat) v,its[i]?=some v→∃ b,bs[i]?=some b∧v=.bool b:=fun i v e=>by
  have hi:i<its.length:=(List.getElem?_eq_some_iff.mp e).1
  have hi2:i<bs.length:=by have:=rv.length;rw [List.length_map] at this;omega
  obtain⟨u,e1,e2⟩:=rv.get (i:=i) (x:=V.bl bs[i]) (by rw [List.getElem?_map,List.getElem?_eq_getElem hi2];rfl)
  rw [e] at e1
  cases e1
  exact⟨bs[i],List.getElem?_eq_getElem hi2,e2⟩
 have hln:its.length=bs.length:=by have:=rv.length;rw [List.length_map] at this;omega
 refine call_all_walk (wpAny_pyIter_list hl ?_)
 refine⟨s.heap.objs.size,[s.heap.objs.size,a],[s.heap.objs.size],its.toArray.size,_,_,fun i=>(bs[i]?).getD true,rfl,Walks.list (A:=X.A.in1) (I.ok.hd hc) _ a (Nat.ne_of_lt hlt) its.toArray,
  ⟨⟨_,Heap.get?_push_size _ rfl,rfl,rfl⟩,hl.push _⟩,fun i v s' Q' E' hP hQ=>?_,fun h' tk hk=>?_⟩
 ·obtain⟨b,e,rfl⟩:=hb i v (by simpa using hP)
  simp only [e,Option.getD_some] at hQ
  exact wpAny_truthy_bool hQ
 ·have e:((List.range its.toArray.size).all fun i=>(bs[i]?).getD true)=bs.all id:=by
   rw [List.size_toArray,hln,Bool.eq_iff_iff]
   simp only [List.all_eq_true,List.mem_range,id]
   constructor
   ·intro z b hb'
    obtain⟨i,hi,rfl⟩:=List.mem_iff_getElem.mp hb'
    have:=z i hi
    rwa [List.getElem?_eq_getElem hi,Option.getD_some] at this
   ·intro z i hi
    rw [List.getElem?_eq_getElem hi,Option.getD_some]
    exact z _ (List.getElem_mem hi)
  rw [e]
  exact⟨.bl _,H,I.kept fun b o eb=>hk b o (fun hm=>by rw [List.mem_singleton.mp hm] at eb;exact Nat.lt_irrefl _ (Heap.lt_size eb)) (Heap.get?_push_of_some _ eb),rfl,q⟩
end
end L2
namespace L2
open PySem PySem.Spec PyProof.Rows
def av (K:PySem.W.Frag) (mg:Str→Option Value) (x:Str) (st:Stmt):Prop:=∃ f fd,uL K x x st f fd∧mg x=some (.ref f)
structure Callee (P:Program) (w:World) (K:PySem.W.Frag) (mg:Str→Option Value) (base:Heap) (CX:jN) (k:Nat) (x:Str) (ps:List Str) (sp:Sp):Prop where
 ex:∃ f fd,cQ P w K mg base CX k f fd ps sp∧mg x=some (.ref f)∧PySem.W.keepIn K (.ref f)=true∧Binds K fd ps []
section
variable {P:Program} {w:World} {K:PySem.W.Frag} {mg:Str→Option Value} {base:Heap} {CX:jN} {k:Nat} {x:Str} {ps:List Str} {sp:Sp}
theorem Callee.imp {sp':Sp} (C:Callee P w K mg base CX k x ps sp) (h:∀ vs H Q E,sp' vs H Q E→sp vs H Q E):Callee P w K mg base CX k x ps sp':=by
 obtain⟨f,fd,F,a,b,c⟩:=C.ex
 exact⟨f,fd,F.imp h,a,b,c⟩
theorem Callee.mono {j:Nat} (C:Callee P w K mg base CX k x ps sp) (h:k≤j):Callee P w K mg base CX j x ps sp:=by
 obtain⟨f,fd,F,a,b,c⟩:=C.ex
 exact⟨f,fd,F.mono h,a,b,c⟩
theorem ai {X:Cx} {E:XK} {e:Expr} {es:List Expr} {t:TA} {p pos:Pos} (C:Callee X.prog X.w X.K X.mg X.base CX k x ps sp) (hr:bM k X.A) (hg:Gl X x) (hx:Passes CX X E)
  (ha:PA X (e::es) t) (hdb:(x==("__debug__":Str))=false:=by decide) (he:starEach (e::es) X.env=(false,eval e X.env)::starEach es X.env:=by rfl) (hpl:(backTo pos (starEach es X.env)).any (·.1)=false:=by rfl) :
  PE X (.Call (.Name x p) (e::es) [] pos) (qd sp [] E t):=by
 obtain⟨f,fd,F,hm,hk,hb⟩:=C.ex
 exact sk F hr hg hm hk hb .nil hx ha hdb he hpl
theorem aw {st:Stmt} {N:List Str} (D:av K mg x st)
  (hb:∀(kV doc pm:Value) (an:Option Addr) (cdv ct:Value) (us:List Value),us.length=ps.length→bindArgs (PySem.W.fnOf x x (bz st) (aS st) (ak st) .none kV doc pm an cdv ct) ⟨us,[]⟩=pure (ps.zip us))
  (S:ay N ps (ak st)) (len:∀ vs H Q E,sp vs H Q E→vs.length=ps.length)
  (hbody:∀(f:Addr) (cdv:Value) (A:Around) (outer:List Env) (s:Shared) (H:Hp) (vs:List V) (Q:VK) (E:XK),bM k (A.deeper (envOfC x (ak st) s.heap.objs.size f cdv))→sp vs H Q E →
   ∃ t,iL (fb aK P w K mg base N x (ak st) f cdv A outer s H E).lR (aS st) t∧t { nx:=fun _ H'=>Q .non H',rt:=Q } (start N vs) H):Callee P w K mg base aK (k+1) x ps sp:=by
 obtain⟨f,fd,F,hm⟩:=D
 exact⟨f,fd,F.ok S len fun cdv A outer s H vs Q E hr h=>hbody f cdv A outer s H vs Q E hr h,hm,F.kp,F.binds hb⟩
theorem az {h:Heap} {f:Addr} {st:Stmt} {oc:Value} {od an:Option Addr} {osl:Array (Option Value)} {kV doc pm cdv ct:Value} (X:K.In h) (G:h.Ns mainGlobals mg)
  (a:PySem.W.nsIn K mainGlobals x=some (some (.ref f))) (l:K.lookup f=some ⟨oc,od,.func (PySem.W.fnOf x x (bz st) (aS st) (ak st) .none kV doc pm an cdv ct),osl⟩)
  (c:PySem.W.codeIn K cdv x=true) (kk:PySem.W.keepIn K (.ref f)=true):av K mg x st:=⟨f,_,qE l c kk,PySem.W.mg_of X G a⟩
end
def jP (cl:List (Str × Addr)):List (Str × NameKind)→Prop
 | []=>True
 | y::r=>(match y.2 with | .free=>(cl.lookup y.1).isSome=true | _=>True)∧jP cl r
theorem jP.get {cl:List (Str × Addr)}:∀{l:List (Str × NameKind)},jP cl l→∀ y∈l,y.2=.free→(cl.lookup y.1).isSome=true
 | [],_,_,h,_=>nomatch h
 | z::r,a,y,h,e=>by
  rcases List.mem_cons.mp h with q | q
  ·subst q
   have:=a.1
   rw [e] at this
   exact this
  ·exact jP.get a.2 y q e
def iN (X:Cx) (scope:Scope) (cl:List (Str × Addr)):List (Option Nat)→List Str→Prop
 | none::r,_::n=>iN X scope cl r n
 | some j::r,x::n=>(X.N[j]?=some x∧(cl.lookup x).isSome=true∧(X.env.scope.names.lookup x=some .cell∨X.env.scope.names.lookup x=some .free)∧((relabel scope X.env).names.lookup x=some .cell∨(relabel scope X.env).names.lookup x=some .free))∧iN X scope cl r n
 | [],[]=>True
 | _,_=>False
theorem iN.len {X:Cx} {scope:Scope} {cl:List (Str × Addr)}:∀{js:List (Option Nat)} {N:List Str},iN X scope cl js N→js.length=N.length
 | [],[],_=>rfl
 | none::r,_::n,h=>by
  have h':iN X scope cl r n:=h
  simp [iN.len h']
 | some j::r,x::n,h=>by
  have h':iN X scope cl r n:=h.2
  simp [iN.len h']
 | [],_::_,h=>h.elim
 | none::_,[],h=>h.elim
 | some _::_,[],h=>h.elim
theorem iN.get {X:Cx} {scope:Scope} {cl:List (Str × Addr)}:∀{js:List (Option Nat)} {N:List Str},iN X scope cl js N→∀(i j:Nat) x,js[i]?=some (some j)→N[i]?=some x →
  X.N[j]?=some x∧(cl.lookup x).isSome=true∧BU X.env.scope x∧X.env.kindOf x≠some .local∧((relabel scope X.env).names.lookup x=some .cell∨(relabel scope X.env).names.lookup x=some .free)
 | [],[],_,i,j,x,e,_=>by simp at e
 | none::r,y::n,h,0,j,x,e,_=>by simp at e
 | none::r,y::n,h,i+1,j,x,e,e2=>iN.get (js:=r) (N:=n) h i j x (by simpa using e) (by simpa using e2)
 | some k::r,y::n,h,0,j,x,e,e2=>by
  have q:k=j:=by simpa using e
  have q2:y=x:=by simpa using e2
  subst q;subst q2
  obtain⟨a,b,c,d⟩:=h.1
  refine⟨a,b,?_,?_,d⟩
  ·rcases c with c | c
   ·exact .inr (.inl c)
   ·exact .inr (.inr c)
  ·intro z
   have z':X.env.scope.names.lookup y=some .local:=z
   rcases c with c | c
   ·rw [c] at z';cases z'
   ·rw [c] at z';cases z'
 | some k::r,y::n,h,i+1,j,x,e,e2=>iN.get (js:=r) (N:=n) h.2 i j x (by simpa using e) (by simpa using e2)
 | [],_::_,h,_,_,_,_,_=>h.elim
 | none::_,[],h,_,_,_,_,_=>h.elim
 | some _::_,[],h,_,_,_,_,_=>h.elim
theorem cm {X:Cx} {N':List Str} {js:List (Option Nat)} {scope:Scope} {cl:List (Str × Addr)} (clos:closureFor scope X.env=pure cl) (kind:scope.kind=.function) (nocell:∀ y∈scope.names,y.2≠.cell)
  (names:∀ y∈scope.names,y.2=.local→scope.names.lookup y.1=some .local) (sub:AllIn X.env cl) (has:jP cl scope.names) (j:iN X scope cl js N'):jO X N' js scope cl :=
 ⟨clos,kind,nocell,names,sub,has.get,j.len,j.get⟩
theorem boot_int:bootBuiltins "int"=some (.type "int"):=by decide +kernel
theorem boot_bool:bootBuiltins "bool"=some (.type "bool"):=by decide +kernel
theorem boot_tuple:bootBuiltins "tuple"=some (.type "tuple"):=by decide +kernel
theorem boot_list:bootBuiltins "list"=some (.type "list"):=by decide +kernel
theorem boot_abs:bootBuiltins "abs"=some (.builtin "abs"):=by decide +kernel
theorem boot_all:bootBuiltins "all"=some (.builtin "all"):=by decide +kernel
theorem boot_max:bootBuiltins "max"=some (.builtin "max"):=by decide +kernel
theorem boot_min:bootBuiltins "min"=some (.builtin "min"):=by decide +kernel
theorem ao {H:Hp} {p:Addr} {o:HO} (h:H p=none):aB H (upd H p o):=fun b u q=>by rw [aq (bf q h)];exact q
end L2
namespace L2
open PySem PySem.Spec PyProof.Rows
theorem aW {α:Type} {c:TT} {tb:TS} {D:Ends} {σ:St} {H:Hp} (S:α→St) (Pv:α→Hp→Prop) (μ:α→Nat) (x₀:α) (hσ:σ=S x₀) (h0:Pv x₀ H)
  (hs:∀ x H,Pv x H→c (S x) H fun b H1=>if b=true then (∃ N:St→Hp→Prop,(∀ σ' H',N σ' H'→∃ y,σ'=S y∧Pv y H'∧μ y<μ x)∧tb { D with nx:=N,ct:=N,bk:=D.nx } (S x) H1) else D.nx (S x) H1):xR c tb D σ H:=by
 subst hσ
 refine⟨fun m σ H=>∃ x,σ=S x∧Pv x H∧m=μ x,⟨_,x₀,rfl,h0,rfl⟩,?_⟩
 rintro m σ H ⟨x,rfl,p,rfl⟩
 have q:=hs x H p
 have e:(fun b H1=>if b=true then (∃ N:St→Hp→Prop,(∀ σ' H',N σ' H'→∃ y,σ'=S y∧Pv y H'∧μ y<μ x)∧tb { D with nx:=N,ct:=N,bk:=D.nx } (S x) H1) else D.nx (S x) H1) =
   (fun b H1=>if b=true then (∃ N:St→Hp→Prop,(∀ σ' H',N σ' H'→∃ m',m'<μ x∧∃ y,σ'=S y∧Pv y H'∧m'=μ y)∧tb { D with nx:=N,ct:=N,bk:=D.nx } (S x) H1) else D.nx (S x) H1):=by
  funext b H1
  cases b with
  | false=>rfl
  | true =>
   simp only [if_true]
   refine propext ⟨fun⟨N,hN,z⟩=>⟨N,fun σ' H' n=>?_,z⟩,fun⟨N,hN,z⟩=>⟨N,fun σ' H' n=>?_,z⟩⟩
   ·obtain⟨y,e1,e2,e3⟩:=hN σ' H' n
    exact⟨_,e3,y,e1,e2,rfl⟩
   ·obtain⟨m',l,y,e1,e2,e3⟩:=hN σ' H' n
    exact⟨y,e1,e2,e3▸l⟩
 rw [e] at q
 exact q
end L2
namespace Gcd
structure J (A B g u v ng nu nv:Int):Prop where
 g0:0≤g
 n0:0≤ng
 e1:u*A+v*B=g
 e2:nu*A+nv*B=ng
 ex:∃ s U NU V NV:Int,(s=1∨s = -1)∧0≤U∧0≤NU∧0≤V∧0≤NV∧u=s*U∧nu = -s*NU∧v = -s*V∧nv=s*NV∧g*NU+ng*U=B∧g*NV+ng*V=A ∧
  (U≤1∨U≤B)∧(NU≤1∨NU≤B)∧(V≤1∨V≤A)∧(NV≤1∨NV≤A)
theorem J.start {A B:Int} (ha:0≤A) (hb:0≤B):J A B A 1 0 B 0 1 :=
 ⟨ha,hb,by grind,by grind,1,1,0,0,1,.inl rfl,by decide,by decide,by decide,by decide,by grind,by grind,by grind,by grind,by grind,by grind,.inl (by decide),.inl (by decide),.inl (by decide),.inl (by decide)⟩
theorem lO {n x B:Int} (hn:0<n) (hx:0≤x) (h:n*x≤B):x≤B:=by
 have:1*x≤n*x:=Int.mul_le_mul_of_nonneg_right hn hx
 omega
theorem J.turn {A B g u v ng nu nv:Int} (j:J A B g u v ng nu nv) (hn:0<ng) :
  J A B ng nu nv (g-g/ng*ng) (u-g/ng*nu) (v-g/ng*nv)∧(g-g/ng*ng)<ng∧0≤g/ng∧g/ng≤g:=by
 have q0:0≤g/ng:=Int.ediv_nonneg j.g0 j.n0
 have r:=Int.emod_def g ng
 have r0:=Int.emod_nonneg g (show ng≠0 by omega)
 have r1:=Int.emod_lt_of_pos g hn
 have ql:g/ng≤g:=Int.ediv_le_self ng j.g0
 have e1:=j.e1
 have e2:=j.e2
 have hc:g/ng*ng=ng*(g/ng):=Int.mul_comm _ _
 generalize g/ng=q at *
 obtain⟨s,U,NU,V,NV,hs,hU,hNU,hV,hNV,eu,enu,ev,env,b1,b2,l1,l2,l3,l4⟩:=j.ex
 have hqNU:0≤q*NU:=Int.mul_nonneg q0 hNU
 have hqNV:0≤q*NV:=Int.mul_nonneg q0 hNV
 have rr:0≤g-q*ng:=by omega
 have i1:ng*(U+q*NU)+(g-q*ng)*NU=B:=by grind
 have i2:ng*(V+q*NV)+(g-q*ng)*NV=A:=by grind
 have n1:0≤(g-q*ng)*NU:=Int.mul_nonneg rr hNU
 have n2:0≤(g-q*ng)*NV:=Int.mul_nonneg rr hNV
 refine⟨⟨j.n0,rr,e2,by grind,-s,NU,U+q*NU,NV,V+q*NV,by omega,hNU,by omega,hNV,by omega,by grind,by grind,by grind,by grind,i1,i2,l2,.inr (lO hn (by omega) (by omega)),l4,.inr (lO hn (by omega) (by omega))⟩,by omega,q0,ql⟩
structure BZ (a b g u v:Int):Prop where
 g0:0≤g
 lin:u*a+v*b=g
 da:g∣a
 db:g∣b
 bu:u.natAbs≤max 1 b.natAbs
 bv:v.natAbs≤max 1 a.natAbs
theorem J.done {a b g u v nu nv:Int} (j:J (if a<0 then -a else a) (if b<0 then -b else b) g u v 0 nu nv):BZ a b g (if a<0 then -u else u) (if b<0 then -v else v):=by
 have e1:=j.e1
 obtain⟨s,U,NU,V,NV,hs,hU,hNU,hV,hNV,eu,enu,ev,env,b1,b2,l1,l2,l3,l4⟩:=j.ex
 have hu:u.natAbs=U.toNat:=by
  rcases hs with rfl | rfl
  ·omega
  ·omega
 have hv:v.natAbs=V.toNat:=by
  rcases hs with rfl | rfl
  ·omega
  ·omega
 refine⟨j.g0,?_,?_,?_,?_,?_⟩
 ·split<;>split<;>rename_i h1 h2<;>simp only [h1,h2,if_true,if_false] at e1<;>grind
 ·have:g∣(if a<0 then -a else a):=⟨NV,by omega⟩
  by_cases h:a<0
  ·rw [if_pos h] at this
   exact Int.dvd_neg.mp this
  ·rw [if_neg h] at this
   exact this
 ·have:g∣(if b<0 then -b else b):=⟨NU,by omega⟩
  by_cases h:b<0
  ·rw [if_pos h] at this
   exact Int.dvd_neg.mp this
  ·rw [if_neg h] at this
   exact this
 ·have:(if a<0 then -u else u).natAbs=u.natAbs:=by split<;>omega
  rw [this,hu]
  split at l1<;>omega
 ·have:(if b<0 then -v else v).natAbs=v.natAbs:=by split<;>omega
  rw [this,hv]
  split at l3<;>omega
theorem J.small {A B g u v ng nu nv M:Int} (j:J A B g u v ng nu nv) (hA:0≤A) (hB:0≤B) (hAM:A≤M) (hBM:B≤M) (hM:1≤M):(-M≤u∧u≤M)∧(-M≤v∧v≤M)∧(-M≤nu∧nu≤M)∧(-M≤nv∧nv≤M):=by
 obtain⟨s,U,NU,V,NV,hs,hU,hNU,hV,hNV,eu,enu,ev,env,b1,b2,l1,l2,l3,l4⟩:=j.ex
 rcases hs with rfl | rfl
 ·refine⟨⟨?_,?_⟩,⟨?_,?_⟩,⟨?_,?_⟩,⟨?_,?_⟩⟩<;>omega
 ·refine⟨⟨?_,?_⟩,⟨?_,?_⟩,⟨?_,?_⟩,⟨?_,?_⟩⟩<;>omega
end Gcd
namespace L2
open PySem PySem.Spec PyProof.Rows
theorem aB.upd {H H1:Hp} {p:Addr} {o:HO} (h:aB H H1) (hp:H p=none):aB H (upd H1 p o):=fun b u q=>by rw [aq (bf q hp)];exact h b u q
theorem aB.BM {H H1:Hp} {p:Addr} {o:HO} (h:aB H H1) (hp:H1 p=none):aB H (L2.upd H1 p o):=h.upd (h.free hp)
theorem Av {α:Type} {xs:List α} {k:Int} (h0:0≤k) (h1:k<xs.length):∃ v,nV xs k=some v∧xs[k.toNat]?=some v:=by
 have hk:k.toNat<xs.length:=by omega
 refine⟨xs[k.toNat],?_,List.getElem?_eq_getElem hk⟩
 have:=yh (xs:=xs) (j:=k.toNat) (List.getElem?_eq_getElem hk)
 rwa [Int.toNat_of_nonneg h0] at this
theorem mK {K:PySem.W.Frag} {H:Hp} {p:Addr} {xs:List V} {k:Int} {Q:VK} (h:aX K H p xs) (h0:0≤k) (h1:k<xs.length) (q:∀ v∈xs,Q v H):Br K (.ref p) (.int k) H Q:=by
 obtain⟨v,e,e2⟩:=Av h0 h1
 exact⟨p,xs,k,v,rfl,rfl,h,e,q v (List.mem_of_getElem? e2)⟩
def Loop (J:It) (g:TG) (tb:TS) (D:Ends) (σ:St) (H:Hp):Prop:=∃ W:Nat→Nat→St→Hp→Prop,(∃ m,W 0 m σ H)∧∀ i m σ H,W i m σ H →
 (J.stop i H∧D.nx σ H)∨(J.go i H∧∃ N:St→Hp→Prop,(∀ σ' H',N σ' H'→∃ m',m'<m∧W (i+1) m' σ' H')∧∀ x H',J.yld i H x H'→g x σ H' fun σ2 H2=>tb { D with nx:=N,ct:=N,bk:=D.nx } σ2 H2)
theorem sX {wi:TI} {g:TG} {tb:TS} {D:Ends} {σ:St} {H:Hp}:CQ wi g tb D σ H=wi σ H fun J H1=>Loop J g tb D σ H1:=rfl
theorem fe {lo:Int} {n:Nat} {g:TG} {tb:TS} {D:Ends} {σ:St} {H:Hp} (Pv:Nat→St→Hp→Prop) (h0:Pv 0 σ H)
  (hs:∀ i σ H,i<n→Pv i σ H→g (.int (lo+i)) σ H fun σ2 H2=>tb { D with nx:=Pv (i+1),ct:=Pv (i+1),bk:=D.nx } σ2 H2) (hd:∀ σ H,Pv n σ H→D.nx σ H):Loop (zH lo n) g tb D σ H:=tP Pv h0 hs hd
theorem eJ {K:PySem.W.Frag} {a:Addr} {xs:List V} {g:TG} {tb:TS} {D:Ends} {σ:St} {H:Hp} (Pv:Nat→St→Hp→Prop) (h0:Pv 0 σ H) (hl:∀ i σ H,i≤xs.length→Pv i σ H→aX K H a xs)
  (hs:∀ i x σ H,xs[i]?=some x→Pv i σ H→g x σ H fun σ2 H2=>tb { D with nx:=Pv (i+1),ct:=Pv (i+1),bk:=D.nx } σ2 H2) (hd:∀ σ H,Pv xs.length σ H→D.nx σ H):Loop (Aj K a) g tb D σ H:=vi Pv h0 hl hs hd
theorem oS {K:PySem.W.Frag} {a:Addr} {xs:List V} {g:TG} {tb:TS} {D:Ends} {σ:St} {H:Hp} (Pv:Nat→St→Hp→Prop) (h0:Pv 0 σ H) (hl:∀ i σ H,i≤xs.length→Pv i σ H→bC K H a xs)
  (hs:∀ i x σ H,xs[i]?=some x→Pv i σ H→g x σ H fun σ2 H2=>tb { D with nx:=Pv (i+1),ct:=Pv (i+1),bk:=D.nx } σ2 H2) (hd:∀ σ H,Pv xs.length σ H→D.nx σ H):Loop (Ak K a) g tb D σ H:=yt Pv h0 hl hs hd
def rL (J:It) (js:List (Option Nat)) (g:TG) (tt:TT) (te:TE) (σ:St) (Q:VK) (H1:Hp):Prop:=∃ W:Nat→Nat→List V→Hp→Prop,(∃ m,W 0 m [] H1)∧∀ i m ys H,W i m ys H →
 (J.stop i H∧ys.length≤sizeLine∧∀ p,H p=none→Q (.ref p) (upd H p (.lst ys))) ∨
 (J.go i H∧ys.length<sizeLine∧∃ N:List V→Hp→Prop,(∀ ys' H',N ys' H'→∃ m',m'<m∧W (i+1) m' ys' H') ∧
  ∀ x H',J.yld i H x H'→g x (dN js σ) H' fun σ2 H2=>cw (dN js σ) σ2∧tt σ2 H2 fun b H3=>if b=true then te σ2 H3 fun v H4=>N (ys++[v]) H4 else N ys H3)
theorem xH {js:List (Option Nat)} {wi:TI} {g:TG} {tt:TT} {te:TE} {σ:St} {H:Hp} {Q:VK}:C4 js wi g tt te σ H Q=wi σ H fun J H1=>rL J js g tt te σ Q H1:=rfl
theorem bR {K:PySem.W.Frag} {a:Addr} {xs:List V} {js:List (Option Nat)} {g:TG} {tt:TT} {te:TE} {σ:St} {Q:VK} {H1:Hp} (Pv:Nat→List V→Hp→Prop) (h0:Pv 0 [] H1) (hx:xs.length≤sizeLine) (hl:∀ i ys H,i≤xs.length→Pv i ys H→aX K H a xs∧ys.length≤i)
  (hs:∀ i x ys H,xs[i]?=some x→Pv i ys H→g x (dN js σ) H fun σ2 H2=>cw (dN js σ) σ2∧tt σ2 H2 fun b H3=>if b=true then te σ2 H3 fun v H4=>Pv (i+1) (ys++[v]) H4 else Pv (i+1) ys H3)
  (hd:∀ ys H p,Pv xs.length ys H→H p=none→Q (.ref p) (upd H p (.lst ys))):rL (Aj K a) js g tt te σ Q H1:=by
 refine⟨fun i m ys H=>m=xs.length-i∧i≤xs.length∧Pv i ys H,⟨xs.length,by simp,Nat.zero_le _,h0⟩,?_⟩
 rintro i m ys H ⟨rfl,hi,p⟩
 obtain⟨q,hy⟩:=hl i ys H hi p
 by_cases hlt:i<xs.length
 ·refine .inr ⟨⟨xs,xs[i],q,by simp [hlt]⟩,by omega,Pv (i+1),fun ys' H' p'=>⟨xs.length-(i+1),by omega,rfl,hlt,p'⟩,fun x H' y=>?_⟩
  obtain⟨e,y⟩:=y
  subst e
  exact hs i x ys _ (y xs q) p
 ·have e:i=xs.length:=by omega
  subst e
  exact .inl ⟨⟨xs,q,Nat.le_refl _⟩,by omega,fun p' hp'=>hd ys H p' p hp'⟩
theorem dy {K:PySem.W.Frag} {a:Addr} {xs:List V} {js:List (Option Nat)} {g:TG} {tt:TT} {te:TE} {σ:St} {Q:VK} {H1:Hp} (Pv:Nat→List V→Hp→Prop) (h0:Pv 0 [] H1) (hx:xs.length≤sizeLine) (hl:∀ i ys H,i≤xs.length→Pv i ys H→bC K H a xs∧ys.length≤i)
  (hs:∀ i x ys H,xs[i]?=some x→Pv i ys H→g x (dN js σ) H fun σ2 H2=>cw (dN js σ) σ2∧tt σ2 H2 fun b H3=>if b=true then te σ2 H3 fun v H4=>Pv (i+1) (ys++[v]) H4 else Pv (i+1) ys H3)
  (hd:∀ ys H p,Pv xs.length ys H→H p=none→Q (.ref p) (upd H p (.lst ys))):rL (Ak K a) js g tt te σ Q H1:=by
 refine⟨fun i m ys H=>m=xs.length-i∧i≤xs.length∧Pv i ys H,⟨xs.length,by simp,Nat.zero_le _,h0⟩,?_⟩
 rintro i m ys H ⟨rfl,hi,p⟩
 obtain⟨q,hy⟩:=hl i ys H hi p
 by_cases hlt:i<xs.length
 ·refine .inr ⟨⟨xs,xs[i],q,by simp [hlt]⟩,by omega,Pv (i+1),fun ys' H' p'=>⟨xs.length-(i+1),by omega,rfl,hlt,p'⟩,fun x H' y=>?_⟩
  obtain⟨e,y⟩:=y
  subst e
  exact hs i x ys _ (y xs q) p
 ·have e:i=xs.length:=by omega
  subst e
  exact .inl ⟨⟨xs,q,Nat.le_refl _⟩,by omega,fun p' hp'=>hd ys H p' p hp'⟩
theorem DP {CX:jN} {P:Program} {w:World} {K:PySem.W.Frag} {mg:Str→Option Value} {base:Heap} {N:List Str} {qual:Str} {scope:Scope} {f:Addr} {cd:Value} {A:Around} {outer:List Env} {s:Shared} {H:Hp} {E:XK} :
  (fb CX P w K mg base N qual scope f cd A outer s H E).K=K:=rfl
theorem zL {X:Cx} {N':List Str} {scope:Scope} {cl:List (Str × Addr)} {C:Addr} {s₂:Shared} {H₂:Hp} {fp:List Addr}:(gO X N' scope cl C s₂ H₂ fp).K=X.K:=rfl
theorem aU {K:PySem.W.Frag} {b k:Bool} {H:Hp}:yd K (.bl b) H k=(k=b):=rfl
theorem qg {K:PySem.W.Frag} {i:Int} {k:Bool} {H:Hp}:yd K (.int i) H k=(k=(i != 0)):=rfl
def wN (K:PySem.W.Frag):List V→Hp→VK→Prop:=fun xs H Q=>∃ p ys,xs=[.ref p]∧(aX K H p ys∨bC K H p ys)∧Q (.int ys.length) H
theorem bN {X:Cx}:cD X (.builtin "len") (wN X.K):=mB
theorem dQ {K:PySem.W.Frag} {H:Hp} {p:Addr} {xs:List V} {Q:VK} (h:aX K H p xs) (q:Q (.int xs.length) H):wN K [.ref p] H Q:=⟨p,xs,rfl,.inl h,q⟩
theorem mM {K:PySem.W.Frag} {H:Hp} {p:Addr} {xs:List V} {Q:VK} (h:bC K H p xs) (q:Q (.int xs.length) H):wN K [.ref p] H Q:=⟨p,xs,rfl,.inr h,q⟩
theorem uP {K:PySem.W.Frag} {H:Hp} {p:Addr} {bs:List Bool} {Q:VK} (h:aX K H p (bs.map V.bl)) (q:Q (.bl (bs.all id)) H):Cz K [.ref p] H Q:=⟨p,bs,rfl,h,q⟩
theorem iz {a b:Int}:nj (.int a) (.int b)=true:=rfl
theorem sE {a b:Bool}:nj (.bl a) (.bl b)=true:=rfl
theorem sG {a:Int}:nj (.int a) .non=true:=rfl
theorem sH {a:Int}:nj .non (.int a)=true:=rfl
theorem sI:nj .non .non=true:=rfl
theorem sF {a:Bool}:nj (.bl a) .non=true:=rfl
theorem sJ {a b:Str}:nj (.str a) (.str b)=true:=rfl
def DG (t:TS):TS:=fun D σ H=>∃ R:St→Hp→Prop,t { D with nx:=R } σ H∧∀ σ' H',R σ' H'→D.nx σ' H'
theorem eA {X:Cx} {st:Stmt} {t:TS} (h:PS X st t):PS X st (DG t):=by
 intro pins s σ H D I ⟨R,hw,hR⟩
 refine bj (h pins s σ H _ I hw) fun f s' q=>?_
 cases f with
 | next=>obtain⟨σ',H',I',r⟩:=q;exact⟨σ',H',I',hR _ _ r⟩
 | brk=>exact q
 | cont=>exact q
 | ret u=>exact q
theorem yr {P:Program} {w:World} {K:PySem.W.Frag} {mg:Str→Option Value} {base:Heap} {k:Nat} {x:Str} {ps:List Str} {sp:Sp} {st:Stmt} {N:List Str} {f:Addr} {fd:FuncData} (F:uL K x x st f fd)
  (S:ay N ps (ak st)) (len:∀ vs H Q E,sp vs H Q E→vs.length=ps.length)
  (hbody:∀(cdv:Value) (A:Around) (outer:List Env) (s:Shared) (H:Hp) (vs:List V) (Q:VK) (E:XK),bM k (A.deeper (envOfC x (ak st) s.heap.objs.size f cdv))→sp vs H Q E →
   ∃ t,iL (fb aK P w K mg base N x (ak st) f cdv A outer s H E).lR (aS st) t∧t { nx:=fun _ H'=>Q .non H',rt:=Q } (start N vs) H):cQ P w K mg base aK (k+1) f fd ps sp :=
 F.ok S len fun cdv A outer s H vs Q E hr h=>hbody cdv A outer s H vs Q E hr h
theorem yA {P:Program} {w:World} {K:PySem.W.Frag} {mg:Str→Option Value} {k:Nat} {x y:Str} {sp:Sp} {st:Stmt} {fa:Addr} (hfa:mg x=some (.ref fa)) (D:av K mg x st)
  (hb:∀(kV doc pm:Value) (an:Option Addr) (cdv ct:Value) (u:Value),bindArgs (PySem.W.fnOf x x (bz st) (aS st) (ak st) .none kV doc pm an cdv ct) ⟨[u],[]⟩=pure [(y,u)])
  (ok:∀(base:Heap) (f:Addr) (fd:FuncData),K.In base→uL K x x st f fd→cQ P w K mg base aK k f fd [y] sp) :
  ∃ fd:FuncData,(∀(s:Shared) (u:Value),BindsTo s fd ⟨[u],[]⟩ [(y,u)])∧∀ base:Heap,K.In base→base.Ns mainGlobals mg→cQ P w K mg base aK k fa fd [y] sp:=by
 obtain⟨f,fd,F,hm⟩:=D
 have e:=hfa.symm.trans hm
 cases e
 refine⟨fd,fun s u=>?_,fun base kb _=>ok base _ _ kb F⟩
 obtain⟨oc,od,kV,doc,pm,an,cdv,ct,osl,rfl,lk,hcd⟩:=F.ex
 exact .of_eq (hb kV doc pm an cdv ct u)
end L2
namespace L2
open PySem PySem.Spec PyProof.Rows PySem.W
def cI:List Value:=[.type "ValueError",.type "Exception",.type "BaseException",.type "object"]
def cp:List Value→Bool
 | .ref _::r=>cp r
 | l=>l==cI
theorem pP (self:Value):refuseLoop self "__setattr__" cI=pure ():=by kernel_rfl
theorem kK (self:Value):∀{l:List Value},cp l=true→refuseLoop self "__setattr__" l=pure ()
 | .ref c::r,e=>by rw [refuseLoop_ref];exact kK self (l:=r) e
 | [],e=>by cases e
 | .type n::r,e=>by
  have:Value.type n::r=cI:=by simpa [cp] using e
  rw [this];exact pP self
 | .none::r,e=>by simp [cp,cI] at e
 | .bool _::r,e=>by simp [cp,cI] at e
 | .int _ _::r,e=>by simp [cp,cI] at e
 | .str _ _::r,e=>by simp [cp,cI] at e
 | .bytes _ _::r,e=>by simp [cp,cI] at e
 | .float _ _::r,e=>by simp [cp,cI] at e
 | .builtin _::r,e=>by simp [cp,cI] at e
theorem jC {l:List Value}:cp l=true→l.contains (.type "object")=true∧l.contains (.type "BaseException")=true∧l.isEmpty=false:=by
 intro h
 induction l with
 | nil=>cases h
 | cons a r ih =>
  cases a with
  | ref c =>
   obtain⟨h1,h2,_⟩:=ih h
   exact⟨by rw [List.contains_cons,h1,Bool.or_true],by rw [List.contains_cons,h2,Bool.or_true],rfl⟩
  | type n =>
   have e:Value.type n::r=cI:=by simpa [cp] using h
   rw [e]
   exact⟨by decide,by decide,rfl⟩
  | _=>simp [cp,cI] at h
section
variable {prog:Program} {w:World} {A:Around} {E:Value→Shared→Prop} {s:Shared} {K:PySem.W.Frag} {x C:Addr} {name:Str} {v:Value} {cd:ClassData}
theorem yq {vs:Array Value} {sl:Array (Option Value)} {Q:Unit→Shared→Prop} (X:K.In s.heap) (hx:s.heap.get? x=some ⟨.ref C,none,.fields vs,sl⟩) (hc:clsIn K C=some cd) (hm:cp cd.mro=true) (hh:cd.hasDict=true)
  (hs:findIn K (.ref C) "__setattr__"=some (some (.builtin "object.__setattr__"))) (hn:findIn K (.ref C) name=some none)
  (h:∀ h',h'.get? x=some ⟨.ref C,some s.heap.objs.size,.fields vs,sl⟩→h'.Ns1 s.heap.objs.size (fun y=>if y=name then some v else none)→(∀ b ob,b≠x→s.heap.get? b=some ob→h'.get? b=some ob)→Q () { s with heap:=h',toks:=s.toks+2 }) :
  wpAny (model prog w) A (setAttr (.ref x) name v) Q E s:=by
 have I:PySem.W.InstAt s.heap x ⟨.ref C,none,.fields vs,sl⟩ C none:=⟨hx,rfl,rfl,True.intro⟩
 obtain⟨m1,m2,m3⟩:=jC hm
 refine PySem.W.set_plain X I hs ?_
 have SF:=PySem.F.store_object
 have sub:Looks (model prog w) s.heap (isInstance (.ref x) (.type "object")) true:=I.type.andThen (looks_mroIn X (by unfold mroIn;rw [hc,Option.bind_some,if_neg (by rw [m3];decide),m1]))
 refine codeAny_call_builtin SF.slot.plain SF.entry (@check_slot (model prog w) _ _ { s with toks:=s.toks+1 } "object.__setattr__" "object" "__setattr__" (.ref x) [.str name s.toks,v] [] _ SF.kind SF.split sub (SF.args (.ref x) (.str name s.toks) v) ?_)
 have L1:Looks (model prog w) s.heap (mroOf (.ref C)) cd.mro:=(looks_clsIn X hc).andThen .now
 rw [osa_eq,refuse_eq]
 refine wpAny_bind (wpAny_bind (Looks.here (s:={ s with toks:=s.toks+1 }) I.type (wpAny_bind (Looks.here (s:={ s with toks:=s.toks+1 }) L1 ?_))))
 rw [kK _ hm]
 refine wpAny_pure (wpAny_bind (Looks.here (s:={ s with toks:=s.toks+1 }) I.type (wpAny_bind (Looks.here (s:={ s with toks:=s.toks+1 }) (looks_findIn X hn) (wpAny_bind (wpAny_pure ?_))))))
 show wpAny _ _ (Builtin.ObjectAttr.storeInOwnDict (.ref x) (.ref C) (.str name s.toks) name v false) _ _ _
 refine wpAny_bind (wpAny_pure (wpAny_bind (wpAny_bind (wpAny_loadPart hx (wpAny_bind (Looks.here (s:={ s with toks:=s.toks+1 }) (looks_clsIn X hc) ?_))))))
 rw [hh]
 refine wpAny_bind (wpAny_alloc ?_)
 have hlt:x≠s.heap.objs.size:=Nat.ne_of_lt (Heap.lt_size hx)
 have hp:(s.heap.push { cls:=.type "dict",data:=.dict #[] }).get? x=some ⟨.ref C,none,.fields vs,sl⟩:=Heap.get?_push_of_some _ hx
 refine wpAny_bind (wpAny_update (s:={ s with toks:=s.toks+1,heap:=s.heap.push { cls:=.type "dict",data:=.dict #[] } }) hp ?_)
 refine wpAny_pure ?_
 show wpAny _ _ (Builtin.ObjectAttr.storeInDict s.heap.objs.size (.str name s.toks) name v) _ _ _
 generalize hu:(s.heap.push { cls:=.type "dict",data:=.dict #[] }).update x (fun o=>{ o with dict:=some s.heap.objs.size })=h1
 have g1:h1.get? x=some ⟨.ref C,some s.heap.objs.size,.fields vs,sl⟩:=by rw [← hu];exact Heap.get?_update_self _ hp rfl
 have g2:∀ b,b≠x→h1.get? b=(s.heap.push { cls:=.type "dict",data:=.dict #[] }).get? b:=fun b hb=>by rw [← hu];exact Heap.get?_update_other _ _ (Ne.symm hb)
 have g3:h1.Ns1 s.heap.objs.size (fun _=>none):=by
  have e1:h1.get? s.heap.objs.size=some { cls:=.type "dict",data:=.dict #[] }:=by rw [g2 _ (Ne.symm hlt)];exact Heap.get?_push_size _ rfl
  have e3:h1.Ns s.heap.objs.size (fun _=>none):=⟨_,#[],_,e1,rfl,(fun e he=>absurd he (by simp)),fun _=>rfl⟩
  exact Heap.Ns1.of_empty e3
 refine wpAny_bind (wpAny_pure (wpAny_bind ?_))
 refine wpAny_nsSet1 (s:={ s with toks:=s.toks+1,heap:=h1 }) g3 fun h' hn2 hs2=>?_
 obtain⟨oD,esD,epD,hoD,hdD,hcD⟩:=hn2.count (ns:=[name]) (PySem.Within.cons name v (ns:=[]) (fun y hy=>absurd rfl hy))
 refine wpAny_bind (wpAny_lookBehind hoD (by rw [hdD];exact pastItsLine_dict (Nat.le_trans hcD (by show 1≤sizeLine+1;decide))) ?_)
 refine wpAny_pure (h h' ((hs2.2 _ hlt).trans g1) hn2 fun b ob hb e=>?_)
 have hb2:b≠s.heap.objs.size:=Nat.ne_of_lt (Heap.lt_size e)
 exact (hs2.2 b hb2).trans ((g2 b hb).trans (Heap.get?_push_of_some _ e))
structure dh (K:PySem.W.Frag) (C:Addr):Prop where
 cls:∃ cd,clsIn K C=some cd∧cp cd.mro=true∧cd.hasDict=true
 at_:∃ od cd sl,K.lookup C=some ⟨.type "type",od,.cls cd,sl⟩
 sa:findIn K (.ref C) "__setattr__"=some (some (.builtin "object.__setattr__"))
 ga:findIn K (.ref C) "__getattribute__"=some (some (.builtin "BaseException.__getattribute__"))
 gx:findIn K (.ref C) "__getattr__"=some none
 ca:findIn K (.ref C) "__class__"=some (some (.builtin "object.__class__"))
 gs:specialIn K (.builtin "object.__class__") "__get__"=some (some (.builtin "getset_descriptor.__get__"))
 tk:takesIn K (.builtin "object.__class__")=some true
end
section
variable {prog:Program} {w:World} {A:Around} {E:Value→Shared→Prop} {h:Heap} {g:Array GenState} {d:Drawn} {t:Nat} {os:OsState}
variable {nm q:Str} {C N:Addr} {bs bm:List Value} {hdct:Bool} {sn:List Str} {sub:List Value} {ab:Bool} {col:Option Bool} {dd:Option Addr} {k0 k1 k2 k3 k5:Option Value}
abbrev lj:String := "ValueError.__new__"
abbrev newExc (C a:Addr):Obj:={ cls:=.ref C,data:=.fields #[.ref a,.none,.none,.none,.bool false,.none] }
theorem yp (hB:bm.contains (.type "ValueError")=true) (hA:bm.contains (.type "AttributeError")=false) (hN:bm.contains (.type "NameError")=false) {rest:List Value} {R:Result→Shared→Prop}
  (hC:h.get? C=some (excClassObj nm q C N bs bm hdct sn sub ab col dd k0 k1 k2 k3 k5 lj)) (hrest:rest.length≤sizeLine)
  (hq:R (.ok (.ret (.ref (h.objs.size+1)))) ⟨(h.push { cls:=.type "tuple",data:=.seq rest.toArray }).push (newExc C h.objs.size),g,d,t,os⟩) :
  codeAny (model prog w) A (.builtin lj ⟨.ref C::rest,[]⟩) R ⟨h,g,d,t,os⟩:=by
 have Fn:=PySem.F.excBase_ValueError
 have hends:=Fn.ends
 have cB:(Value.ref C::bm).contains (.type "ValueError")=true:=by rw [List.contains_cons,hB,Bool.or_true]
 have cA:(Value.ref C::bm).contains (.type "AttributeError")=false:=by rw [List.contains_cons,hA];rfl
 have cN:(Value.ref C::bm).contains (.type "NameError")=false:=by rw [List.contains_cons,hN];rfl
 refine codeAny_builtinAt Fn.entry ?_
 unfold Builtin.«BaseException.__new__»
 refine PySem.wpAt_bind ?_
 show PySem.wpAt _ _ _ (stack >>= _) _ _ _
 refine PySem.wpAt_bind (PySem.wpAt_stack fun p below=>PySem.wpAt_of_wpAny ?_)
 wp_walk
 refine PySem.wpAt_of_wpAny ?_
 rw [Fn.owner]
 repeat (first | with_reducible refine wpAny_madeHere_exc Fn.canon hC ?_ | with_reducible refine wpAny_loadPart_at hC ?_ | (with_reducible refine wpAny_isSubtype_exc hC ?_;first | rw [cB] | rw [cA] | rw [cN]) | wp_step)
 show R _ _
 rw [Heap.size_push]
 exact hq
theorem k8 (hB:bm.contains (.type "ValueError")=true) {rest:List Value} {M:Model} {Q:Unit→Shared→Prop} (hC:h.get? C=some (excClassObj nm q C N bs bm hdct sn sub ab col dd k0 k1 k2 k3 k5 lj))
  (hq:Q () ⟨h,g,d,t,os⟩):wpAny M A (checkBuiltinCall lj ⟨.ref C::rest,[]⟩) Q E ⟨h,g,d,t,os⟩:=by
 have Fn:=PySem.F.excBase_ValueError
 have cB:(Value.ref C::bm).contains (.type "ValueError")=true:=by rw [List.contains_cons,hB,Bool.or_true]
 have hstar:=Fn.noStar
 simp only [checkBuiltinCall,Fn.newKind,Fn.newSplit,Fn.newRow]
 repeat (first | refine wpAny_loadPart_at hC ?_ | (refine wpAny_isSubtype_exc hC ?_;rw [cB]) | refine wpAny_staticBase_exc hC ?_ | refine wpAny_madeBy_exc hC ?_ | simp only [bne_self_eq_false,Bool.false_eq_true,if_false] | wp_step)
 exact hq
theorem mE {K:PySem.W.Frag} {i:Value} {rest:List Value} {Q:Fin→Shared→Prop} (X:K.In h) (hB:bm.contains (.type "ValueError")=true) (hA:bm.contains (.type "AttributeError")=false) (hN:bm.contains (.type "NameError")=false)
  (hC:h.get? C=some (excClassObj nm q C N bs bm hdct sn sub ab col dd k0 k1 k2 k3 k5 lj)) (hrest:rest.length≤sizeLine) (hi:findIn K (.ref C) "__init__"=some (some i)) {j:Value}
  (hb:Looks (model prog w) h (bindSpecial i (.ref (h.objs.size+1))) (j,[.ref (h.objs.size+1)]))
  (hq:codeAny (model prog w) A (.call j ⟨.ref (h.objs.size+1)::rest,[]⟩) (fun r s'=>match r with | .ok (.ret v)=>v=.none∧Q (.done (.ret (.ref (h.objs.size+1)))) s' | .ok _=>False | .error e=>E e s')
   ⟨(h.push { cls:=.type "tuple",data:=.seq rest.toArray }).push (newExc C h.objs.size),g,d,t,os⟩) :
  wpAny (model prog w) A (Builtin.«type.__call__» ⟨.ref C::rest,[]⟩) Q E ⟨h,g,d,t,os⟩:=by
 have Fn:=PySem.F.excBase_ValueError
 repeat (first | with_reducible refine wpAny_loadPart_at hC ?_ | with_reducible refine wpAny_madeBy_exc hC ?_ | wp_step)
 refine codeAny_call_builtin_code (Code.quiet_builtin _ Fn.quiet) (k8 hB hC ?_)
 refine yp hB hA hN hC hrest ?_
 show wpAny _ _ _ _ _ _
 have kp:∀ b o,h.get? b=some o→((h.push { cls:=.type "tuple",data:=.seq rest.toArray }).push (newExc C h.objs.size)).get? b=some o:=fun b o e=>Heap.get?_push_of_some _ (Heap.get?_push_of_some _ e)
 have hget:((h.push { cls:=.type "tuple",data:=.seq rest.toArray }).push (newExc C h.objs.size)).get? (h.objs.size+1)=some (newExc C h.objs.size):=by
  have:=Heap.get?_push_size (h.push { cls:=.type "tuple",data:=.seq rest.toArray }) (o:=newExc C h.objs.size) rfl
  rwa [Heap.size_push] at this
 have cC:(Value.ref C::bm).contains (.ref C)=true:=by simp
 have hC₁:=kp _ _ hC
 have L1:=(looks_findIn (M:=model prog w) X hi).keeps kp
 have L2:=hb.keeps kp
 unfold isInstance
 repeat (first | with_reducible refine wpAny_loadPart_at hget ?_ | (with_reducible refine wpAny_isSubtype_exc hC₁ ?_;rw [cC]) | wp_step)
 show wpAny _ _ (typeLookup (.ref C) _) _ _ _
 refine L1.at (wpAny_holding (wpAny_bind (L2.at (wpAny_bind (wpAny_call (codeAny_mono hq fun r s' z=>?_))))))
 rcases r with e | (_ | _ | _ | v)
 ·exact z
 ·exact z.elim
 ·exact z.elim
 ·exact z.elim
 ·obtain⟨rfl,z⟩:=z
  exact wpAny_pure (wpAny_pure z)
theorem oI {K:PySem.W.Frag} {i:Value} {rest:List Value} {Q:Value→Shared→Prop} (X:K.In h) (hB:bm.contains (.type "ValueError")=true) (hA:bm.contains (.type "AttributeError")=false) (hN:bm.contains (.type "NameError")=false)
  (hC:h.get? C=some (excClassObj nm q C N bs bm hdct sn sub ab col dd k0 k1 k2 k3 k5 lj)) (hrest:rest.length≤sizeLine) (hi:findIn K (.ref C) "__init__"=some (some i)) {j:Value}
  (hb:Looks (model prog w) h (bindSpecial i (.ref (h.objs.size+1))) (j,[.ref (h.objs.size+1)]))
  (hq:codeAny (model prog w) (A.under (.builtin "type.__call__" ⟨.ref C::rest,[]⟩)) (.call j ⟨.ref (h.objs.size+1)::rest,[]⟩) (fun r s'=>match r with | .ok (.ret v)=>v=.none∧Q (.ref (h.objs.size+1)) s' | .ok _=>False | .error e=>E e s')
   ⟨(h.push { cls:=.type "tuple",data:=.seq rest.toArray }).push (newExc C h.objs.size),g,d,t,os⟩) :
  wpAny (model prog w) A (call (.ref C) rest) Q E ⟨h,g,d,t,os⟩:=by
 have f1:=tc_lookup
 have f2:=tc_bind (.ref C)
 have hT:(⟨h,g,d,t,os⟩:Shared).TypeIs (.ref C) "type":=⟨_,hC,rfl⟩
 refine wpAny_call (codeAny_of_tree ?_)
 show wpAny _ _ (callAny (.ref C) _) _ _ _
 repeat (any_goals (first | assumption | with_reducible refine wpAny_loadPart_at hC ?_ | wp_step))
 refine⟨rfl,?_⟩
 refine codeAny_call_builtin_at (Code.quiet_builtin _ (by decide +kernel)) entry_typeCall (wpAny_check_type_call_sub hC ?_)
 exact mE X hB hA hN hC hrest hi hb hq
end
end L2
namespace L2
open PySem PySem.Spec PyProof.Rows PySem.W
def Tr (h:Heap) (e:Addr) (C:Value) (dd:Option Addr) (T:Addr) (fl:Value):Prop :=
 ∃ vs sl oT ts,h.get? e=some ⟨C,dd,.fields vs,sl⟩∧vs[1]?=some (.ref T)∧T≠e∧h.get? T=some oT∧oT.data=.fields ts∧ts[3]?=some fl
structure Kp (fs ch:List Addr) (h h':Heap):Prop where
 keep:∀ b o,b∉ch→b∉fs→h.get? b=some o→h'.get? b=some o
 slot:∀ b o,b∉ch→h.get? b=some o→∃ sl,h'.get? b=some { o with slots:=sl }
section
variable {M:Model} {A:Around} {E:Value→Shared→Prop} {s:Shared} {base:Heap} {env:Env} {outer:List Env} {L e T:Addr} {C:Value} {dd:Option Addr} {fl:Value}
theorem oK {vs:Array Value} {sl:Array (Option Value)} {head:Value} {hadNext:Bool} {Q:Unit→Shared→Prop} (hfr:A.frames=some (env::outer)) (hl:s.heap.FunFrames base (env::outer)) (hf:env.frame=some L)
  (he:s.heap.get? e=some ⟨C,dd,.fields vs,sl⟩) (hsz:1<vs.size)
  (h:∀ h' T,Tr h' e C dd T (rawInt L)→s.heap.objs.size≤T→Kp (gD (env::outer)) [e] s.heap h'→Q () { s with heap:=h' }) :
  wpAny M A (do let a ← frameOf env;let pl ← entryPlaceOf L hadNext;let b ← EntryCells.newEntry head a .none (rawInt L) .none pl;setField (.ref e) 1 b) Q E s:=by
 have hne:e∉gD (env::outer):=fun hm=>by
  obtain⟨_,o,ho,hnf⟩:=hl.mem hm
  rw [he] at ho
  cases ho
  exact hnf vs rfl
 refine wpAny_bind (wpAny_frameOf_fun hfr hl hf fun h1 so=>?_)
 refine wpAny_bind (wpAny_entryPlaceOf fun pl hpl=>?_)
 unfold EntryCells.newEntry newFields
 refine wpAny_bind (wpAny_newObj_type ?_ (hpl.sizeOk5 _ _ _ _ _))
 have e1:h1.get? e=some ⟨C,dd,.fields vs,sl⟩:=(so.2.1 e hne).trans he
 generalize hO:({ cls:=.type "traceback",dict:=none,data:=.fields ([head,.ref L,.none,rawInt L,.none]++(if pl.isEmpty then List.replicate 6 Value.none else pl)).toArray }:Obj)=oT
 have hTd:oT.data=.fields ([head,.ref L,.none,rawInt L,.none]++(if pl.isEmpty then List.replicate 6 Value.none else pl)).toArray:=by rw [← hO]
 have hTf:oT.isFreed=false:=by rw [← hO];rfl
 have e2:(h1.push oT).get? e=some ⟨C,dd,.fields vs,sl⟩:=Heap.get?_push_of_some oT e1
 refine wpAny_setField e2 rfl hsz (h _ h1.objs.size ?_ ?_ ?_)
 ·have ne:h1.objs.size≠e:=Nat.ne_of_gt (Heap.lt_size e1)
  refine⟨vs.setIfInBounds 1 (.ref h1.objs.size),sl,oT,_,Heap.get?_update_self _ e2 rfl,by simp [hsz],ne,?_,hTd,by simp⟩
  rw [Heap.get?_update_other _ _ (Ne.symm ne)]
  exact Heap.get?_push_size h1 hTf
 ·exact Nat.le_of_eq (Eq.symm so.1)
 ·refine⟨fun b o hb hf' q=>?_,fun b o hb q=>?_⟩
  ·have hb':b≠e:=fun z=>hb (by simp [z])
   rw [Heap.get?_update_other _ _ (Ne.symm hb')]
   exact Heap.get?_push_of_some oT ((so.2.1 b hf').trans q)
  ·have hb':b≠e:=fun z=>hb (by simp [z])
   obtain⟨sl',q'⟩:=so.2.2 b o q
   refine⟨sl',?_⟩
   rw [Heap.get?_update_other _ _ (Ne.symm hb')]
   exact Heap.get?_push_of_some oT q'
theorem qM {vs:Array Value} {sl:Array (Option Value)} {Q:Unit→Shared→Prop} (hfr:A.frames=some (env::outer)) (hl:s.heap.FunFrames base (env::outer)) (hf:env.frame=some L)
  (he:s.heap.get? e=some ⟨C,dd,.fields vs,sl⟩) (h1:vs[1]?=some .none)
  (h:∀ h' T,Tr h' e C dd T (rawInt L)→s.heap.objs.size≤T→Kp (gD (env::outer)) [e] s.heap h'→Q () { s with heap:=h' }):wpAny M A (noteFrame (.ref e) env) Q E s:=by
 unfold noteFrame
 simp only [hf]
 refine wpAny_bind (wpAny_field he rfl h1 ?_)
 rw [if_neg (by decide)]
 exact oK hfr hl hf he (Array.getElem?_eq_some_iff.mp h1).1 h
theorem uc {Q:Unit→Shared→Prop} (hfr:A.frames=some (env::outer)) (hl:s.heap.FunFrames base (env::outer)) (hf:env.frame=some L) (ht:Tr s.heap e C dd T .none)
  (h:∀ h' T',Tr h' e C dd T' (rawInt L)→s.heap.objs.size≤T'→Kp (gD (env::outer)) [e,T] s.heap h'→Q () { s with heap:=h' }):wpAny M A (noteFrame (.ref e) env) Q E s:=by
 obtain⟨vs,sl,oT,ts,he,h1,hTe,hT,hdT,h3⟩:=ht
 unfold noteFrame
 simp only [hf]
 refine wpAny_bind (wpAny_field he rfl h1 ?_)
 rw [if_pos (show (Value.ref T != Value.none)=true from by simp)]
 refine wpAny_bind (wpAny_field hT hdT h3 ?_)
 rw [if_neg (show ¬((Value.none==rawInt L)=true) from by simp [rawInt])]
 refine wpAny_bind (wpAny_setField hT hdT (Array.getElem?_eq_some_iff.mp h3).1 ?_)
 generalize hu:s.heap.update T (Obj.mapFields (·.setIfInBounds 3 Value.none))=h1'
 have oth:∀ b,b≠T→h1'.get? b=s.heap.get? b:=fun b hb=>by rw [← hu];exact Heap.get?_update_other _ _ (Ne.symm hb)
 have hT1:∃ o,h1'.get? T=some o:=⟨_,by rw [← hu];exact Heap.get?_update_self _ hT (Obj.isFreed_of_fields (Obj.data_mapFields hdT _))⟩
 have hl1:h1'.FunFrames base (env::outer):=hl.of_keeps fun b o hb hnf=>⟨o,(oth b fun q=>by rw [q,hT] at hb;cases hb;exact hnf ts hdT).trans hb,rfl⟩
 refine oK (s:={ s with heap:=h1' }) hfr hl1 hf ((oth e (Ne.symm hTe)).trans he) (Array.getElem?_eq_some_iff.mp h1).1 fun h' T' t' n' k'=>h h' T' t' ?_ ?_
 ·have z:h1'.objs.size=s.heap.objs.size:=by rw [← hu];exact Heap.size_update ..
  rw [← z];exact n'
 ·refine⟨fun b o hb hf' q=>k'.keep b o (fun z=>hb (by simp at z;simp [z])) hf' ((oth b fun z=>hb (by simp [z])).trans q),fun b o hb q=>k'.slot b o (fun z=>hb (by simp at z;simp [z])) ((oth b fun z=>hb (by simp [z])).trans q)⟩
theorem land {Q:Unit→Shared→Prop} {fs:List Addr} (ht:Tr s.heap e C dd T fl) (h:∀ h',Tr h' e C dd T .none→Kp fs [T] s.heap h'→Q () { s with heap:=h' }):wpAny M A (setFlight (.ref e) none) Q E s:=by
 obtain⟨vs,sl,oT,ts,he,h1,hTe,hT,hdT,h3⟩:=ht
 unfold setFlight
 refine wpAny_bind (wpAny_field he rfl h1 ?_)
 rw [if_pos (show (Value.ref T != Value.none)=true from by simp)]
 have hsz:=(Array.getElem?_eq_some_iff.mp h3).1
 refine wpAny_setField hT hdT hsz (h _ ?_ ?_)
 ·refine⟨vs,sl,_,_,(Heap.get?_update_other _ _ hTe).trans he,h1,hTe,Heap.get?_update_self _ hT (Obj.isFreed_of_fields (Obj.data_mapFields hdT _)),Obj.data_mapFields hdT _,by simp [hsz]⟩
 ·refine⟨fun b o hb _ q=>(Heap.get?_update_other _ _ fun z=>hb (by simp [z])).trans q,fun b o hb q=>⟨o.slots,(Heap.get?_update_other _ _ fun z=>hb (by simp [z])).trans q⟩⟩
theorem oQ {vs:Array Value} {sl:Array (Option Value)} {Q:Unit→Shared→Prop} (hfr:A.frames=some (env::outer)) (hl:s.heap.FunFrames base (env::outer)) (hf:env.frame=some L)
  (he:s.heap.get? e=some ⟨C,dd,.fields vs,sl⟩) (h1:vs[1]?=some .none)
  (h:∀ h' T,Tr h' e C dd T .none→s.heap.objs.size≤T→Kp (gD (env::outer)) [e] s.heap h'→Q () { s with heap:=h' }):wpAny M A (leaving env (.ref e)) Q E s:=by
 unfold leaving
 refine wpAny_bind (qM hfr hl hf he h1 fun h1' T t1 n1 k1=>?_)
 refine land (fs:=gD (env::outer)) t1 fun h2 t2 k2=>h h2 T t2 n1 ⟨fun b o hb hf' q=>?_,fun b o hb q=>?_⟩
 ·exact k2.keep b o (fun z=>by simp at z;rw [z] at q;exact absurd (Heap.lt_size q) (Nat.not_lt.mpr n1)) hf' (k1.keep b o hb hf' q)
 ·obtain⟨s1,q1⟩:=k1.slot b o hb q
  obtain⟨s2,q2⟩:=k2.slot b _ (fun z=>by simp at z;rw [z] at q;exact absurd (Heap.lt_size q) (Nat.not_lt.mpr n1)) q1
  exact⟨s2,q2⟩
theorem qI {Q:Unit→Shared→Prop} (hfr:A.frames=some (env::outer)) (hl:s.heap.FunFrames base (env::outer)) (hf:env.frame=some L) (ht:Tr s.heap e C dd T .none)
  (h:∀ h' T',Tr h' e C dd T' .none→s.heap.objs.size≤T'→Kp (gD (env::outer)) [e,T] s.heap h'→Q () { s with heap:=h' }):wpAny M A (leaving env (.ref e)) Q E s:=by
 unfold leaving
 refine wpAny_bind (uc hfr hl hf ht fun h1' T' t1 n1 k1=>?_)
 refine land (fs:=gD (env::outer)) t1 fun h2 t2 k2=>h h2 T' t2 n1 ⟨fun b o hb hf' q=>?_,fun b o hb q=>?_⟩
 ·exact k2.keep b o (fun z=>by simp at z;rw [z] at q;exact absurd (Heap.lt_size q) (Nat.not_lt.mpr n1)) hf' (k1.keep b o hb hf' q)
 ·obtain⟨s1,q1⟩:=k1.slot b o hb q
  obtain⟨s2,q2⟩:=k2.slot b _ (fun z=>by simp at z;rw [z] at q;exact absurd (Heap.lt_size q) (Nat.not_lt.mpr n1)) q1
  exact⟨s2,q2⟩
end
end L2
namespace L2
open PySem PySem.Spec PyProof.Rows PySem.W
def XO (x C:Addr) (dd:Option Addr):HO:=.ext fun h=>∃ vs sl,h.get? x=some ⟨.ref C,dd,.fields vs,sl⟩
def XN (x C:Addr) (dd:Option Addr):HO:=.ext fun h=>∃ t sl,h.get? x=some ⟨.ref C,dd,.fields #[.ref t,.none,.none,.none,.bool false,.none],sl⟩
section
variable {P:Program} {w:World} {H H':Hp} {h h':Heap} {x C:Addr} {dd:Option Addr}
theorem XO.ok {vs:Array Value} {sl:Array (Option Value)} (e:h.get? x=some ⟨.ref C,dd,.fields vs,sl⟩):bo P w H h x (XO x C dd) :=
 ⟨⟨vs,sl,e⟩,⟨_,e⟩,fun _ _ ⟨vs,sl,q⟩ k=>⟨vs,sl,k _ q⟩⟩
theorem XN.ok {t:Addr} {sl:Array (Option Value)} (e:h.get? x=some ⟨.ref C,dd,.fields #[.ref t,.none,.none,.none,.bool false,.none],sl⟩):bo P w H h x (XN x C dd) :=
 ⟨⟨t,sl,e⟩,⟨_,e⟩,fun _ _ ⟨vs,sl,q⟩ k=>⟨vs,sl,k _ q⟩⟩
theorem XN.get (hok:fF P w H h) (e:H x=some (XN x C dd)):∃ t sl,h.get? x=some ⟨.ref C,dd,.fields #[.ref t,.none,.none,.none,.bool false,.none],sl⟩:=by
 obtain⟨q,_⟩:=(show bo P w H h x (XN x C dd) from hok x _ e)
 exact q
end
def dJ (P:Program) (w:World):jN:=fun outer H s E e s'=>∃(x C T:Addr) (dd:Option Addr) (H':Hp),e=.ref x∧s'.os=s.os∧AllBare s'.gens∧Un (gD outer) [] H H' s.heap s'.heap∧fF P w H' s'.heap ∧
 Tr s'.heap x (.ref C) dd T .none∧s.heap.get? x=none∧s.heap.get? T=none∧H' T=none∧H' x=some (XO x C dd)∧E (.ref C) (some x) H'
theorem rW {base h h':Heap} {H H':Hp} {ex:List Addr}:∀{l:List Env} {fs:List Addr},h.FunFrames base l→Un fs ex H H' h h'→(∀ b∈gD l,H b=none)→(∀ b∈gD l,b∉ex)→h'.FunFrames base l
 | [],_,_,_,_,_=>trivial
 | env::r,fs,hl,u,hn,hx=>by
  obtain⟨hk,⟨L,o,hf,hb,ho,hd⟩,hr⟩:=hl
  have hL:L∈gD (env::r):=by unfold gD;rw [List.filterMap_cons,hf];exact List.mem_cons_self
  have sub:∀ b∈gD r,b∈gD (env::r):=fun b hb'=>by unfold gD;rw [List.filterMap_cons,hf];exact List.mem_cons_of_mem _ hb'
  obtain⟨sl,e⟩:=u.any ho (hn L hL) (hx L hL)
  exact⟨hk,⟨L,_,hf,hb,e,hd⟩,rW hr u (fun b hb'=>hn b (sub b hb')) fun b hb'=>hx b (sub b hb')⟩
theorem rV {P:Program} {w:World} {H':Hp} {h h':Heap} {x C:Addr} {dd:Option Addr} {fs ch:List Addr} (hok:fF P w H' h) (k:Kp fs ch h h') (hch:∀ b∈ch,b=x∨H' b=none) (hfs:∀ b∈fs,H' b=none)
  (hx:H' x=some (XO x C dd)) {vs:Array Value} {sl:Array (Option Value)} (e:h'.get? x=some ⟨.ref C,dd,.fields vs,sl⟩):fF P w H' h':=by
 intro b o q
 by_cases hb:b=x
 ·subst hb
  rw [hx] at q
  cases q
  exact XO.ok e
 ·refine (hok b o q).gE (fun c u hc r=>k.keep c u (fun z=>?_) (fun z=>?_) r) (fun _ r=>r) fun _ _ r=>r
  ·rcases hch c z with q1 | q1
   ·rcases hc with q2 | q2
    ·exact hb (q2.symm.trans q1)
    ·rw [q1,hx] at q2;cases q2
   ·rcases hc with q2 | q2
    ·rw [q2,q] at q1;cases q1
    ·rw [q2] at q1;cases q1
  ·have q1:=hfs c z
   rcases hc with q2 | q2
   ·rw [q2,q] at q1;cases q1
   ·rw [q2] at q1;cases q1
theorem km {P:Program} {w:World} {K:PySem.W.Frag} {mg:Str→Option Value} {base:Heap} {N:List Str} {qual:Str} {scope:Scope} {f:Addr} {cd:Value} {A:Around} {outer:List Env} {s:Shared} {H:Hp} {E:XK} :
  Passes (dJ P w) (fb (dJ P w) P w K mg base N qual scope f cd A outer s H E) E:=by
 intro pins σ H1 s1 e s' I hq
 obtain⟨x,C,T,dd,H',rfl,os,bare,un,hok,tr,nx,nT,hT,hx,hE⟩:=hq
 have hl:=rW I.stack un I.iE (fun b _=>by simp)
 have frN:∀ b∈gD (envOfC qual scope s.heap.objs.size f cd::outer),H' b=none:=fun b hb=>by
  obtain⟨_,o,ho,_⟩:=I.stack.mem hb
  exact un.free b o ho (I.iE b hb) (by simp)
 show wpAny (model P w) (A.deeper (envOfC qual scope s.heap.objs.size f cd)) (leaving (envOfC qual scope s.heap.objs.size f cd) (.ref x)) _ _ s'
 refine qI (L:=s.heap.objs.size) I.ok.frames hl rfl tr fun h'' T' t' n' k'=>?_
 have old:∀ b o,s.heap.get? b=some o→b∉[x,T]:=fun b o q hb=>by
  obtain⟨o1,q1⟩:=I.base.there b o q (by intro z;exact absurd (show b∈([]:List Addr) from z) (by simp))
  rcases List.mem_cons.mp hb with z | z
  ·rw [z,nx] at q1;cases q1
  ·rw [List.mem_singleton.mp z,nT] at q1;cases q1
 have nex:∀ b:Addr,b∉(fb (dJ P w) P w K mg base N qual scope f cd A outer s H E).ex:=fun b z=>absurd (show b∈([]:List Addr) from z) (by simp)
 have nfr:∀ b o,s.heap.get? b=some o→b∉gD outer→b∉gD (envOfC qual scope s.heap.objs.size f cd::outer):=fun b o q hb hm=>by
  rcases List.mem_cons.mp (I.gc b hm) with z | z
  ·exact absurd (Heap.lt_size q) (by rw [z];exact Nat.lt_irrefl _)
  ·exact hb z
 obtain⟨vs,sl,oT,ts,he,r'⟩:=t'
 have tr':Tr h'' x (.ref C) dd T' .none:=⟨vs,sl,oT,ts,he,r'⟩
 refine⟨x,C,T',dd,H',rfl,os.trans I.os,bare,?_,?_,tr',?_,?_,hok.fresh n',hx,hE⟩
 ·refine⟨fun b o q nn hb _=>?_,fun b o q nn hb _=>?_,fun b o q nn _=>?_,fun b o q _=>?_,fun b xs q=>un.tups b xs (I.base.tups b xs q),fun b o xs q=>un.frzs b o xs (I.base.frzs b o xs q),fun b ps q=>?_⟩
  ·have q1:=I.base.keep b o q nn hb (nex b)
   have q2:=un.keep b o q1 (I.base.free b o q nn (nex b)) (nfr b o q hb) (by simp)
   exact k'.keep b o (old b o q) (nfr b o q hb) q2
  ·obtain⟨s1',q1⟩:=I.base.slot b o q nn hb (nex b)
   obtain⟨s2',q2⟩:=un.any q1 (I.base.free b o q nn (nex b)) (by simp)
   obtain⟨s3',q3⟩:=k'.slot b _ (old b o q) q2
   exact⟨s3',q3⟩
  ·obtain⟨o1,q1⟩:=I.base.there b o q (nex b)
   exact un.free b o1 q1 (I.base.free b o q nn (nex b)) (by simp)
  ·obtain⟨o1,q1⟩:=I.base.there b o q (nex b)
   obtain⟨o2,q2⟩:=un.there b o1 q1 (by simp)
   obtain⟨s3',q3⟩:=k'.slot b _ (old b o q) q2
   exact⟨_,q3⟩
  ·obtain⟨m1,e1⟩:=I.base.tbls b ps q
   obtain⟨m2,e2⟩:=un.tbls b _ e1
   exact⟨m1++m2,by rw [e2,Array.append_assoc]⟩
 ·exact rV hok k' (fun b hb=>by
   rcases List.mem_cons.mp hb with z | z
   ·exact .inl z
   ·exact .inr (by rw [List.mem_singleton.mp z];exact hT)) frN hx he
 ·cases q:s.heap.get? x with
  | none=>rfl
  | some o=>exact absurd (List.mem_cons_self) (old x o q)
 ·cases q:s.heap.get? T' with
  | none=>rfl
  | some o =>
   obtain⟨o1,q1⟩:=I.base.there T' o q (nex T')
   obtain⟨o2,q2⟩:=un.there T' o1 q1 (by simp)
   exact absurd (Heap.lt_size q2) (Nat.not_lt.mpr n')
section
variable {prog:Program} {w:World} {A:Around} {E:Value→Shared→Prop} {s:Shared} {K:PySem.W.Frag} {env:Env}
theorem k9 {x:Sem Value} {Q:Flow→Shared→Prop} (hh:A.handled=none)
  (h:wpAny (model prog w) A x (fun v s₁=>∃ e C t dd sl,v=.ref e∧K.In s₁.heap∧dh K C∧s₁.heap.get? e=some ⟨.ref C,dd,.fields #[.ref t,.none,.none,.none,.bool false,.none],sl⟩∧E (.ref e) s₁) E s) :
  wpAny (model prog w) A (raiseStmt env (some x) none) Q E s:=by
 unfold raiseStmt
 refine wpAny_bind (wpAny_mono h (fun v s₁ h₁=>?_) fun _ _ z=>z)
 obtain⟨e,C,t,dd,sl,rfl,X,c,he,hE⟩:=h₁
 obtain⟨hp,g,d,tk,os⟩:=s₁
 have L1:Looks (model prog w) hp (isSubtype (.ref C) (.type "BaseException")) true:=by
  obtain⟨cd,hc,hm,_⟩:=c.cls
  obtain⟨m1,m2,m3⟩:=jC hm
  exact looks_mroIn X (by unfold mroIn;rw [hc,Option.bind_some,if_neg (by rw [m3];decide),m2])
 obtain⟨od,cd,sc,hk⟩:=c.at_
 have hC:=X _ _ hk
 repeat (first | with_reducible refine wpAny_loadPart_at he ?_ | with_reducible refine wpAny_loadPart_at hC ?_ | with_reducible refine Looks.at L1 ?_ | wp_step)
 exact wpAny_raiseNew_none hh hE
end
end L2
namespace L2
open PySem PySem.Spec PyProof.Rows PySem.W
def rG (K:PySem.W.Frag) (H₀:Hp) (E:XK) (te:TE):TS:=fun _ σ H=>te σ H fun v H1=>∃ x C dd,v=.ref x∧H1 x=some (XN x C dd)∧dh K C∧H₀ x=none∧E (.ref C) (some x) (upd H1 x (XO x C dd))
section
variable {P:Program} {w:World} {K:PySem.W.Frag} {mg:Str→Option Value} {base:Heap} {N:List Str} {qual:Str} {scope:Scope} {f:Addr} {cd:Value} {A:Around} {outer:List Env} {s:Shared} {H:Hp} {E:XK}
theorem uC {pins:List (Addr × Obj)} {σ:St} {H2:Hp} {s2:Shared} {x C:Addr} {dd:Option Addr} (I:Inv (fb (dJ P w) P w K mg base N qual scope f cd A outer s H E) pins σ H2 s2) (hx:H2 x=some (XN x C dd)) (hn:H x=none)
  (hE:E (.ref C) (some x) (upd H2 x (XO x C dd))):(fb (dJ P w) P w K mg base N qual scope f cd A outer s H E).xe (.ref x) s2:=by
 obtain⟨t,sl,he⟩:=XN.get I.hok hx
 have nex:∀ b:Addr,b∉(fb (dJ P w) P w K mg base N qual scope f cd A outer s H E).ex:=fun b z=>absurd (show b∈([]:List Addr) from z) (by simp)
 have nx:s.heap.get? x=none:=by
  cases q:s.heap.get? x with
  | none=>rfl
  | some o =>
   have:=I.base.free x o q hn (nex x)
   rw [hx] at this
   cases this
 have old:∀ b o,s.heap.get? b=some o→b≠x:=fun b o q z=>by rw [z,nx] at q;cases q
 have nfr:∀ b o,s.heap.get? b=some o→b∉gD outer→b∉gD (envOfC qual scope s.heap.objs.size f cd::outer):=fun b o q hb hm=>by
  rcases List.mem_cons.mp (I.gc b hm) with z | z
  ·exact absurd (Heap.lt_size q) (by rw [z];exact Nat.lt_irrefl _)
  ·exact hb z
 have hok':fF P w (upd H2 x (XO x C dd)) s2.heap:=fun b o q=>by
  by_cases hb:b=x
  ·subst hb
   rw [ag] at q
   cases q
   exact XO.ok he
  ·rw [aq hb] at q
   refine (I.hok b o q).gE (fun _ _ _ r=>r) (fun c r=>?_) fun c xs r=>?_
   ·rw [aq (fun z=>by rw [z,hx] at r;cases r)];exact r
   ·rw [aq (fun z=>by rw [z,hx] at r;cases r)];exact r
 show wpAny (model P w) (A.deeper (envOfC qual scope s.heap.objs.size f cd)) (leaving (envOfC qual scope s.heap.objs.size f cd) (.ref x)) _ _ s2
 refine oQ (L:=s.heap.objs.size) I.ok.frames I.stack rfl he rfl fun h'' T t' n' k'=>?_
 obtain⟨vs,sl',oT,ts,he',r'⟩:=t'
 have tr':Tr h'' x (.ref C) dd T .none:=⟨vs,sl',oT,ts,he',r'⟩
 have nT:T≠x:=r'.2.1
 refine⟨x,C,T,dd,upd H2 x (XO x C dd),rfl,I.os,I.bare,?_,?_,tr',nx,?_,?_,ag,hE⟩
 ·refine⟨fun b o q nn hb _=>?_,fun b o q nn hb _=>?_,fun b o q nn _=>?_,fun b o q _=>?_,fun b xs q=>?_,fun b o xs q=>?_,fun b ps q=>?_⟩
  ·exact k'.keep b o (by simp [old b o q]) (nfr b o q hb) (I.base.keep b o q nn hb (nex b))
  ·obtain⟨s1',q1⟩:=I.base.slot b o q nn hb (nex b)
   obtain⟨s3',q3⟩:=k'.slot b _ (by simp [old b o q]) q1
   exact⟨s3',q3⟩
  ·rw [aq (old b o q)]
   exact I.base.free b o q nn (nex b)
  ·obtain⟨o1,q1⟩:=I.base.there b o q (nex b)
   obtain⟨s3',q3⟩:=k'.slot b _ (by simp [old b o q]) q1
   exact⟨_,q3⟩
  ·have:=I.base.tups b xs q
   rw [aq (fun z=>by rw [z,hx] at this;cases this)];exact this
  ·have:=I.base.frzs b o xs q
   rw [aq (fun z=>by rw [z,hx] at this;cases this)];exact this
  ·obtain⟨m1,e1⟩:=I.base.tbls b ps q
   exact⟨m1,by rw [aq (fun z=>by rw [z,hx] at e1;cases e1)];exact e1⟩
 ·exact rV hok' k' (fun b hb=>.inl (by simpa using hb)) (fun b hb=>by
   have z:=I.iE b hb
   rw [aq (fun y=>by rw [y,hx] at z;cases z)];exact z) ag he'
 ·cases q:s.heap.get? T with
  | none=>rfl
  | some o =>
   obtain⟨o1,q1⟩:=I.base.there T o q (nex T)
   exact absurd (Heap.lt_size q1) (Nat.not_lt.mpr n')
 ·rw [aq nT]
  exact I.hok.fresh n'
theorem cT {e:Expr} {te:TE} {pos:Pos} (he:PE (fb (dJ P w) P w K mg base N qual scope f cd A outer s H E) e te):PS (fb (dJ P w) P w K mg base N qual scope f cd A outer s H E) (.Raise (some e) none pos) (rG K H E te):=by
 intro pins s1 σ H1 D I h
 rw [arm_exec_Raise]
 refine wpAny_bind (wpAny_standAt (k9 (K:=K) (I.ok.hd rfl) (wpAny_bind (bj (he pins s1 σ H1 _ I h) fun v s2 ⟨y,H2,I2,r,x,C,dd,ey,hx,c,hn,hE⟩=>?_))))
 subst ey
 obtain rfl:v=Value.ref x:=r
 obtain⟨t,sl,hg⟩:=XN.get I2.hok hx
 exact wpAny_bind (wpAny_standAt (wpAny_pure ⟨x,C,t,dd,sl,rfl,I2.fH,c,hg,uC I2 hx hn hE⟩))
end
end L2
namespace L2
open PySem PySem.Spec PyProof.Rows PySem.W
section
variable {prog:Program} {w:World} {A:Around} {E:Value→Shared→Prop} {h:Heap} {g:Array GenState} {d:Drawn} {t:Nat} {os:OsState}
variable {nm q:Str} {C N:Addr} {bs bm:List Value} {hdct:Bool} {sn:List Str} {sub:List Value} {ab:Bool} {col:Option Bool} {dd:Option Addr} {k0 k1 k2 k3 k5:Option Value}
theorem tO {R:Result→Shared→Prop} {e a:Addr} (hB:bm.contains (.type "ValueError")=true) (hC:h.get? C=some (excClassObj nm q C N bs bm hdct sn sub ab col dd k0 k1 k2 k3 k5 lj)) (he:h.get? e=some (newExc C a))
  (hq:∀ h',h'.get? e=some (newExc C h.objs.size)→(∀ b o,b≠e→h.get? b=some o→h'.get? b=some o)→R (.ok (.ret .none)) ⟨h',g,d,t,os⟩) :
  codeAny (model prog w) A (.call (.builtin "ValueError.__init__") ⟨[.ref e],[]⟩) R ⟨h,g,d,t,os⟩:=by
 have Fn:=PySem.F.excBase_ValueError
 have cB:(Value.ref C::bm).contains (.type "ValueError")=true:=by rw [List.contains_cons,hB,Bool.or_true]
 have hshort:=Fn.noStar
 refine codeAny_call_builtin Fn.init.plain Fn.initEntry ?_
 have chk:∀{Q:Unit→Shared→Prop} {E:Value→Shared→Prop} {A:Around},Q () ⟨h,g,d,t,os⟩→wpAny (model prog w) A (checkBuiltinCall "ValueError.__init__" ⟨[.ref e],[]⟩) Q E ⟨h,g,d,t,os⟩:=by
  intro Q E A hq
  simp only [checkBuiltinCall,Fn.initKind,Fn.initSplit,Fn.initRow]
  repeat (first | with_reducible refine wpAny_loadPart_at he ?_ | with_reducible refine wpAny_loadPart_at hC ?_ | (with_reducible refine wpAny_isSubtype_exc hC ?_;rw [cB]) | wp_step)
  exact hq
 refine chk ?_
 wp_walk
 have hp:=Heap.get?_push_of_some (h:=h) { cls:=.type "tuple",data:=.seq ([]:List Value).toArray } he
 refine hq _ ?_ fun b o hb z=>?_
 ·exact Heap.get?_update_self _ hp rfl
 ·rw [Heap.get?_update_other _ _ (Ne.symm hb)]
  exact Heap.get?_push_of_some _ z
end
end L2
namespace L2
open PySem PySem.Spec PyProof.Rows PySem.W
def CI (K:PySem.W.Frag) (ta tv:TE) (f:Str):TS:=fun D σ H=>tv σ H fun y H1=>ta σ H1 fun xv H2=>∃ x C,xv=.ref x∧H2 x=some (XN x C none)∧dh K C∧findIn K (.ref C) f=some none ∧
 ∀ dx,H2 dx=none→dx≠x→D.nx σ (upd (upd H2 dx (.xd [(f,y)])) x (XN x C (some dx)))
section
variable {X:Cx} {o value:Expr} {f:Str} {pos pos':Pos} {ta tv:TE}
theorem zj (ha:PE X o ta) (hv:PE X value tv) (hs:swapsWith value (some (.Attribute o f pos')) pos.line X.env=pure false:=by rfl):PS X (.Assign [.Attribute o f pos'] value pos) (CI X.K ta tv f):=by
 intro pins s σ H D I h
 refine plainObj_wpAny_Assign_Attribute (bj (hv pins s σ H _ I h) fun u s1 ⟨y,H1,I1,ry,q⟩=>bj (ha pins s1 σ H1 _ I1 q) fun ov s2 ⟨xv,H2,I2,rx,x,C,ex,hx,c,hf,q2⟩=>?_) hs
 subst ex
 obtain rfl:ov=Value.ref x:=rx
 obtain⟨t,sl,hg⟩:=XN.get I2.hok hx
 obtain⟨cd,hc,hm,hh⟩:=c.cls
 refine yq I2.fH hg hc hm hh c.sa hf fun h' g1 g2 g3=>?_
 have hd0:H2 s2.heap.objs.size=none:=I2.hok.fresh (Nat.le_refl _)
 have hne:s2.heap.objs.size≠x:=fun z=>by rw [z,hx] at hd0;cases hd0
 have bx:∀ b,H2 b=none→b≠x:=fun b z y=>by rw [y,hx] at z;cases z
 have bd:∀ b o,s2.heap.get? b=some o→b≠s2.heap.objs.size:=fun b o q=>Nat.ne_of_lt (Heap.lt_size q)
 have tb:∀ b u,H2 b=some u→b≠s2.heap.objs.size:=fun b u q z=>by rw [z,hd0] at q;cases q
 refine⟨σ,upd (upd H2 s2.heap.objs.size (.xd [(f,y)])) x (XN x C (some s2.heap.objs.size)),I2.un ⟨fun b o q n _ _=>g3 b o (bx b n) q,fun b o q n _ _=>⟨o.slots,g3 b o (bx b n) q⟩,fun b o q n _=>?_,fun b o q _=>?_,fun b xs q=>?_,fun b o xs q=>?_,fun b ps q=>?_⟩ ?_,q2 _ hd0 hne⟩
 ·rw [aq (bx b n),aq (bd b o q)];exact n
 ·by_cases z:b=x
  ·exact⟨_,by rw [z];exact g1⟩
  ·exact⟨o,g3 b o z q⟩
 ·rw [aq (fun z=>by rw [z,hx] at q;cases q),aq (tb b _ q)];exact q
 ·rw [aq (fun z=>by rw [z,hx] at q;cases q),aq (tb b _ q)];exact q
 ·exact⟨#[],by rw [aq (fun z=>by rw [z,hx] at q;cases q),aq (tb b _ q),q];simp⟩
 ·intro b o q
  by_cases z:b=x
  ·subst z
   rw [ag] at q
   cases q
   exact XN.ok g1
  ·rw [aq z] at q
   by_cases z2:b=s2.heap.objs.size
   ·subst z2
    rw [ag] at q
    cases q
    refine⟨_,g2,fun k=>?_⟩
    show eF (List.lookup k [(f,y)]) (if k=f then some u else none)
    by_cases e:k=f
    ·subst e
     rw [if_pos rfl,List.lookup_cons,beq_self_eq_true]
     exact ry
    ·have e':(k==f)=false:=by simpa using e
     rw [if_neg e,List.lookup_cons,e']
     exact True.intro
   ·rw [aq z2] at q
    refine (I2.hok b o q).gE (fun c' u' hc' r=>g3 c' u' (fun z3=>?_) r) (fun c' r=>?_) fun c' xs r=>?_
    ·rcases hc' with e | e
     ·exact z (e.symm.trans z3)
     ·rw [z3,hx] at e;cases e
    ·rw [aq (fun z3=>by rw [z3,hx] at r;cases r),aq (tb c' _ r)];exact r
    ·rw [aq (fun z3=>by rw [z3,hx] at r;cases r),aq (tb c' _ r)];exact r
end
structure zK (K:PySem.W.Frag) (C:Addr):Prop where
 obj:∃ nm q N bs bm hdct sn sub ab col dd k0 k1 k2 k3 k5,K.lookup C=some (excClassObj nm q C N bs bm hdct sn sub ab col dd k0 k1 k2 k3 k5 lj)∧bm.contains (.type "ValueError")=true∧bm.contains (.type "AttributeError")=false∧bm.contains (.type "NameError")=false
 kp:keepIn K (.ref C)=true
def nB (K:PySem.W.Frag) (f:Str):Sp:=fun vs H Q _=>∃ x C v,vs=[.ref x,v]∧H x=some (XN x C none)∧dh K C∧findIn K (.ref C) f=some none ∧
 ∀ dx,H dx=none→dx≠x→Q .non (upd (upd H dx (.xd [(f,v)])) x (XN x C (some dx)))
def zy (C:Addr) (f:Str) (t:TA):TE:=fun σ H Q=>t σ H fun vs H1=>∃ v,vs=[v]∧∀ x dx,H1 x=none→H1 dx=none→dx≠x→Q (.ref x) (upd (upd (upd H1 x (XN x C none)) dx (.xd [(f,v)])) x (XN x C (some dx)))
def zx (C:Addr):TE:=fun _ H Q=>∀ x,H x=none→Q (.ref x) (upd H x (XN x C none))
section
variable {X:Cx} {C fi:Addr} {fd:FuncData} {p f x:Str} {k:Nat} {pos np:Pos} {e:Expr} {t:TA}
theorem Inv.newExc {pins:List (Addr × Obj)} {σ:St} {H:Hp} {s:Shared} (I:Inv X pins σ H s) (us:List Value):Inv X pins σ (upd H (s.heap.objs.size+1) (XN (s.heap.objs.size+1) C none))
  { s with heap:=(s.heap.push { cls:=.type "tuple",data:=.seq us.toArray }).push (L2.newExc C s.heap.objs.size) }:=by
 have I1:Inv X pins σ H { s with heap:=s.heap.push { cls:=.type "tuple",data:=.seq us.toArray } }:=I.kept (t':=s.toks) fun b u q=>Heap.get?_push_of_some _ q
 refine I1.laid (a:=s.heap.objs.size+1) (t':=s.toks) (fun b u q=>Heap.get?_push_of_some _ q) (Nat.le_of_eq (Heap.size_push _ _)) ?_
 refine XN.ok (t:=s.heap.objs.size) (sl:=#[]) ?_
 have:=Heap.get?_push_size (s.heap.push { cls:=.type "tuple",data:=.seq us.toArray }) (o:=L2.newExc C s.heap.objs.size) rfl
 rwa [Heap.size_push] at this
theorem ux (M:zK X.K C) (c:dh X.K C) (hi:findIn X.K (.ref C) "__init__"=some (some (.ref fi))) (fn:isFn X.K (.ref fi)=true) (hf:findIn X.K (.ref C) f=some none) (F:cQ X.prog X.w X.K X.mg X.base aK k fi fd ["self",p] (nB X.K f)) (hr:bM (k+1) X.A) (hg:Gl X x)
  (hm:X.mg x=some (.ref C)) (hb:Binds X.K fd ["self",p] []) (ha:PA X [e] t) (hdb:(x==("__debug__":Str))=false:=by decide) (he:starEach [e] X.env=(false,eval e X.env)::starEach [] X.env:=by rfl) (hpl:(backTo pos (starEach [] X.env)).any (·.1)=false:=by rfl) :
  PE X (.Call (.Name x np) [e] [] pos) (zy C f t):=by
 intro pins s σ H Q I h
 refine wpAny_Call_Name_kw (hZ I hg hm ?_ hdb)
 refine PySem.W.callWith_K (h₀:=X.base) I.ok.mod.kin M.kp (bj (ha pos pins s σ H _ I h) fun us s1 ⟨vs,H1,I1,r,q⟩=>⟨I1.fH,?_⟩) he hpl
 obtain⟨v,rfl,q⟩:=q
 obtain⟨u,rfl,ru⟩:=vals1 r
 obtain⟨nm,qn,Nn,bs,bm,hdct,sn,sub,ab,col,dd,k0,k1,k2,k3,k5,hk,hB,hA,hN⟩:=M.obj
 have I2:=Inv.newExc (C:=C) I1 [u]
 have n1:H1 (s1.heap.objs.size+1)=none:=I1.hok.fresh (Nat.le_succ _)
 have r2:Vals [V.ref (s1.heap.objs.size+1),v] [Value.ref (s1.heap.objs.size+1),u]:=.cons rfl (.cons ru .nil)
 have hq:nB X.K f [V.ref (s1.heap.objs.size+1),v] (upd H1 (s1.heap.objs.size+1) (XN (s1.heap.objs.size+1) C none)) (fun z H3=>z=.non∧Q (.ref (s1.heap.objs.size+1)) H3) E0 :=
  ⟨_,C,v,rfl,ag,c,hf,fun dx hd hne=>⟨rfl,q _ dx n1 (by rw [aq hne] at hd;exact hd) hne⟩⟩
 obtain⟨hh,g,d,tk,os⟩:=s1
 refine oI (K:=X.K) I1.fH hB hA hN (I1.fH _ _ hk) (by show 1≤sizeLine;decide) hi (bind_fn I1.fH _ (beq_iff_eq.mp fn)) ?_
 refine codeAny_mono (F.run _ X.stack _ _ ⟨[Value.ref (hh.objs.size+1),u],[]⟩ [Value.ref (hh.objs.size+1),u] _ _ E0 (hr.make C [u] []) (I2.Az.make C [u] []) (by have:=hb _ [Value.ref (hh.objs.size+1),u] I2.fH rfl;rwa [List.append_nil] at this) r2 hq) fun r s' hq'=>?_
 cases r with
 | error e=>exact False.elim hq'
 | ok fl =>
  cases fl with
  | ret u' =>
   obtain⟨v',H',I3,rv,ev,q3⟩:=I2.after hq'
   subst ev
   exact⟨rv,⟨V.ref (hh.objs.size+1),H',I3,rfl,q3⟩⟩
  | next=>exact False.elim hq'
  | brk=>exact False.elim hq'
  | cont=>exact False.elim hq'
theorem uw (M:zK X.K C) (hi:findIn X.K (.ref C) "__init__"=some (some (.builtin "ValueError.__init__"))) (hg:Gl X x) (hm:X.mg x=some (.ref C)) (hdb:(x==("__debug__":Str))=false:=by decide) :
  PE X (.Call (.Name x np) [] [] pos) (zx C):=by
 intro pins s σ H Q I h
 refine wpAny_Call_Name_kw (hZ I hg hm ?_ hdb)
 refine PySem.W.callWith_K0 I.fH M.kp ?_
 obtain⟨nm,qn,Nn,bs,bm,hdct,sn,sub,ab,col,dd,k0,k1,k2,k3,k5,hk,hB,hA,hN⟩:=M.obj
 have I2:=Inv.newExc (C:=C) I []
 have n1:H (s.heap.objs.size+1)=none:=I.hok.fresh (Nat.le_succ _)
 have Fn:=PySem.F.excBase_ValueError
 obtain⟨hh,g,d,tk,os⟩:=s
 have hC:=I.fH _ _ hk
 refine oI (K:=X.K) I.fH hB hA hN hC (by show 0≤sizeLine;decide) hi (j:=.builtin "ValueError.__init__") (Looks.of_pure (Fn.init.bind _)) ?_
 have hC2:((hh.push { cls:=.type "tuple",data:=.seq ([]:List Value).toArray }).push (L2.newExc C hh.objs.size)).get? C=some _:=Heap.get?_push_of_some _ (Heap.get?_push_of_some _ hC)
 have he2:((hh.push { cls:=.type "tuple",data:=.seq ([]:List Value).toArray }).push (L2.newExc C hh.objs.size)).get? (hh.objs.size+1)=some (L2.newExc C hh.objs.size):=by
  have:=Heap.get?_push_size (hh.push { cls:=.type "tuple",data:=.seq ([]:List Value).toArray }) (o:=L2.newExc C hh.objs.size) rfl
  rwa [Heap.size_push] at this
 refine tO hB hC2 he2 fun h' g1 g3=>⟨rfl,.ref (hh.objs.size+1),_,?_,rfl,h _ n1⟩
 have e:upd (upd H (hh.objs.size+1) (XN (hh.objs.size+1) C none)) (hh.objs.size+1) (XN (hh.objs.size+1) C none)=upd H (hh.objs.size+1) (XN (hh.objs.size+1) C none):=by
  funext b
  by_cases z:b=hh.objs.size+1
  ·rw [z,ag,ag]
  ·rw [aq z]
 have W:=I2.write (x:=hh.objs.size+1) (e:=hh.objs.size+1) (o:=XN (hh.objs.size+1) C none) (h':=h') (t':=tk) (by rw [ag];exact True.intro) (.inl rfl) (fun b u hb q=>g3 b u hb q) ⟨_,g1⟩ (XN.ok g1)
 rw [e] at W
 exact W
end
end L2
namespace L2
open PySem PySem.Spec PyProof.Rows PySem.W
def Di (H:Hp) (x C:Addr) (dd:Option Addr):Prop:=H x=some (XO x C dd)∨H x=some (XN x C dd)
def DT (K:PySem.W.Frag) (ta:TE) (f:Str):TE:=fun σ H Q=>ta σ H fun xv H1=>∃ x C dx fs v,xv=.ref x∧Di H1 x C (some dx)∧dh K C∧findIn K (.ref C) f=some none∧H1 dx=some (.xd fs)∧fs.lookup f=some v∧Q v H1
section
variable {X:Cx} {e:Expr} {f:Str} {pos:Pos} {ta:TE}
end
end L2
namespace L2
open PySem PySem.Spec PyProof.Rows PySem.W
section
variable {prog:Program} {w:World} {A:Around} {E:Value→Shared→Prop} {K:PySem.W.Frag} {h:Heap} {g:Array GenState} {d:Drawn} {t:Nat} {os:OsState} {x C B:Addr}
end
end L2
namespace L2
open PySem PySem.Spec PyProof.Rows PySem.W
section
variable {M:Model} {A:Around} {E:Value→Shared→Prop} {s:Shared}
end
end L2
namespace L2
open PySem PySem.Spec PyProof.Rows PySem.W
section
variable {X:Cx} {pins:List (Addr × Obj)} {σ:St} {H:Hp} {s:Shared} {M:Model} {A:Around} {E:Value→Shared→Prop}
end
end L2
namespace L2
open PySem PySem.Spec PyProof.Rows PySem.W
section
variable {X:Cx} {pins:List (Addr × Obj)} {σ:St} {H:Hp} {s:Shared} {x:Addr}
def vt (n:Option Nat) (x:Addr) (σ:St):St:=match n with | some i=>σ.set i (some (.ref x)) | none=>σ
def oN (n:Option Nat) (D:Ends):Ends:=match n with
 | some i=>{ nx:=fun σ H=>D.nx (σ.set i none) H,rt:=D.rt,bk:=fun σ H=>D.bk (σ.set i none) H,ct:=fun σ H=>D.ct (σ.set i none) H }
 | none=>D
end
end L2
namespace L2
open PySem PySem.Spec PyProof.Rows PySem.W
def CU (K:PySem.W.Frag) (B:Addr) (n:Option Nat) (sp:Sp) (ta:TA) (put:V→St→St) (ts:TS):TS:=fun D σ H=>ta σ H fun vs H1=>sp vs H1 (fun v H2=>D.nx (put v σ) H2)
 (fun cv xo H2=>∃ C x dd,cv=.ref C∧xo=some x∧H2 x=some (XO x C dd)∧dh K C∧mroIn K C (.ref B)=some true∧ts (oN n D) (vt n x σ) H2)
section
variable {X:Cx} {B:Addr} {n:Option Nat} {hd:ExceptHandler} {ts:TS}
variable {k:Nat} {f:Str} {ps:List Str} {sp:Sp} {e:Expr} {es:List Expr} {t:TA} {p cpos epos pos:Pos}
end
section
variable {P:Program} {w:World} {K:PySem.W.Frag} {mg:Str→Option Value} {base:Heap} {k:Nat} {x:Str} {ps:List Str} {sp:Sp}
theorem cj {st:Stmt} {N:List Str} (D:av K mg x st)
  (hb:∀(kV doc pm:Value) (an:Option Addr) (cdv ct:Value) (us:List Value),us.length=ps.length→bindArgs (PySem.W.fnOf x x (bz st) (aS st) (ak st) .none kV doc pm an cdv ct) ⟨us,[]⟩=pure (ps.zip us))
  (S:ay N ps (ak st)) (len:∀ vs H Q E,sp vs H Q E→vs.length=ps.length)
  (hbody:∀(f:Addr) (cdv:Value) (A:Around) (outer:List Env) (s:Shared) (H:Hp) (vs:List V) (Q:VK) (E:XK),bM k (A.deeper (envOfC x (ak st) s.heap.objs.size f cdv))→sp vs H Q E →
   ∃ t,iL (fb (dJ P w) P w K mg base N x (ak st) f cdv A outer s H E) (aS st) t∧t { nx:=fun _ H'=>Q .non H',rt:=Q } (start N vs) H):Callee P w K mg base (dJ P w) (k+1) x ps sp:=by
 obtain⟨f,fd,F,hm⟩:=D
 obtain⟨oc,od,kV,doc,pm,an,cdv,ct,osl,rfl,lk,hcd⟩:=F.ex
 exact⟨f,_,vh lk hcd S len fun A outer s H vs Q E hr h=>hbody f cdv A outer s H vs Q E hr h,hm,F.kp,F.binds hb⟩
end
end L2
namespace L2
open PySem PySem.Spec PyProof.Rows PySem.W
theorem yv {P:Program} {w:World} {K:PySem.W.Frag} {mg:Str→Option Value} {base:Heap} {qual f p:Str} {st:Stmt} {fi:Addr} {fd:FuncData} {p1 p2 p3 p4:Pos} (F:uL K "__init__" qual st fi fd) (S:ay ["self",p] ["self",p] (ak st))
  (hb:aS st=[.Assign [.Attribute (.Name "self" p1) f p2] (.Name p p3) p4]) (h1:(ak st).names.lookup ("self":Str)=some .local) (h2:(ak st).names.lookup p=some .local) (hd:(p==("__debug__":Str))=false) (hcd:(p==("__classdict__":Str))=false)
  (ab:∀ env:Env,attributeBase (.Name "self" p1) f env (eval (.Name "self" p1) env)=eval (.Name "self" p1) env) (sw:∀ env:Env,swapsWith (.Name p p3) (some (.Attribute (.Name "self" p1) f p2)) p4.line env=pure false):cQ P w K mg base aK 1 fi fd ["self",p] (nB K f):=by
 refine F.ok S (fun vs H Q E h=>?_) (fun cdv A outer s H vs Q E hr h=>?_)
 ·obtain⟨x,C,v,rfl,_⟩:=h
  rfl
 ·obtain⟨x,C,v,rfl,hx,c,hf,q⟩:=h
  rw [hb]
  refine⟨_,aj (zj (qZ (i:=0) rfl (.inl h1) (by decide) (by decide)) (qZ (i:=1) rfl (.inl h2) hd hcd) (sw _)),?_⟩
  exact⟨v,rfl,.ref x,rfl,x,C,rfl,hx,c,hf,fun dx n ne=>q dx n ne⟩
structure nR (P:Program) (w:World) (K:PySem.W.Frag) (mg:Str→Option Value) (base:Heap) (x:Str) (C:Addr) (f:Str):Prop where
 mkd:zK K C
 cls:dh K C
 at_:mg x=some (.ref C)
 nof:findIn K (.ref C) f=some none
 ex:∃ fi fd p,findIn K (.ref C) "__init__"=some (some (.ref fi))∧isFn K (.ref fi)=true∧cQ P w K mg base aK 1 fi fd ["self",p] (nB K f)∧Binds K fd ["self",p] []
structure tw (K:PySem.W.Frag) (mg:Str→Option Value) (x:Str) (C:Addr):Prop where
 mkd:zK K C
 cls:dh K C
 at_:mg x=some (.ref C)
 ini:findIn K (.ref C) "__init__"=some (some (.builtin "ValueError.__init__"))
section
variable {X:Cx} {C:Addr} {f x:Str} {pos np:Pos} {e:Expr} {t:TA}
theorem kA (c:nR X.prog X.w X.K X.mg X.base x C f) (hr:bM 2 X.A) (hg:Gl X x) (ha:PA X [e] t) (hdb:(x==("__debug__":Str))=false:=by decide)
  (he:starEach [e] X.env=(false,eval e X.env)::starEach [] X.env:=by rfl) (hpl:(backTo pos (starEach [] X.env)).any (·.1)=false:=by rfl):PE X (.Call (.Name x np) [e] [] pos) (zy C f t):=by
 obtain⟨fi,fd,p,hi,fn,F,hb⟩:=c.ex
 exact ux c.mkd c.cls hi fn c.nof F hr hg c.at_ hb ha hdb he hpl
theorem mY (c:tw X.K X.mg x C) (hg:Gl X x) (hdb:(x==("__debug__":Str))=false:=by decide):PE X (.Call (.Name x np) [] [] pos) (zx C):=uw c.mkd c.ini hg c.at_ hdb
end
end L2
namespace L2
open PySem PySem.Spec PyProof.Rows PySem.W
inductive Ah (K:PySem.W.Frag) (H:Hp):Nat→V→V→Bool→Prop
 | flat {d:Nat} {y x:V}:dB y=true→dB x=true→Ah K H d y x (oH y x)
 | same {d:Nat} {p:Addr}:Ah K H d (.ref p) (.ref p) true
 | lists {d:Nat} {p q:Addr} {xs ys:List V} {e:Nat→Bool}:p≠q→aX K H p xs→aX K H q ys→xs.length=ys.length→(∀ j y x,xs[j]?=some y→ys[j]?=some x→Ah K H d y x (e j))→Ah K H (d+1) (.ref p) (.ref q) ((List.range xs.length).all e)
 | unlike {d:Nat} {p q:Addr} {xs ys:List V}:p≠q→aX K H p xs→aX K H q ys→xs.length≠ys.length→Ah K H (d+1) (.ref p) (.ref q) false
 | tups {d:Nat} {p q:Addr} {xs ys:List V} {e:Nat→Bool}:p≠q→bC K H p xs→bC K H q ys→(∀ j y x,xs[j]?=some y→ys[j]?=some x→Ah K H d y x (e j))→Ah K H (d+1) (.ref p) (.ref q) ((List.range (min xs.length ys.length)).all e && xs.length==ys.length)
section
variable {X:Cx} {pins:List (Addr × Obj)} {σ:St} {H:Hp} {s:Shared}
end
end L2
namespace L2
open PySem PySem.Spec PyProof.Rows PySem.W
theorem cz {A B:Prop} (a:A) (f:A→B):B:=f a
section
variable {K:PySem.W.Frag} {mg:Str→Option Value} {h:Heap} {x f p qual:Str} {C D fi N:Addr}
section
variable {nm q:Str} {bs bm:List Value} {hdct ab:Bool} {sn:Option Str} {od:Option Addr} {cd:ClassData} {sl:Array (Option Value)}
theorem BP {o:Obj} (l:K.lookup C=some o) (ob:∃ nm q N bs bm hdct sn sub ab col dd k0 k1 k2 k3 k5,o=excClassObj nm q C N bs bm hdct sn sub ab col dd k0 k1 k2 k3 k5 lj∧bm.contains (.type "ValueError")=true∧bm.contains (.type "AttributeError")=false∧bm.contains (.type "NameError")=false) (kp:keepIn K (.ref C)=true):zK K C:=by
 obtain⟨nm,q,N,bs,bm,hdct,sn,sub,ab,col,dd,k0,k1,k2,k3,k5,e,r⟩:=ob
 subst e
 exact⟨⟨nm,q,N,bs,bm,hdct,sn,sub,ab,col,dd,k0,k1,k2,k3,k5,l,r⟩,kp⟩
theorem zD (l:K.lookup C=some ⟨.type "type",od,.cls cd,sl⟩) (h2:cp cd.mro=true) (h3:cd.hasDict=true)
  (sa:findIn K (.ref C) "__setattr__"=some (some (.builtin "object.__setattr__"))) (ga:findIn K (.ref C) "__getattribute__"=some (some (.builtin "BaseException.__getattribute__"))) (gx:findIn K (.ref C) "__getattr__"=some none)
  (ca:findIn K (.ref C) "__class__"=some (some (.builtin "object.__class__"))) (gs:specialIn K (.builtin "object.__class__") "__get__"=some (some (.builtin "getset_descriptor.__get__"))) (tk:takesIn K (.builtin "object.__class__")=some true):L2.dh K C :=
 ⟨⟨cd,by unfold clsIn;rw [l],h2,h3⟩,⟨_,_,_,l⟩,sa,ga,gx,ca,gs,tk⟩
theorem jM (a:mg x=some (.ref C)) (M:zK K C) (c:dh K C) (ini:findIn K (.ref C) "__init__"=some (some (.builtin "ValueError.__init__"))):tw K mg x C:=⟨M,c,a,ini⟩
structure mv (qual f p:Str) (st:Stmt):Prop where
 S:ay ["self",p] ["self",p] (ak st)
 hb:∃ p1 p2 p3 p4,aS st=[.Assign [.Attribute (.Name "self" p1) f p2] (.Name p p3) p4]∧(∀ env:Env,attributeBase (.Name "self" p1) f env (eval (.Name "self" p1) env)=eval (.Name "self" p1) env)∧(∀ env:Env,swapsWith (.Name p p3) (some (.Attribute (.Name "self" p1) f p2)) p4.line env=pure false)
 h1:(ak st).names.lookup ("self":Str)=some .local
 h2:(ak st).names.lookup p=some .local
 hd:(p==("__debug__":Str))=false
 hcd:(p==("__classdict__":Str))=false
 bd:∀(kV doc pm:Value) (an:Option Addr) (cdv ct:Value) (us:List Value),us.length=2→bindArgs (PySem.W.fnOf "__init__" qual (bz st) (aS st) (ak st) .none kV doc pm an cdv ct) ⟨us,[]⟩=pure ((["self",p]:List Str).zip us)
theorem nP {st:Stmt} {oc:Value} {od an:Option Addr} {osl:Array (Option Value)} {kV doc pm cdv ct:Value} (I:mv qual f p st) (a:mg x=some (.ref C)) (M:zK K C) (c:dh K C) (nof:findIn K (.ref C) f=some none)
  (ini:findIn K (.ref C) "__init__"=some (some (.ref fi))) (fn:isFn K (.ref fi)=true) (l:K.lookup fi=some ⟨oc,od,.func (PySem.W.fnOf "__init__" qual (bz st) (aS st) (ak st) .none kV doc pm an cdv ct),osl⟩) (cc:codeIn K cdv qual=true) (kk:keepIn K (.ref fi)=true) :
  ∀(P:Program) (w:World) (base:Heap),nR P w K mg base x C f:=fun P w base=>by
 obtain⟨p1,p2,p3,p4,hb,ab,sw⟩:=I.hb
 have F:=qE l cc kk
 exact⟨M,c,a,nof,fi,_,p,ini,fn,yv F I.S hb I.h1 I.h2 I.hd I.hcd ab sw,F.binds I.bd⟩
end
theorem fA {od:Option Addr} {cd:ClassData} {sl:Array (Option Value)} (_:K.In h) (_:mg x=some (.ref C)) (l:K.lookup C=some ⟨.type "type",od,.cls cd,sl⟩) (h2:cp cd.mro=true) (h3:cd.hasDict=true)
  (sa:findIn K (.ref C) "__setattr__"=some (some (.builtin "object.__setattr__"))) (ga:findIn K (.ref C) "__getattribute__"=some (some (.builtin "BaseException.__getattribute__"))) (gx:findIn K (.ref C) "__getattr__"=some none)
  (ca:findIn K (.ref C) "__class__"=some (some (.builtin "object.__class__"))) (gs:specialIn K (.builtin "object.__class__") "__get__"=some (some (.builtin "getset_descriptor.__get__"))) (tk:takesIn K (.builtin "object.__class__")=some true)
  (ob:∃ nm q N bs bm hdct sn sub ab col dd k0 k1 k2 k3 k5,(⟨.type "type",od,.cls cd,sl⟩:Obj)=excClassObj nm q C N bs bm hdct sn sub ab col dd k0 k1 k2 k3 k5 lj∧bm.contains (.type "ValueError")=true∧bm.contains (.type "AttributeError")=false∧bm.contains (.type "NameError")=false) (kp:keepIn K (.ref C)=true):dh K C∧zK K C :=
 ⟨zD l h2 h3 sa ga gx ca gs tk,BP l ob kp⟩
end
end L2
namespace Pw
theorem kF (x n:Int):∀ k:Nat,(x%n)^k%n=x^k%n
 | 0=>by rw [Int.pow_zero,Int.pow_zero]
 | k+1=>by rw [Int.pow_succ,Int.pow_succ,Int.mul_emod,kF x n k,Int.emod_emod,← Int.mul_emod]
theorem xA (b:Int):∀ k:Nat,(b*b)^k=b^(2*k)
 | 0=>by rw [Nat.mul_zero,Int.pow_zero,Int.pow_zero]
 | k+1=>by
  rw [Int.pow_succ,xA b k,Nat.mul_add,Nat.mul_one,Int.pow_succ,Int.pow_succ,Int.mul_assoc]
theorem vN (x y n:Int):x%n*y%n=x*y%n:=by rw [Int.mul_emod,Int.emod_emod,← Int.mul_emod]
theorem zV {x x' y y' n:Int} (h:x%n=x'%n) (h':y%n=y'%n):x*y%n=x'*y'%n:=by rw [Int.mul_emod,h,h',← Int.mul_emod]
theorem step (r b n:Int) (l:Nat):(if l%2=1 then r*b%n else r)*(b*b%n)^(l/2)%n=r*b^l%n:=by
 have e:(b*b%n)^(l/2)%n=b^(2*(l/2))%n:=by rw [kF,xA]
 by_cases c:l%2=1
 ·rw [if_pos c]
  have h:l=2*(l/2)+1:=by omega
  have e2:b^l=b^(2*(l/2))*b:=by rw [← Int.pow_succ];exact congrArg _ h
  rw [zV (Int.emod_emod_of_dvd (r*b) (Int.dvd_refl n)) e,e2]
  congr 1
  rw [Int.mul_assoc,Int.mul_comm b]
 ·rw [if_neg c]
  have h:l=2*(l/2):=by omega
  rw [zV (rfl:r%n=r%n) e,← h]
theorem pow_add (a:Int) (m:Nat):∀ k:Nat,a^(m+k)=a^m*a^k
 | 0=>by rw [Nat.add_zero,Int.pow_zero,Int.mul_one]
 | k+1=>by rw [← Nat.add_assoc,Int.pow_succ,pow_add a m k,Int.pow_succ,Int.mul_assoc]
theorem mul_pow (a b:Int):∀ k:Nat,(a*b)^k=a^k*b^k
 | 0=>by rw [Int.pow_zero,Int.pow_zero,Int.pow_zero,Int.mul_one]
 | k+1=>by
  rw [Int.pow_succ,Int.pow_succ,Int.pow_succ,mul_pow a b k]
  grind
theorem pow_mul (a:Int) (m:Nat):∀ k:Nat,a^(m*k)=(a^m)^k
 | 0=>by rw [Nat.mul_zero,Int.pow_zero,Int.pow_zero]
 | k+1=>by rw [Nat.mul_add,Nat.mul_one,pow_add,pow_mul a m k,Int.pow_succ]
theorem one_pow:∀ k:Nat,(1:Int)^k=1
 | 0=>Int.pow_zero 1
 | k+1=>by rw [Int.pow_succ,one_pow k,Int.mul_one]
theorem Ar {n x y:Int}:x%n=y%n↔n∣x-y:=by
 rw [Int.emod_eq_emod_iff_emod_sub_eq_zero,Int.dvd_iff_emod_eq_zero]
end Pw
namespace L2
open PySem PySem.Spec PyProof.Rows
end L2
namespace L2
open PySem PySem.Spec PyProof.Rows PySem.W
theorem Vals.rev:∀{xs:List V} {us:List Value},Vals xs us→Vals xs.reverse us.reverse
 | [],[],_=>.nil
 | x::xs,u::us,.cons r t=>by
  rw [List.reverse_cons,List.reverse_cons]
  exact (Vals.rev t).append (.cons r .nil)
def BJ (K:PySem.W.Frag) (te:TE) (tk:TO):TE:=fun σ H Q=>te σ H fun x H1=>tk σ H1 fun o H2=>o=some (-1)∧∃ a xs,x=.ref a∧aX K H2 a xs∧∀ p,H2 p=none→Q (.ref p) (upd H2 p (.lst xs.reverse))
section
variable {X:Cx} {e k:Expr} {te:TE} {tk:TO} {p2 pos:Pos}
theorem Bk (he:PE X e te) (hk:PO X (some k) tk)
  (hs:∀ a b:Addr,∃ ops,subscripted (.Slice none none (some k) p2) false (.ref a) (.ref b)=operate ops (getItem (.ref a) (.ref b)):=by intro a b;exact⟨_,by with_unfolding_all rfl⟩):PE X (.Subscript e (.Slice none none (some k) p2) pos) (BJ X.K te tk):=by
 intro pins s σ H Q I h
 refine Subscript_ (bj (he pins s σ H _ I h) fun v s1 ⟨x,H1,I1,r1,q1⟩=>?_)
 refine wpAny_Slice ?_
 rw [evalPart_none]
 refine wpAny_pure (wpAny_pure ?_)
 refine bj (hk pins s1 σ H1 _ I1 q1) fun vk s3 ⟨o,H3,I3,pk,eo,a,xs,ex,hx,q3⟩=>?_
 subst eo
 subst ex
 cases r1
 have I4:Inv X pins σ H3 { s3 with heap:=s3.heap.push { cls:=.type "slice",data:=.fields #[.none,.none,vk] } }:=I3.kept (t':=s3.toks) fun b ob q=>Heap.get?_push_of_some _ q
 obtain⟨its,r,ht,hz⟩:=I4.list hx
 have hlen:=r.length
 show wpAny (model X.prog X.w) X.A (subscriptTail e (.Slice none none (some k) p2) (.ref a) (.ref s3.heap.objs.size)) (EP X pins σ Q) X.xe { s3 with heap:=s3.heap.push { cls:=.type "slice",data:=.fields #[.none,.none,vk] } }
 obtain⟨ops,hops⟩:=hs a s3.heap.objs.size
 refine tail_any (ops:=ops) ht.isList.typeIs slot_list_getitem.lookup ?_ hops
 refine wpAny_getItem_list_slice ht.isList (Heap.IsSliceOf.new ..) .none .none pk (by simp) ?_ (by rw [List.size_toArray]<;>omega)
 rw [krv_pick]
 refine⟨.ref _,_,I4.laid (t':=s3.toks) (o:=.lst xs.reverse) (fun b ob q=>Heap.get?_push_of_some _ q) (Nat.le_refl _) ?_,rfl,q3 _ (I4.hok.fresh (Nat.le_refl _))⟩
 exact⟨by rw [List.length_reverse];exact hz,_,0,r.rev,Heap.get?_push_size _ rfl⟩
end
end L2
namespace L2
open PySem PySem.Spec PyProof.Rows PySem.W
mutual
def dv (K:PySem.W.Frag) (H:Hp):PyData→V→Prop
 | .none,v=>v=.non
 | .bool b,v=>v=.bl b
 | .int i,v=>v=.int i
 | .str x,v=>v=.str x
 | .list ds,v=>∃ p xs,v=.ref p∧aX K H p xs∧aM K H ds xs
 | .tuple ds,v=>∃ p xs,v=.ref p∧bC K H p xs∧aM K H ds xs
 | .dict _,_=>False
def aM (K:PySem.W.Frag) (H:Hp):List PyData→List V→Prop
 | [],xs=>xs=[]
 | d::ds,xs=>∃ x r,xs=x::r∧dv K H d x∧aM K H ds r
end
section
variable {K:PySem.W.Frag} {H H':Hp}
theorem Rd.same {a:Addr} {o:HO} (h:Rd H a o) (s:aB H H'):Rd H' a o:=by
 rcases h with h | ⟨b,h⟩
 ·exact .inl (s _ _ h)
 ·exact .inr ⟨b,s _ _ h⟩
theorem aX.same {a:Addr} {xs:List V} (h:aX K H a xs) (s:aB H H'):aX K H' a xs:=h.imp (fun z=>z.same s) id
theorem bC.same {a:Addr} {xs:List V} (h:bC K H a xs) (s:aB H H'):bC K H' a xs:=h.imp (fun z=>z.same s) id
mutual
theorem dv.same (s:aB H H'):∀(d:PyData) {v:V},dv K H d v→dv K H' d v
 | .none,_,h=>h
 | .bool _,_,h=>h
 | .int _,_,h=>h
 | .str _,_,h=>h
 | .list ds,_,⟨p,xs,e,h,t⟩=>⟨p,xs,e,h.same s,aM.same s ds t⟩
 | .tuple ds,_,⟨p,xs,e,h,t⟩=>⟨p,xs,e,h.same s,aM.same s ds t⟩
 | .dict _,_,h=>h.elim
theorem aM.same (s:aB H H'):∀(ds:List PyData) {xs:List V},aM K H ds xs→aM K H' ds xs
 | [],_,h=>h
 | d::ds,_,⟨x,r,e,h,t⟩=>⟨x,r,e,dv.same s d h,aM.same s ds t⟩
end
theorem aM.length:∀{ds:List PyData} {xs:List V},aM K H ds xs→xs.length=ds.length
 | [],_,h=>by cases h;rfl
 | d::ds,_,⟨x,r,e,h,t⟩=>by subst e;rw [List.length_cons,List.length_cons,aM.length t]
theorem aM.get:∀{ds:List PyData} {xs:List V},aM K H ds xs→∀{i:Nat} {x:V},xs[i]?=some x→∃ d,ds[i]?=some d∧dv K H d x
 | [],_,h,i,x,e=>by cases h;simp at e
 | d::ds,_,⟨y,r,ey,h,t⟩,0,x,e=>by subst ey;simp at e;subst e;exact⟨d,rfl,h⟩
 | d::ds,_,⟨y,r,ey,h,t⟩,i+1,x,e=>by subst ey;simp at e;simpa using aM.get t e
theorem aM.append:∀{ds es:List PyData} {xs ys:List V},aM K H ds xs→aM K H es ys→aM K H (ds++es) (xs++ys)
 | [],_,_,_,h,h'=>by cases h;exact h'
 | d::ds,_,_,_,⟨x,r,e,h,t⟩,h'=>by subst e;exact⟨x,_,rfl,h,t.append h'⟩
theorem aM.one {d:PyData} {x:V} (h:dv K H d x):aM K H [d] [x]:=⟨x,[],rfl,h,rfl⟩
theorem aM.ints:∀ ns:List Int,aM K H (ns.map PyData.int) (ns.map V.int)
 | []=>rfl
 | n::ns=>⟨_,_,rfl,rfl,aM.ints ns⟩
theorem dv.tup {p:Addr} {xs:List V} {ds:List PyData} (h:H p=some (.tup xs)) (t:aM K H ds xs):dv K H (.tuple ds) (.ref p):=⟨p,xs,rfl,bC.of h,t⟩
mutual
def nQ:PyData→Bool
 | .list _=>false
 | .tuple ds=>fh ds
 | _=>true
def fh:List PyData→Bool
 | []=>true
 | d::ds=>nQ d && fh ds
end
def SameBut (p:Addr) (H H':Hp):Prop:=∀ b o,b≠p→H b=some o→H' b=some o
theorem bC.but {p a:Addr} {us xs:List V} (hp:H p=some (.lst us)) (s:SameBut p H H') (h:bC K H a xs):bC K H' a xs:=by
 rcases h with (h | ⟨o,h⟩) | h
 ·exact .inl (.inl (s _ _ (fun e=>by rw [e,hp] at h;cases h) h))
 ·exact .inl (.inr ⟨o,s _ _ (fun e=>by rw [e,hp] at h;cases h) h⟩)
 ·exact .inr h
mutual
theorem dv.but {p:Addr} {us:List V} (hp:H p=some (.lst us)) (s:SameBut p H H'):∀(d:PyData) {v:V},nQ d=true→dv K H d v→dv K H' d v
 | .none,_,_,h=>h
 | .bool _,_,_,h=>h
 | .int _,_,_,h=>h
 | .str _,_,_,h=>h
 | .list ds,_,z,_=>by cases z
 | .tuple ds,_,z,⟨q,xs,e,h,t⟩=>⟨q,xs,e,h.but hp s,aM.but hp s ds z t⟩
 | .dict _,_,_,h=>h.elim
theorem aM.but {p:Addr} {us:List V} (hp:H p=some (.lst us)) (s:SameBut p H H'):∀(ds:List PyData) {xs:List V},fh ds=true→aM K H ds xs→aM K H' ds xs
 | [],_,_,h=>h
 | d::ds,_,z,⟨x,r,e,h,t⟩=>by
  have z':nQ d=true∧fh ds=true:=by simpa [fh] using z
  exact⟨x,r,e,dv.but hp s d z'.1 h,aM.but hp s ds z'.2 t⟩
end
theorem h8 {α:Type} {f:α→PyData} (h:∀ x,nQ (f x)=true):∀ xs:List α,fh (xs.map f)=true
 | []=>rfl
 | x::xs=>by rw [List.map_cons,fh,h,h8 h xs];rfl
end
section
variable {X:Cx} {pins:List (Addr × Obj)} {σ:St} {H:Hp} {s:Shared}
mutual
theorem kJ (I:Inv X pins σ H s):∀(d:PyData) {v:V} {u:Value},dv X.K H d v→RelV v u→∃ as,Reads s.heap u d as
 | .none,_,u,h,r=>by cases h;cases r;exact⟨_,.none⟩
 | .bool _,_,u,h,r=>by cases h;cases r;exact⟨_,.bool _⟩
 | .int _,_,u,h,r=>by cases h;obtain⟨t,rfl⟩:=r;exact⟨_,.int _ _⟩
 | .str _,_,u,h,r=>by cases h;obtain⟨t,rfl⟩:=r;exact⟨_,.str _ _⟩
 | .list ds,_,u,⟨p,xs,e,h,t⟩,r=>by
  subst e
  cases r
  obtain⟨its,rr,pl,_⟩:=I.list h
  obtain⟨o,h1,h2,n,h3⟩:=pl.isList
  obtain⟨as,ra⟩:=fQ I ds t rr
  exact⟨_,.list h1 h2 h3 (by simpa using ra)⟩
 | .tuple ds,_,u,⟨p,xs,e,h,t⟩,r=>by
  subst e
  cases r
  obtain⟨its,rr,pl,_⟩:=I.tuple h
  obtain⟨o,h1,h2,n,h3⟩:=pl
  obtain⟨as,ra⟩:=fQ I ds t rr
  exact⟨_,.tuple h1 h2 h3 (by simpa using ra)⟩
 | .dict _,_,_,h,_=>h.elim
theorem fQ (I:Inv X pins σ H s):∀(ds:List PyData) {xs:List V} {us:List Value},aM X.K H ds xs→Vals xs us→∃ as,ReadsAll s.heap us ds as
 | [],_,us,h,r=>by cases h;cases r;exact⟨_,.nil⟩
 | d::ds,_,us,⟨x,r,e,h,t⟩,rr=>by
  subst e
  cases rr with
  | cons r1 r2 =>
   obtain⟨a1,q1⟩:=kJ I d h r1
   obtain⟨a2,q2⟩:=fQ I ds t r2
   exact⟨_,.cons q1 q2⟩
end
def DB (K:PySem.W.Frag) (neg:Bool):R2:=fun y x H Q=>∃ d e,dv K H d y∧dv K H e x∧d.canLay0=true∧e.canLay0=true∧min d.depth e.depth≤60∧Q (.bl (if neg then !PyData.eqv d e else PyData.eqv d e)) H
theorem Ba (hu:X.A.units+64<cLine):fG X (compareOp .Eq) (DB X.K false):=by
 intro pins s σ H y x u v Q I ry rx h
 obtain⟨d,e,hd,he,c1,c2,c3,q⟩:=h
 obtain⟨as,ra⟩:=kJ I d hd ry
 obtain⟨bs,rb⟩:=kJ I e he rx
 exact SeqAt.compareEq_reads ra rb c1 c2 (by omega) ⟨.bl _,H,I,rfl,q⟩
end
end L2
namespace Pw
def lst (xs:List Nat):Nat:=xs.getLast?.getD 0
end Pw
namespace L2
open PySem PySem.Spec PyProof.Rows PySem.W
def zF (C:Addr) (H:Hp) (E:XK):Prop:=∀ x H',aB H H'→H x=none→H' x=some (XO x C none)→E (.ref C) (some x) H'
def x5 (C:Addr) (f:Str) (v:V) (H:Hp) (E:XK):Prop:=∀ x dx H',aB H H'→H x=none→H' x=some (XO x C (some dx))→H' dx=some (.xd [(f,v)])→E (.ref C) (some x) H'
theorem gf {K:PySem.W.Frag} {C x:Addr} {H H1:Hp} {E:XK} (c:dh K C) (hs:aB H H1) (hx:H1 x=none) (e:zF C H E) :
  ∃(C':Addr) (dd:Option Addr),upd H1 x (XN x C none) x=some (XN x C' dd)∧dh K C'∧H x=none∧E (.ref C') (some x) (upd (upd H1 x (XN x C none)) x (XO x C' dd)):=by
 refine⟨C,none,ag,c,hs.free hx,e x _ ?_ (hs.free hx) ag⟩
 intro b o q
 have q1:=hs _ _ q
 have bx:b≠x:=fun y=>by rw [y,hx] at q1;cases q1
 rw [aq bx,aq bx]
 exact q1
theorem iR {K:PySem.W.Frag} {C x dx:Addr} {f:Str} {v:V} {H H1:Hp} {E:XK} (c:dh K C) (hs:aB H H1) (hx:H1 x=none) (hdx:H1 dx=none) (ne:dx≠x) (e:x5 C f v H E) :
  ∃(C':Addr) (dd:Option Addr),upd (upd (upd H1 x (XN x C none)) dx (.xd [(f,v)])) x (XN x C (some dx)) x=some (XN x C' dd)∧dh K C'∧H x=none∧E (.ref C') (some x) (upd (upd (upd (upd H1 x (XN x C none)) dx (.xd [(f,v)])) x (XN x C (some dx))) x (XO x C' dd)):=by
 refine⟨C,some dx,ag,c,hs.free hx,e x dx _ ?_ (hs.free hx) ag ?_⟩
 ·intro b o q
  have q1:=hs _ _ q
  have bx:b≠x:=fun y=>by rw [y,hx] at q1;cases q1
  have bd:b≠dx:=fun y=>by rw [y,hdx] at q1;cases q1
  rw [aq bx,aq bx,aq bd,aq bx]
  exact q1
 ·rw [aq ne,aq ne,ag]
end L2
namespace Ld
structure fB (n r:Int):Prop where
 two:2≤r
 dv:r∣n
 no:∀ d:Int,2≤d→d<r→¬d∣n
theorem fB.le {n r:Int} (h:fB n r) (hn:0<n):r≤n:=Int.le_of_dvd hn h.dv
structure Inv (n k:Int):Prop where
 two:2≤k
 odd:k=2∨k%2=1
 no:∀ d:Int,2≤d→d<k→¬d∣n
theorem Inv.step {n k:Int} (h:Inv n k) (hk:¬k∣n):Inv n (k+if k=2 then 1 else 2):=by
 have h2:=h.two
 by_cases c:k=2
 ·rw [if_pos c]
  refine⟨by omega,.inr (by omega),fun d d0 d1=>?_⟩
  have:d=k:=by omega
  rw [this];exact hk
 ·rw [if_neg c]
  have ho:k%2=1:=by rcases h.odd with z | z;exact absurd z c;exact z
  refine⟨by omega,.inr (by omega),fun d d0 d1 hd=>?_⟩
  rcases (by omega:d<k∨d=k∨d=k+1) with z | z | z
  ·exact h.no d d0 z hd
  ·subst z;exact hk hd
  ·have e2:(2:Int)∣d:=Int.dvd_of_emod_eq_zero (by omega)
   exact h.no 2 (by omega) (by omega) (Int.dvd_trans e2 hd)
theorem Inv.found {n k:Int} (h:Inv n k) (hk:k∣n):fB n k:=⟨h.two,hk,h.no⟩
theorem Inv.done {n k:Int} (h:Inv n k) (hn:2≤n) (hk:n<k*k):fB n n:=by
 refine⟨hn,Int.dvd_refl n,fun d d0 d1 hd=>?_⟩
 obtain⟨c,hc⟩:=hd
 have h2:=h.two
 by_cases z:d<k
 ·exact h.no d d0 z ⟨c,hc⟩
 ·have c0:0<c:=by
   rcases (by omega:c≤0∨0<c) with y | y
   ·have:=Int.mul_nonpos_of_nonneg_of_nonpos (show 0≤d by omega) y
    omega
   ·exact y
  have c2:2≤c:=by
   rcases (by omega:c=1∨2≤c) with y | y
   ·subst y;omega
   ·exact y
  have ck:c<k:=by
   rcases (by omega:c<k∨k≤c) with y | y
   ·exact y
   ·have:=Int.mul_le_mul (show k≤d by omega) y (by omega) (by omega)
    omega
  exact h.no c c2 ck ⟨d,by rw [Int.mul_comm];exact hc⟩
end Ld
namespace L2
open PySem PySem.Spec PyProof.Rows PySem.W
section
variable {K:PySem.W.Frag} {H:Hp}
mutual
theorem eqv_refl:∀ d:PyData,d.canLay0=true→PyData.eqv d d=true
 | .none,_=>by simp [PyData.eqv]
 | .bool _,_=>by simp [PyData.eqv]
 | .int _,_=>by simp [PyData.eqv]
 | .str _,_=>by simp [PyData.eqv]
 | .list ds,h=>by simpa [PyData.eqv] using iQ ds h
 | .tuple ds,h=>by simpa [PyData.eqv] using iQ ds h
 | .dict _,h=>by simp [PyData.canLay0] at h
theorem iQ:∀ ds:List PyData,PyData.canLayAll0 ds=true→PyData.eqvAll ds ds=true
 | [],_=>by simp [PyData.eqvAll]
 | d::ds,h=>by
  have h':d.canLay0=true∧PyData.canLayAll0 ds=true:=by simpa [PyData.canLayAll0] using h
  simp [PyData.eqvAll,eqv_refl d h'.1,iQ ds h'.2]
end
end
end L2
namespace L2
open PySem PySem.Spec PyProof.Rows
def C9 (lo k:Int) (n:Nat):It:=⟨fun i _=>i<n,fun i H x H'=>H'=H∧x=.int (lo+i*k),fun i _=>n≤i⟩
def Cn (lo hi k:Int):Nat:=if lo<hi then ((hi-lo-1)/k+1).toNat else 0
def zU (ta:TA):TI:=fun σ H R=>ta σ H fun vs H1=>∃ i j k:Int,vs=[.int i,.int j,.int k]∧(-(2^60)≤i∧i<2^60 ∧ -(2^60)≤j∧j<2^60∧0<k∧k<2^29)∧R (C9 i k (Cn i j k)) H1
section
variable {X:Cx} {tg:Expr}
end
end L2
namespace Sv
def BA (d:Nat) (arr:Nat→Bool):Nat→Bool:=fun j=>arr j || (decide (d*d≤j) && decide (j%d=0))
def sv:Nat→(Nat→Bool) × List Nat
 | 0=>(fun _=>false,[])
 | i+1=>if (sv i).1 (i+2) then sv i else (BA (i+2) (sv i).1,(sv i).2++[i+2])
theorem len:∀ i,(sv i).2.length≤i
 | 0=>Nat.le_refl _
 | i+1=>by
  have:=len i
  rw [sv]
  split
  ·omega
  ·rw [List.length_append,List.length_singleton];omega
end Sv
namespace L2
open PySem PySem.Spec PyProof.Rows
theorem tF {X:Cx}:cD X (.type "int") (fun xs H Q=>∃ k,xs=[.bl k]∧Q (.int (if k=true then 1 else 0)) H):=fun pins s σ H xs us Q I r h=>tE pins s σ H xs us Q I r (.inr h)
end L2
namespace L2
open PySem PySem.Spec PyProof.Rows
section
variable {X:Cx} {pins:List (Addr × Obj)} {σ:St} {H:Hp} {s:Shared} {h':Heap}
theorem Inv.jK {t':Nat} {ch:List Addr} (I:Inv X pins σ H s) (k:∀ b o,b∉ch→s.heap.get? b=some o→h'.get? b=some o) (hf:∀ b∈ch,mr X pins H b):Inv X pins σ H { s with heap:=h',toks:=t' }:=by
 have nit:∀ b u,H b=some u→b∉ch:=fun b u e z=>by rw [(hf b z).1] at e;cases e
 refine I.step (g':=s.gens) (d':=s.drawn) (ch:=ch) (fun b hb=>?_) (fun b o _ _ hc e _=>k b o hc e) (fun b o _ _ hc e _=>⟨o.slots,k b o hc e⟩) (fun _ _ _ _ n=>n)
  (fun b o hc e=>⟨o,k b o hc e⟩) (fun _ _ e=>e) (fun _ _ _ e=>e) (fun b ps e=>⟨#[],by rw [e];simp⟩) (fun m hm=>?_) (fun b u e=>?_) I.bare
 ·obtain⟨_,f1,_,f3,f4,f5⟩:=hf b hb
  exact⟨f3,f1,f4,f5⟩
 ·obtain⟨o,es,ep,ho,r⟩:=hm
  exact⟨o,es,ep,k _ o (fun z=>(hf _ z).2.1 rfl) ho,r⟩
 ·refine (I.hok b u e).gE (fun c v hc q=>k c v ?_ q) (fun _ q=>q) fun _ _ q=>q
  rcases hc with z | z
  ·rw [z];exact nit b u e
  ·exact nit c _ z
theorem Inv.adopt {T:Addr} {o:HO} (I:Inv X pins σ H s) (hf:mr X pins H T) (new:bo X.prog X.w (upd H T o) s.heap T o):Inv X pins σ (upd H T o) s:=by
 have nT:∀ b u,H b=some u→b≠T:=fun b u e z=>by rw [z,hf.1] at e;cases e
 refine I.step (h':=s.heap) (g':=s.gens) (d':=s.drawn) (t':=s.toks) (ch:=[T]) (fun b hb=>?_) (fun b o _ _ hc e _=>e) (fun b o _ _ hc e _=>⟨o.slots,e⟩) (fun b o hc e n=>by rw [aq (fun z=>hc (by simp [z]))];exact n)
  (fun b o hc e=>⟨o,e⟩) (fun b xs e=>by rw [aq (nT _ _ e)];exact e) (fun b o u e=>by rw [aq (nT _ _ e)];exact e) (fun b ps e=>⟨#[],by rw [aq (nT _ _ e),e];simp⟩) (fun m hm=>hm) (fun b u e=>?_) I.bare
 ·have e:b=T:=by simpa using hb
  subst e
  obtain⟨_,f1,_,f3,f4,f5⟩:=hf
  exact⟨f3,f1,f4,f5⟩
 ·by_cases z:b=T
  ·subst z
   rw [ag] at e
   cases e
   exact new
  ·rw [aq z] at e
   exact (I.hok b u e).gE (fun c v _ q=>q) (fun c q=>by rw [aq (nT _ _ q)];exact q) fun c xs q=>by rw [aq (nT _ _ q)];exact q
end
def C7 (K:PySem.W.Frag) (a:Addr):It :=
 ⟨fun i H=>∃ xs x,aX K H a xs∧xs[i]?=some x,fun i H x H'=>∃ p v,H p=none∧x=.ref p∧(∀ xs,aX K H a xs→xs[i]?=some v)∧H'=upd H p (.tup [.int i,v]),fun i H=>∃ xs,aX K H a xs∧xs.length≤i⟩
theorem uH {P:Program} {w:World} {K:PySem.W.Frag} {elts:List Expr} {x1} {pos:Pos} (a it e:Addr) (ne:e≠it):Turn P w K (.Tuple elts x1 pos) (C7 K a) [e,it] e (fun i h=>(∃ old,IsEnum h e it i old)∧h.IsListIter it a i) where
 mem:=by simp
 obj:=fun i h st b hb=>by
  obtain⟨⟨old,he⟩,hit⟩:=st
  rcases List.mem_cons.mp hb with z | z
  ·subst z
   exact⟨_,he,fun v z=>by cases z⟩
  ·have z:b=it:=by simpa using z
   subst z
   obtain⟨o,e,c,d⟩:=hit
   exact⟨o,e,fun v z=>by rw [d] at z;cases z⟩
 keep:=fun i h h' st k=>by
  obtain⟨⟨old,he⟩,hit⟩:=st
  exact⟨⟨old,k e (by simp) _ he⟩,hit.at fun o x=>k it (by simp) o x⟩
 item:=by
  intro X hP hw hK hc i pins s σ H E I hf st hg
  subst hP hw hK
  obtain⟨xs,x,hq,hx⟩:=hg
  obtain⟨its,rv,p,hz⟩:=I.list hq
  obtain⟨u,hu,ru⟩:=rv.get hx
  obtain⟨⟨old,he⟩,hit⟩:=st
  refine wpAny_pyNext_enum_item he hit p.isList (x:=u) (by simpa using hu) ne fun h' ho hit' hT hsz hk=>?_
  refine⟨_,rfl,?_⟩
  have fT:H s.heap.objs.size=none:=I.hok.fresh (Nat.le_refl _)
  refine wpAny_letOwnedTupleGo_enum ho fun h2 he2 hs2=>?_
  have hke:∀ b o,b∉[e,it]→s.heap.get? b=some o→h2.get? b=some o:=fun b o hb q=>by
   have n1:b≠e:=fun z=>hb (by simp [z])
   have n2:b≠it:=fun z=>hb (by simp [z])
   exact (hs2.2 b n1).trans (hk b o n1 n2 q)
  have I1:Inv X pins σ H { s with heap:=h2,toks:=s.toks+1 }:=I.jK hke hf
  have ne1:s.heap.objs.size≠e:=Nat.ne_of_gt (Heap.lt_size he)
  have hT2:h2.get? s.heap.objs.size=some { cls:=.type "tuple",data:=.seq #[.int i s.toks,u] }:=(hs2.2 _ ne1).trans hT
  refine⟨.ref s.heap.objs.size,upd H s.heap.objs.size (.tup [.int i,x]),?_,rfl,⟨_,x,fT,rfl,fun ys hy=>by rw [I.j6 hy hq];exact hx,rfl⟩,⟨⟨u,by simpa using he2⟩,hit'.at fun o q=>(hs2.2 it (Ne.symm ne)).trans q⟩,fun b hb=>?_⟩
  ·have:=I1.adopt (T:=s.heap.objs.size) (o:=.tup [.int i,x]) (I.mG (Nat.le_refl _) fT) ⟨by show 2≤sizeLine;decide,[.int i s.toks,u],.cons ⟨_,rfl⟩ (.cons ru .nil),⟨_,hT2,rfl,_,rfl⟩⟩
   exact this
  ·have ne2:s.heap.objs.size≠it:=by obtain⟨o,q,_⟩:=hit;exact Nat.ne_of_gt (Heap.lt_size q)
   have nb:b≠s.heap.objs.size:=fun z=>by
    subst z
    simp only [List.mem_cons,List.not_mem_nil,or_false] at hb
    rcases hb with y | y
    ·exact ne1 y
    ·exact ne2 y
   rw [aq nb]
   exact (hf b hb).1
 done:=by
  intro X hP hw hK hc i pins s σ H E I hf st hg
  subst hP hw hK
  obtain⟨xs,hq,hx⟩:=hg
  obtain⟨its,rv,p,hz⟩:=I.list hq
  have hl:=rv.length
  obtain⟨⟨old,he⟩,hit⟩:=st
  exact wpAny_pyNext_enum_end (I.ok.hd hc) he hit p.isList (by simp;omega) fun h' eb=>⟨rfl,I.jK (t':=s.toks) (ch:=[it]) (fun b o hb q=>eb b o (fun z=>hb (by simp [z])) q) (fun b hb=>hf b (List.mem_cons_of_mem _ hb))⟩
 self:=fun _ _ _ _ _ st h=>by
  obtain⟨⟨old,he⟩,_⟩:=st
  exact wpAny_pyIter_enum he h
def vz (K:PySem.W.Frag) (ta:TA):TI:=fun σ H R=>ta σ H fun vs H1=>∃ a,vs=[.ref a]∧(∃ xs,aX K H1 a xs)∧R (C7 K a) H1
theorem ju:bootBuiltins "enumerate"=some (.type "enumerate"):=by decide +kernel
theorem sq {X:Cx} {elts:List Expr} {x1} {tpos:Pos} {a:Expr} {ta:TA} {p pos:Pos} (hg:Gl X "enumerate") (hm:X.mg "enumerate"=none) (ha:PA X [a] ta) (hs:starEach [a] X.env=[(false,eval a X.env)]:=by rfl) :
  PI X (.Tuple elts x1 tpos) (.Call (.Name "enumerate" p) [a] [] pos) (vz X.K ta):=by
 intro pins s σ H R I h
 refine Call_ (gR I hg hm ju (PyProof.Rows.callWith_type1 (bj (ha pos pins s σ H _ I h) fun us s1 ⟨vs,H1,I1,r1,q1⟩=>?_) hs rfl))
 obtain⟨b,e,⟨xs,hq⟩,q⟩:=q1
 subst e
 cases r1 with
 | cons r rr =>
  cases rr
  cases r
  obtain⟨its,rv,pl,hz⟩:=I1.list hq
  refine call_enumerate_list pl.isList fun h' he hit hsz hk=>?_
  refine wpAny_pyIter_enum he ?_
  have I2:Inv X pins σ H1 { s1 with heap:=h' }:=I1.kept (t':=s1.toks) hk
  refine⟨_,[s1.heap.objs.size+1,s1.heap.objs.size],_,_,H1,rfl,I2,uH b s1.heap.objs.size (s1.heap.objs.size+1) (Nat.succ_ne_self _),⟨⟨_,he⟩,hit⟩,fun c hc=>?_,q⟩
  simp only [List.mem_cons,List.not_mem_nil,or_false] at hc
  rcases hc with rfl | rfl
  ·exact I1.mG (by omega) (I1.hok.fresh (by omega))
  ·exact I1.mG (by omega) (I1.hok.fresh (by omega))
theorem lP {K:PySem.W.Frag} {a:Addr} {xs:List V} {g:TG} {tb:TS} {D:Ends} {σ:St} {H:Hp} (Pv:Nat→St→Hp→Prop) (h0:Pv 0 σ H) (hl:∀ i σ H,i≤xs.length→Pv i σ H→aX K H a xs)
  (hs:∀ i x σ H p,xs[i]?=some x→Pv i σ H→H p=none→g (.ref p) σ (upd H p (.tup [.int i,x])) fun σ2 H2=>tb { D with nx:=Pv (i+1),ct:=Pv (i+1),bk:=D.nx } σ2 H2) (hd:∀ σ H,Pv xs.length σ H→D.nx σ H):Loop (C7 K a) g tb D σ H:=by
 refine⟨fun i m σ H=>m=xs.length-i∧i≤xs.length∧Pv i σ H,⟨xs.length,by simp,Nat.zero_le _,h0⟩,?_⟩
 rintro i m σ H ⟨rfl,hi,p⟩
 have q:=hl i σ H hi p
 by_cases hlt:i<xs.length
 ·have hx:xs[i]?=some xs[i]:=List.getElem?_eq_getElem hlt
  refine .inr ⟨⟨xs,_,q,hx⟩,Pv (i+1),fun σ' H' p'=>⟨xs.length-(i+1),by omega,rfl,hlt,p'⟩,fun x H' y=>?_⟩
  obtain⟨pt,v,f,e1,e2,e3⟩:=y
  subst e1 e3
  have:=e2 xs q
  exact hs i v σ H pt this p f
 ·have e:i=xs.length:=by omega
  subst e
  exact .inl ⟨⟨xs,q,Nat.le_refl _⟩,hd σ H p⟩
end L2
namespace Crt
structure G (a b g:Int):Prop where
 pos:0<g
 da:g∣a
 db:g∣b
 lin:∃ u v:Int,u*a+v*b=g
theorem G.gr {a b g d:Int} (h:G a b g) (h1:d∣a) (h2:d∣b):d∣g:=by
 obtain⟨u,v,e⟩:=h.lin
 rw [← e]
 exact Int.dvd_add (Int.dvd_mul_of_dvd_right h1) (Int.dvd_mul_of_dvd_right h2)
theorem G.one {a b g g':Int} (h:G a b g) (h':G a b g'):g=g':=Int.le_antisymm (Int.le_of_dvd h'.pos (h'.gr h.da h.db)) (Int.le_of_dvd h.pos (h.gr h'.da h'.db))
theorem a1 {g u A v L:Int} (e:u*(g*A)+v*(g*L)=g):g*(u*A+v*L)=g*1:=by grind
theorem a2 {g A k L l y:Int} (h1:y=g*A*k) (h2:y=g*L*l):g*(A*k)=g*(L*l):=by grind
theorem a3 {u A v L k l:Int} (e4:u*A+v*L=1) (e5:A*k=L*l):k=L*(u*l+v*k):=by
 have z:k*(u*A+v*L)=k:=by rw [e4,Int.mul_one]
 grind
theorem a4 {A D r L q1 t:Int} (et:L*q1+t=D*r):A*t=A*(D*r)-A*(L*q1):=by grind
theorem a5 {D r A L c:Int} (hc:r*A-1=L*c):D*(r*A)-D=D*(L*c):=by rw [← hc];grind
theorem a6 {M L t q2 N x:Int} (ex:M*L*q2+x=N+M*t):x-N=M*(t-L*q2):=by grind
theorem a7 {g A L t q1 q2 c D r N x:Int} (z3:x=N+g*A*t-g*A*L*q2) (z1:A*t=A*(D*r)-A*(L*q1)) (z2:D*(r*A)-D=D*(L*c)):x-(N+g*D)=g*L*(c*D-q1*A-A*q2):=by grind
theorem a8 {M L k w:Int} (h:k=L*w):M*k=M*L*w:=by rw [h,Int.mul_assoc]
structure Ag (M N m n W x:Int):Prop where
 pos:0<W
 dM:M∣W
 dm:m∣W
 le:∀ y:Int,M∣y→m∣y→W∣y
 x0:0≤x
 x1:x<W
 eM:M∣x-N
 em:m∣x-n
theorem both {M N m n g r:Int} (hM:0<M) (hm:0<m) (h:G M m g) (hd:g∣n-N) (hr:m/g∣r*(M/g)-1):Ag M N m n (M*(m/g)) ((N+M*((n-N)/g*r%(m/g)))%(M*(m/g))):=by
 obtain⟨A,hA⟩:=h.da
 obtain⟨L,hL⟩:=h.db
 obtain⟨D,hD⟩:=hd
 have g0:=h.pos
 have e1:m/g=L:=by rw [hL];exact Int.mul_ediv_cancel_left _ (by omega)
 have e2:M/g=A:=by rw [hA];exact Int.mul_ediv_cancel_left _ (by omega)
 have e3:(n-N)/g=D:=by rw [hD];exact Int.mul_ediv_cancel_left _ (by omega)
 rw [e1,e2] at hr
 rw [e1,e3]
 have L0:0<L:=by
  rcases (by omega:L≤0∨0<L) with z | z
  ·have:=Int.mul_nonpos_of_nonneg_of_nonpos (Int.le_of_lt g0) z
   omega
  ·exact z
 have W0:0<M*L:=Int.mul_pos hM L0
 have dm:m∣M*L:=⟨A,by rw [hA,hL,Int.mul_assoc,Int.mul_assoc,Int.mul_comm A L]⟩
 have et:=Int.mul_ediv_add_emod (D*r) L
 have ex:=Int.mul_ediv_add_emod (N+M*(D*r%L)) (M*L)
 generalize hT:D*r%L=t at *
 generalize D*r/L=q1 at *
 have X0:=Int.emod_nonneg (N+M*t) (show M*L≠0 by omega)
 have X1:=Int.emod_lt_of_pos (N+M*t) W0
 generalize (N+M*t)%(M*L)=x at *
 generalize (N+M*t)/(M*L)=q2 at *
 obtain⟨c,hc⟩:=hr
 refine⟨W0,⟨L,rfl⟩,dm,fun y h1 h2=>?_,X0,X1,⟨t-L*q2,a6 ex⟩,?_⟩
 ·obtain⟨k,hk⟩:=h1
  obtain⟨l,hl⟩:=h2
  obtain⟨u,v,e⟩:=h.lin
  have e4:u*A+v*L=1:=Int.eq_of_mul_eq_mul_left (show g≠0 by omega) (a1 (by rw [hA,hL] at e;exact e))
  have e5:A*k=L*l:=Int.eq_of_mul_eq_mul_left (show g≠0 by omega) (a2 (y:=y) (by rw [hA] at hk;exact hk) (by rw [hL] at hl;exact hl))
  exact⟨u*l+v*k,by rw [hk];exact a8 (a3 e4 e5)⟩
 ·refine⟨c*D-q1*A-A*q2,?_⟩
  have hN:n=N+g*D:=by omega
  have z3:x=N+g*A*t-g*A*L*q2:=by rw [hA] at ex;omega
  rw [hN,hL]
  exact a7 z3 (a4 et) (a5 hc)
theorem C6:∀(b a:Nat),0<a→∃ g,G (a:Int) (b:Int) g:=by
 intro b
 induction b using Nat.strongRecOn with
 | ind b ih =>
  intro a ha
  rcases Nat.eq_zero_or_pos b with z | z
  ·subst z
   exact⟨a,by omega,Int.dvd_refl _,Int.dvd_zero _,1,0,by simp⟩
  ·obtain⟨g,h⟩:=ih (a%b) (Nat.mod_lt a z) b z
   obtain⟨u,v,e⟩:=h.lin
   have ed:(a:Int)=(b:Int)*((a/b:Nat):Int)+((a%b:Nat):Int):=by
    have:=Nat.div_add_mod a b
    rw [← Int.natCast_mul,← Int.natCast_add,this]
   refine⟨g,h.pos,?_,h.da,v,u-v*((a/b:Nat):Int),?_⟩
   ·rw [ed]
    exact Int.dvd_add (Int.dvd_mul_of_dvd_left h.da) h.db
   ·rw [ed,← e]
    generalize ((a/b:Nat):Int)=q
    generalize ((a%b:Nat):Int)=r
    generalize (b:Int)=b'
    grind
theorem zG {a b:Int} (ha:0<a) (hb:0<b):∃ g,G a b g:=by
 obtain⟨g,h⟩:=C6 b.toNat a.toNat (by omega)
 rw [Int.toNat_of_nonneg (by omega),Int.toNat_of_nonneg (by omega)] at h
 exact⟨g,h⟩
structure Told (ps:List (Int × Int)) (M N:Int):Prop where
 pos:0<M
 x0:0≤N
 x1:N<M
 dv:∀ p∈ps,p.1∣M
 le:∀ y:Int,(∀ p∈ps,p.1∣y)→M∣y
 al:∀ p∈ps,p.1∣N-p.2
theorem Told.nil:Told [] 1 0:=⟨by decide,by decide,by decide,fun _ h=>by simp at h,fun y _=>⟨y,by omega⟩,fun _ h=>by simp at h⟩
theorem Told.step {ps:List (Int × Int)} {M N m n W x:Int} (h:Told ps M N) (b:Ag M N m n W x):Told (ps++[(m,n)]) W x:=by
 refine⟨b.pos,b.x0,b.x1,fun p hp=>?_,fun y hy=>?_,fun p hp=>?_⟩
 ·rcases List.mem_append.mp hp with z | z
  ·exact Int.dvd_trans (h.dv p z) b.dM
  ·rw [List.mem_singleton.mp z];exact b.dm
 ·exact b.le y (h.le y fun p hp=>hy p (List.mem_append_left _ hp)) (hy (m,n) (List.mem_append_right _ (by simp)))
 ·rcases List.mem_append.mp hp with z | z
  ·have e1:=Int.dvd_trans (h.dv p z) b.eM
   have e2:=h.al p z
   have:=Int.dvd_add e1 e2
   rwa [show x-N+(N-p.2)=x-p.2 by omega] at this
  ·rw [List.mem_singleton.mp z];exact b.em
theorem Told.fits {ps:List (Int × Int)} {M N m n g:Int} (h:Told ps M N) (G0:G M m g) (hp:∀ p∈ps,∀ d,G p.1 m d→d∣p.2-n) (hG:∀ p∈ps,∃ d,G p.1 m d):g∣n-N:=by
 obtain⟨A,hA⟩:=G0.da
 obtain⟨L,hL⟩:=G0.db
 have g0:=G0.pos
 have key:M∣(n-N)*A:=by
  refine h.le _ fun p hm=>?_
  obtain⟨d,hd⟩:=hG p hm
  obtain⟨u,v,e⟩:=hd.lin
  have d1:d∣n-N:=by
   have z1:=hp p hm d hd
   have z2:=Int.dvd_trans hd.da (h.al p hm)
   have:=Int.dvd_add z1 z2
   have w:=(Int.dvd_neg).mpr this
   rwa [show -(p.2-n+(N-p.2))=n-N by omega] at w
  obtain⟨c,hc⟩:=d1
  obtain⟨B,hB⟩:=h.dv p hm
  refine⟨c*(u*A+v*L*B),?_⟩
  rw [hc,← e]
  have:m*A=p.1*(L*B):=by
   have z:g*(m*A)=g*(p.1*(L*B)):=by
    have:m*M=g*L*(p.1*B):=by rw [hL,hB]
    have z2:g*(m*A)=m*M:=by rw [hA];grind
    rw [z2,this];grind
   exact Int.eq_of_mul_eq_mul_left (by omega) z
  grind
 obtain⟨c,hc⟩:=key
 have A0:A≠0:=fun z=>by rw [z] at hA;have:=h.pos;omega
 refine⟨c,?_⟩
 have:A*(n-N)=A*(g*c):=by rw [Int.mul_comm A (n-N),hc,hA];grind
 exact Int.eq_of_mul_eq_mul_left A0 this
theorem Told.one {ps:List (Int × Int)} {M N M' N':Int} (h:Told ps M N) (h':Told ps M' N'):M=M'∧N=N':=by
 have e:M=M':=Int.le_antisymm (Int.le_of_dvd h'.pos (h.le _ h'.dv)) (Int.le_of_dvd h.pos (h'.le _ h.dv))
 subst e
 refine⟨rfl,?_⟩
 have z:M∣N-N':=h.le _ fun p hp=>by
  have:=Int.dvd_sub (h.al p hp) (h'.al p hp)
  rwa [show N-p.2-(N' - p.2)=N-N' by omega] at this
 have w:=Int.emod_emod_of_dvd
 have:=(Int.emod_eq_emod_iff_emod_sub_eq_zero (m:=N) (n:=M) (k:=N')).mpr (Int.emod_eq_zero_of_dvd z)
 rwa [Int.emod_eq_of_lt h.x0 h.x1,Int.emod_eq_of_lt h'.x0 h'.x1] at this
end Crt
namespace Num
def Al (n x y:Int):Prop:=n∣x-y
theorem Al.refl (n x:Int):Al n x x:=⟨0,by omega⟩
theorem Al.symm {n x y:Int} (h:Al n x y):Al n y x:=by
 have:=(Int.dvd_neg).mpr h
 rwa [show -(x-y)=y-x by omega] at this
theorem Al.trans {n x y z:Int} (h:Al n x y) (h':Al n y z):Al n x z:=by
 have:=Int.dvd_add h h'
 rwa [show x-y+(y-z)=x-z by omega] at this
theorem Al.mul {n x y u v:Int} (h:Al n x y) (h':Al n u v):Al n (x*u) (y*v):=by
 have h1:n∣(x-y)*u:=Int.dvd_mul_of_dvd_left h
 have h2:n∣y*(u-v):=Int.dvd_mul_of_dvd_right h'
 have:=Int.dvd_add h1 h2
 rwa [show (x-y)*u+y*(u-v)=x*u-y*v by rw [Int.sub_mul,Int.mul_sub];omega] at this
theorem Al.pow {n x y:Int} (h:Al n x y):∀ k:Nat,Al n (x^k) (y^k)
 | 0=>by rw [Int.pow_zero,Int.pow_zero];exact Al.refl _ _
 | k+1=>by rw [Int.pow_succ,Int.pow_succ];exact (Al.pow h k).mul h
theorem Al.iff {n x y:Int}:Al n x y↔x%n=y%n:=Pw.Ar.symm
theorem Al.rest (n x:Int):Al n (x%n) x:=Al.iff.mpr (Int.emod_emod_of_dvd x (Int.dvd_refl n))
def Co (a n:Int):Prop:=∃ u v:Int,u*a+v*n=1
theorem Co.dvd {a n b:Int} (h:Co a n) (hd:n∣a*b):n∣b:=by
 obtain⟨u,v,e⟩:=h
 have h1:n∣u*(a*b):=Int.dvd_mul_of_dvd_right hd
 have h2:n∣(v*b)*n:=⟨v*b,Int.mul_comm _ _⟩
 have:=Int.dvd_add h1 h2
 have e2:u*(a*b)+v*b*n=(u*a+v*n)*b:=by
  rw [Int.add_mul,Int.mul_assoc u a b,Int.mul_assoc v n b,Int.mul_comm n b,Int.mul_assoc v b n]
 rw [e2,e,Int.one_mul] at this
 exact this
theorem Co.cancel {a n x y:Int} (h:Co a n) (e:Al n (a*x) (a*y)):Al n x y:=by
 refine h.dvd ?_
 rw [Int.mul_sub]
 exact e
theorem Co.mul {a b n:Int} (h:Co a n) (h':Co b n):Co (a*b) n:=by
 obtain⟨u,v,e⟩:=h
 obtain⟨u',v',e'⟩:=h'
 refine⟨u*u',u*a*v'+v*(u'*b+v'*n),?_⟩
 have:(u*a+v*n)*(u'*b+v'*n)=1:=by rw [e,e'];rfl
 grind
theorem Co.pow {a n:Int} (h:Co a n):∀ k:Nat,Co (a^k) n
 | 0=>⟨1,0,by rw [Int.pow_zero];simp⟩
 | k+1=>by rw [Int.pow_succ];exact (Co.pow h k).mul h
theorem Co.vV {a b n:Int} (h:Co a n) (e:Al n a b):Co b n:=by
 obtain⟨u,v,e1⟩:=h
 obtain⟨c,hc⟩:=e
 refine⟨u,v+u*c,?_⟩
 have:b=a-n*c:=by omega
 rw [this]
 grind
theorem bc {n a:Int} {d k:Nat} (h:Al n (a^d) 1):Al n (a^(d*k)) 1:=by
 rw [Pw.pow_mul]
 have:=h.pow k
 rwa [Pw.one_pow] at this
structure Ord (n a:Int) (m:Nat):Prop where
 pos:0<m
 one:Al n (a^m) 1
 dv:∀ j:Nat,Al n (a^j) 1→m∣j
theorem pow_mod {n a:Int} {m j:Nat} (h:Al n (a^m) 1) (hj:Al n (a^j) 1):Al n (a^(j%m)) 1:=by
 have e:a^j=a^(m*(j/m))*a^(j%m):=by rw [← Pw.pow_add,Nat.div_add_mod]
 rw [e] at hj
 have h1:=(bc (k:=j/m) h).mul (Al.refl n (a^(j%m)))
 rw [Int.one_mul] at h1
 exact h1.symm.trans hj
theorem mU {n a:Int} {m:Nat} (pos:0<m) (one:Al n (a^m) 1) (no:∀ j,0<j→j<m→¬Al n (a^j) 1):Ord n a m:=by
 refine⟨pos,one,fun j hj=>?_⟩
 have h:=pow_mod one hj
 rcases Nat.eq_zero_or_pos (j%m) with z | z
 ·exact Nat.dvd_of_mod_eq_zero z
 ·exact absurd h (no _ z (Nat.mod_lt _ pos))
theorem fL {P:Nat→Prop}:∀ N:Nat,P N→∃ m,P m∧∀ j,j<m→¬P j:=by
 intro N
 induction N using Nat.strongRecOn with
 | ind N ih =>
  intro h
  by_cases z:∃ j,j<N∧P j
  ·obtain⟨j,hj,pj⟩:=z
   exact ih j hj pj
  ·exact⟨N,h,fun j hj pj=>z ⟨j,hj,pj⟩⟩
theorem iX {n a:Int} {N:Nat} (pos:0<N) (h:Al n (a^N) 1):∃ m,Ord n a m∧m≤N:=by
 obtain⟨m,⟨m0,m1⟩,no⟩:=fL (P:=fun j=>0<j∧Al n (a^j) 1) N ⟨pos,h⟩
 refine⟨m,mU m0 m1 fun j j0 jm z=>no j jm ⟨j0,z⟩,?_⟩
 by_cases z:m≤N
 ·exact z
 ·exact absurd ⟨pos,h⟩ (no N (by omega))
theorem Ord.wt {n a:Int} {m m':Nat} (h:Ord n a m) (h':Ord n a m'):m=m':=Nat.dvd_antisymm (h.dv _ h'.one) (h'.dv _ h.one)
theorem Ord.inj {n a:Int} {m i j:Nat} (h:Ord n a m) (c:Co a n) (hi:i<m) (hj:j<m) (e:Al n (a^i) (a^j)):i=j:=by
 have aux:∀ i j:Nat,i<m→j<m→i≤j→Al n (a^i) (a^j)→i=j:=by
  intro i j hi hj hij e
  have e1:a^j=a^i*a^(j-i):=by rw [← Pw.pow_add];congr 1;omega
  rw [e1] at e
  have e2:Al n (a^i*1) (a^i*a^(j-i)):=by rw [Int.mul_one];exact e
  have e3:=(c.pow i).cancel e2
  have:=h.dv _ e3.symm
  rcases Nat.eq_zero_or_pos (j-i) with z | z
  ·omega
  ·have:=Nat.le_of_dvd z this
   omega
 rcases Nat.le_total i j with z | z
 ·exact aux i j hi hj z e
 ·exact (aux j i hj hi z e.symm).symm
theorem wD:∀(n:Nat) (l:List Nat),l.Nodup→(∀ x∈l,x<n)→l.length≤n:=by
 intro n
 induction n with
 | zero =>
  intro l _ h
  cases l with
  | nil=>exact Nat.le_refl _
  | cons x r=>exact absurd (h x (by simp)) (by omega)
 | succ n ih =>
  intro l nd h
  by_cases c:n∈l
  ·have h1:=ih (l.erase n) (nd.erase n) fun x hx=>by
    have hx':=List.mem_of_mem_erase hx
    have ne:x≠n:=fun z=>by
     subst z
     exact absurd hx (List.Nodup.not_mem_erase nd)
    have:=h x hx'
    omega
   rw [List.length_erase_of_mem c] at h1
   omega
  ·have h1:=ih l nd fun x hx=>by
    have:=h x hx
    have ne:x≠n:=fun z=>c (z▸hx)
    omega
   omega
end Num
namespace Num
structure Pm (p:Int):Prop where
 two:2≤p
 no:∀ d:Int,2≤d→d<p→¬d∣p
theorem Pm.co {p a:Int} (h:Pm p) (ha:¬p∣a):Co a p:=by
 have h2:=h.two
 have r0:=Int.emod_nonneg a (show p≠0 by omega)
 have r1:=Int.emod_lt_of_pos a (show 0<p by omega)
 have rn:a%p≠0:=fun z=>ha (Int.dvd_of_emod_eq_zero z)
 obtain⟨g,G⟩:=Crt.zG (a:=a%p) (b:=p) (by omega) (by omega)
 have gl:=Int.le_of_dvd (show 0<a%p by omega) G.da
 have g1:g=1:=by
  have g0:=G.pos
  rcases (by omega:g=1∨2≤g) with z | z
  ·exact z
  ·exact absurd G.db (h.no g z (by omega))
 obtain⟨u,v,e⟩:=G.lin
 rw [g1] at e
 exact Co.vV ⟨u,v,e⟩ (Al.rest p a)
theorem Pm.or {p a b:Int} (h:Pm p) (hd:p∣a*b) (ha:¬p∣a):p∣b:=(h.co ha).dvd hd
theorem Pm.rZ {p:Int} (h:Pm p):¬Al p 0 1:=fun z=>by
 have h2:=h.two
 have z':p∣0-1:=z
 have z2:=(Int.dvd_neg).mpr z'
 rw [show -((0:Int)-1)=1 by decide] at z2
 have:=Int.le_of_dvd (show (0:Int)<1 by decide) z2
 omega
def H:Int→List Int→Int→Int
 | acc,[],_=>acc
 | acc,c::cs,x=>H (acc*x+c) cs x
theorem uM (x:Int):∀(cs:List Int) (a b:Int),H (a+b) cs x=H a cs x+b*x^cs.length
 | [],a,b=>by rw [List.length_nil,Int.pow_zero,Int.mul_one];rfl
 | c::cs,a,b=>by
  show H ((a+b)*x+c) cs x=H (a*x+c) cs x+b*x^(cs.length+1)
  rw [show (a+b)*x+c=(a*x+c)+b*x by rw [Int.add_mul];omega,uM x cs,Int.pow_succ,Int.mul_assoc,Int.mul_comm x]
def zk (r:Int):Int→List Int→List Int
 | _,[]=>[]
 | _,[_]=>[]
 | c0,c::c'::cs=>(c0*r+c)::zk r (c0*r+c) (c'::cs)
theorem nh (r:Int):∀(cs:List Int) (c0:Int),(zk r c0 cs).length=cs.length-1
 | [],_=>rfl
 | [_],_=>rfl
 | c::c'::cs,c0=>by
  show (zk r (c0*r+c) (c'::cs)).length+1=_
  rw [nh r (c'::cs)]
  simp
theorem factor (x r:Int):∀(cs:List Int) (c0:Int),cs≠[]→H c0 cs x-H c0 cs r=(x-r)*H c0 (zk r c0 cs) x
 | [],_,h=>absurd rfl h
 | [c],c0,_=>by
  show c0*x+c-(c0*r+c)=(x-r)*c0
  rw [Int.sub_mul,Int.mul_comm c0 x,Int.mul_comm c0 r]
  omega
 | c::c'::cs,c0,_=>by
  have ih:=factor x r (c'::cs) (c0*r+c) (by simp)
  show H (c0*x+c) (c'::cs) x-H (c0*r+c) (c'::cs) r=(x-r)*H (c0*x+(c0*r+c)) (zk r (c0*r+c) (c'::cs)) x
  have e1:c0*x+c=(c0*r+c)+c0*(x-r):=by rw [Int.mul_sub];omega
  have e2:H (c0*x+(c0*r+c)) (zk r (c0*r+c) (c'::cs)) x=H (c0*r+c) (zk r (c0*r+c) (c'::cs)) x+c0*x*x^cs.length:=by
   rw [Int.add_comm (c0*x),uM,nh]
   simp
  rw [e1,uM,e2,List.length_cons,Int.pow_succ,Int.mul_add,← ih]
  generalize H (c0*r+c) (c'::cs) x=A
  generalize H (c0*r+c) (c'::cs) r=B
  generalize x^cs.length=Y
  grind
theorem roots {p:Int} (hp:Pm p):∀(n:Nat) (cs:List Int) (c0:Int),cs.length=n→¬p∣c0→∀ rs:List Int,rs.Pairwise (fun a b=>¬Al p a b)→(∀ r∈rs,p∣H c0 cs r)→rs.length≤n:=by
 intro n
 induction n with
 | zero =>
  intro cs c0 hl h0 rs hr hz
  have:cs=[]:=List.eq_nil_of_length_eq_zero hl
  subst this
  cases rs with
  | nil=>exact Nat.le_refl _
  | cons r rs=>exact absurd (hz r (by simp)) h0
 | succ n ih =>
  intro cs c0 hl h0 rs hr hz
  cases rs with
  | nil=>exact Nat.zero_le _
  | cons r rs =>
   have hne:cs≠[]:=fun z=>by rw [z] at hl;simp at hl
   obtain⟨h1,h2⟩:=List.pairwise_cons.mp hr
   have:=ih (zk r c0 cs) c0 (by rw [nh,hl];rfl) h0 rs h2 fun s hs=>by
    have e:=factor s r cs c0 hne
    have d1:=hz s (List.mem_cons_of_mem _ hs)
    have d2:=hz r (by simp)
    have d3:=Int.dvd_sub d1 d2
    rw [e] at d3
    exact hp.or d3 fun z=>h1 s hs (Al.symm z)
   simpa using this
theorem uN (x:Int):∀(n:Nat) (a:Int),H a (List.replicate n 0++[-1]) x=a*x^(n+1)-1
 | 0,a=>by
  show a*x + -1=_
  rw [Int.pow_succ,Int.pow_zero,Int.one_mul];omega
 | n+1,a=>by
  show H (a*x+0) (List.replicate n 0++[-1]) x=_
  rw [uN x n,Int.add_zero,Int.pow_succ x (n+1),Int.mul_comm (x^(n+1)) x,Int.mul_assoc]
theorem yf {p:Int} (hp:Pm p) {n:Nat} (hn:0<n) (h:∀ a:Int,¬p∣a→Al p (a^n) 1):p-1≤n:=by
 have h2:=hp.two
 obtain⟨m,rfl⟩:∃ m,n=m+1:=⟨n-1,by omega⟩
 have key:=roots hp (m+1) (List.replicate m 0++[-1]) 1 (by simp) (fun z=>by have:=Int.le_of_dvd (by decide) z;omega) ((List.range (p-1).toNat).map fun i:Nat=>(i:Int)+1) ?_ ?_
 ·rw [List.length_map,List.length_range] at key
  omega
 ·rw [List.pairwise_map]
  refine List.Pairwise.imp_of_mem (R:=(·<·)) (fun {a b} ha hb hab z=>?_) List.pairwise_lt_range
  have hb':=List.mem_range.mp hb
  have:=Int.le_of_dvd (by omega) (Al.symm z)
  omega
 ·intro r hr
  obtain⟨i,hi,rfl⟩:=List.mem_map.mp hr
  have hi':=List.mem_range.mp hi
  rw [uN,Int.one_mul]
  exact h _ fun z=>by have:=Int.le_of_dvd (by omega) z;omega
theorem lQ {f:Nat→Nat} {n:Nat} (h:∀ i j,i<j→j<n→f i≠f j):((List.range n).map f).Nodup:=by
 show List.Pairwise _ _
 rw [List.pairwise_map]
 exact List.Pairwise.imp_of_mem (R:=(·<·)) (fun {a b} ha hb hab=>h a b hab (List.mem_range.mp hb)) List.pairwise_lt_range
theorem rest_eq {p x y:Int} (hp:0<p) (e:(x%p).toNat=(y%p).toNat):Al p x y:=by
 have h1:=Int.emod_nonneg x (show p≠0 by omega)
 have h2:=Int.emod_nonneg y (show p≠0 by omega)
 exact Al.iff.mpr (by omega)
theorem back {n a:Int} (hn:2≤n) (c:Co a n):∃ d:Nat,0<d∧(d:Int)≤n∧Al n (a^d) 1:=by
 by_cases z:∃ i j:Nat,i<j∧j<n.toNat+1∧Al n (a^i) (a^j)
 ·obtain⟨i,j,ij,jn,e⟩:=z
  refine⟨j-i,by omega,by omega,?_⟩
  have e1:a^j=a^i*a^(j-i):=by rw [← Pw.pow_add];congr 1;omega
  rw [e1] at e
  have e2:Al n (a^i*1) (a^i*a^(j-i)):=by rw [Int.mul_one];exact e
  exact ((c.pow i).cancel e2).symm
 ·exfalso
  have nd:=lQ (f:=fun i=>(a^i%n).toNat) (n:=n.toNat+1) fun i j ij jn e=>z ⟨i,j,ij,jn,rest_eq (by omega) e⟩
  have:=wD n.toNat _ nd fun x hx=>by
   obtain⟨i,_,rfl⟩:=List.mem_map.mp hx
   have h1:=Int.emod_nonneg (a^i) (show n≠0 by omega)
   have h2:=Int.emod_lt_of_pos (a^i) (show 0<n by omega)
   show (a^i%n).toNat<n.toNat
   omega
  rw [List.length_map,List.length_range] at this
  omega
def fact:Nat→Nat
 | 0=>1
 | n+1=>(n+1)*fact n
theorem oJ:∀ n,0<fact n
 | 0=>by decide
 | n+1=>Nat.mul_pos (Nat.succ_pos n) (oJ n)
theorem oB {d:Nat}:∀ n,0<d→d≤n→d∣fact n
 | 0,h,h'=>by omega
 | n+1,h,h'=>by
  by_cases c:d=n+1
  ·subst c;exact⟨fact n,rfl⟩
  ·exact Nat.dvd_trans (oB n h (by omega)) ⟨n+1,Nat.mul_comm _ _⟩
theorem Ord.mul {n a b:Int} {k m:Nat} (ha:Ord n a k) (hb:Ord n b m) (ca:Co a n) (cb:Co b n) (co:Nat.Coprime k m):Ord n (a*b) (k*m):=by
 refine⟨Nat.mul_pos ha.pos hb.pos,?_,fun j hj=>?_⟩
 ·rw [Pw.mul_pow]
  have h1:=bc (k:=m) ha.one
  have h2:=bc (k:=k) hb.one
  rw [Nat.mul_comm m k] at h2
  exact h1.mul h2
 ·rw [Pw.mul_pow] at hj
  have d1:k∣j:=by
   have e:=hj.pow m
   rw [Pw.one_pow,Pw.mul_pow,← Pw.pow_mul,← Pw.pow_mul] at e
   have h2:=bc (k:=j) hb.one
   rw [Nat.mul_comm m j] at h2
   have e2:Al n (a^(j*m)) 1:=by
    have:=(Al.refl n (a^(j*m))).mul h2.symm
    rw [Int.mul_one] at this
    exact this.trans e
   exact Nat.Coprime.dvd_of_dvd_mul_right co (ha.dv _ e2)
  have d2:m∣j:=by
   have e:=hj.pow k
   rw [Pw.one_pow,Pw.mul_pow,← Pw.pow_mul,← Pw.pow_mul] at e
   have h2:=bc (k:=j) ha.one
   rw [Nat.mul_comm k j] at h2
   have e2:Al n (b^(j*k)) 1:=by
    have:=h2.symm.mul (Al.refl n (b^(j*k)))
    rw [Int.one_mul] at this
    exact this.trans e
   exact Nat.Coprime.dvd_of_dvd_mul_right co.symm (hb.dv _ e2)
  exact Nat.Coprime.mul_dvd_of_dvd_of_dvd co d1 d2
end Num
namespace Num
def Nm (q:Nat):Prop:=2≤q∧∀ d,2≤d→d<q→¬d∣q
theorem zW {m:Nat} (h:2≤m):∃ q,Nm q∧q∣m:=by
 obtain⟨q,⟨q2,qm⟩,no⟩:=fL (P:=fun d=>2≤d∧d∣m) m ⟨h,Nat.dvd_refl m⟩
 exact⟨q,⟨q2,fun d d2 dq hd=>no d dq ⟨d2,Nat.dvd_trans hd qm⟩⟩,qm⟩
theorem Nm.co {q m:Nat} (h:Nm q) (hm:¬q∣m):Nat.Coprime q m:=by
 have hg:=Nat.gcd_dvd_left q m
 have g0:0<Nat.gcd q m:=Nat.gcd_pos_of_pos_left m (by have:=h.1;omega)
 have gl:=Nat.le_of_dvd (by have:=h.1;omega) hg
 rcases (by omega:Nat.gcd q m=1∨(2≤Nat.gcd q m∧Nat.gcd q m<q)∨Nat.gcd q m=q) with z | ⟨z1,z2⟩ | z
 ·exact z
 ·exact absurd hg (h.2 _ z1 z2)
 ·exact absurd (z▸Nat.gcd_dvd_right q m) hm
theorem xy {q:Nat} (hq:2≤q):∀ m:Nat,0<m→∃ k m',m=q^k*m'∧¬q∣m':=by
 intro m
 induction m using Nat.strongRecOn with
 | ind m ih =>
  intro hm
  by_cases c:q∣m
  ·obtain⟨t,ht⟩:=c
   have t0:0<t:=by
    rcases Nat.eq_zero_or_pos t with z | z
    ·subst z;omega
    ·exact z
   have tm:t<m:=by
    rw [ht]
    have:=Nat.mul_le_mul_right t hq
    omega
   obtain⟨k,m',e,hn⟩:=ih t tm t0
   exact⟨k+1,m',by rw [ht,e,Nat.pow_succ,Nat.mul_comm (q^k) q,Nat.mul_assoc],hn⟩
  ·exact⟨0,m,by simp,c⟩
theorem sr {q:Nat} (h:Nm q):∀(k d:Nat),d∣q^(k+1)→¬d∣q^k→d=q^(k+1):=by
 intro k
 induction k with
 | zero =>
  intro d h1 h2
  rw [Nat.zero_add,Nat.pow_one] at h1 ⊢
  rw [Nat.pow_zero] at h2
  have q2:=h.1
  have d0:0<d:=Nat.pos_of_dvd_of_pos h1 (by omega)
  have dl:=Nat.le_of_dvd (by omega) h1
  rcases (by omega:d=1∨(2≤d∧d<q)∨d=q) with z | ⟨z1,z2⟩ | z
  ·exact absurd (z▸Nat.dvd_refl 1) h2
  ·exact absurd h1 (h.2 d z1 z2)
  ·exact z
 | succ k ih =>
  intro d h1 h2
  by_cases c:q∣d
  ·obtain⟨t,ht⟩:=c
   have q0:0<q:=by have:=h.1;omega
   rw [ht,Nat.pow_succ,Nat.mul_comm (q^(k+1)) q] at h1
   rw [ht,Nat.pow_succ,Nat.mul_comm (q^k) q] at h2
   have e1:=Nat.dvd_of_mul_dvd_mul_left q0 h1
   have e2:¬t∣q^k:=fun z=>h2 (Nat.mul_dvd_mul_left q z)
   rw [ht,ih t e1 e2,Nat.pow_succ q (k+1),Nat.mul_comm]
  ·have co:Nat.Coprime (q^(k+1+1)) d:=Nat.Coprime.pow_left _ (h.co c)
   have:d∣1:=by
    have:=Nat.dvd_gcd h1 (Nat.dvd_refl d)
    rwa [co] at this
   exact absurd (Nat.dvd_trans this (Nat.one_dvd _)) h2
section
variable {p:Int} {L:Nat}
structure Ex (p:Int) (L:Nat):Prop where
 pos:0<L
 all:∀ a:Int,¬p∣a→Al p (a^L) 1
 no:∀ j,0<j→j<L→∃ a:Int,¬p∣a∧¬Al p (a^j) 1
theorem Pm.unit {p a:Int} (hp:Pm p) (c:Co a p):¬p∣a:=fun h=>by
 obtain⟨u,v,e⟩:=c
 have h1:p∣u*a:=Int.dvd_mul_of_dvd_right h
 have h2:p∣v*p:=⟨v,Int.mul_comm _ _⟩
 have:=Int.dvd_add h1 h2
 rw [e] at this
 have:=Int.le_of_dvd (by decide) this
 have:=hp.two
 omega
theorem zQ (hp:Pm p):∃ L,Ex p L:=by
 have h2:=hp.two
 have uni:∀ a:Int,¬p∣a→Al p (a^fact p.toNat) 1:=fun a ha=>by
  obtain⟨d,d0,d1,e⟩:=back h2 (hp.co ha)
  obtain⟨t,ht⟩:=oB p.toNat d0 (by omega)
  rw [ht]
  exact bc e
 obtain⟨L,⟨l0,l1⟩,no⟩:=fL (P:=fun j=>0<j∧∀ a:Int,¬p∣a→Al p (a^j) 1) (fact p.toNat) ⟨oJ _,uni⟩
 refine⟨L,l0,l1,fun j j0 jl=>?_⟩
 have:=no j jl
 by_cases z:∃ a:Int,¬p∣a∧¬Al p (a^j) 1
 ·exact z
 ·exact absurd ⟨j0,fun a ha=>Classical.byContradiction fun w=>z ⟨a,ha,w⟩⟩ this
theorem pB (hp:Pm p) (h:Ex p L):∀ m:Nat,0<m→m∣L→∃ x:Int,Co x p∧Ord p x m:=by
 intro m
 induction m using Nat.strongRecOn with
 | ind m ih =>
  intro hm hd
  by_cases c:m=1
  ·subst c
   exact⟨1,⟨1,0,by omega⟩,by decide,by rw [Int.pow_succ,Int.pow_zero];exact Al.refl _ _,fun j _=>Nat.one_dvd j⟩
  ·obtain⟨q,hq,qm⟩:=zW (show 2≤m by omega)
   obtain⟨k,m',e,hn⟩:=xy hq.1 m hm
   have q0:0<q:=by have:=hq.1;omega
   obtain⟨k',rfl⟩:∃ k',k=k'+1:=by
    cases k with
    | zero=>rw [Nat.pow_zero,Nat.one_mul] at e;exact absurd (e▸qm) hn
    | succ k'=>exact⟨k',rfl⟩
   have m0:0<m':=by
    rcases Nat.eq_zero_or_pos m' with z | z
    ·rw [z,Nat.mul_zero] at e;omega
    ·exact z
   have qk:2≤q^(k'+1):=by
    rw [Nat.pow_succ]
    have:=Nat.mul_le_mul (Nat.pow_pos (n:=k') q0) hq.1
    omega
   have mm:m'<m:=by
    rw [e]
    have:=Nat.mul_le_mul_right m' qk
    omega
   obtain⟨y,cy,oy⟩:=ih m' mm m0 (Nat.dvd_trans ⟨q^(k'+1),by rw [e,Nat.mul_comm]⟩ hd)
   have dq:q^(k'+1)∣L:=Nat.dvd_trans ⟨m',e⟩ hd
   obtain⟨T,hT⟩:=dq
   have T0:0<T:=by
    rcases Nat.eq_zero_or_pos T with z | z
    ·rw [z,Nat.mul_zero] at hT;have:=h.pos;omega
    ·exact z
   have eL:L=q*(q^k'*T):=by rw [hT,Nat.pow_succ,Nat.mul_comm (q^k') q,Nat.mul_assoc]
   have jp:0<q^k'*T:=Nat.mul_pos (Nat.pow_pos q0) T0
   have jl:q^k'*T<L:=by
    rw [eL]
    have:=Nat.mul_le_mul_right (q^k'*T) hq.1
    omega
   obtain⟨a,ha,hna⟩:=h.no _ jp jl
   have ca:=hp.co ha
   have z1:Al p ((a^T)^(q^(k'+1))) 1:=by
    rw [← Pw.pow_mul,Nat.mul_comm,← hT]
    exact h.all a ha
   have z2:¬Al p ((a^T)^(q^k')) 1:=by
    rw [← Pw.pow_mul,Nat.mul_comm]
    exact hna
   obtain⟨d,od,_⟩:=iX (Nat.pow_pos q0) z1
   have d1:=od.dv _ z1
   have d2:¬d∣q^k':=fun w=>z2 (by obtain⟨t,ht⟩:=w;rw [ht];exact bc od.one)
   have ed:=sr hq k' d d1 d2
   subst ed
   refine⟨a^T*y,(ca.pow T).mul cy,?_⟩
   rw [e]
   exact od.mul oy (ca.pow T) cy (Nat.Coprime.pow_left _ (hq.co hn))
theorem zR (hp:Pm p) (h:Ex p L):(L:Int)=p-1:=by
 have h2:=hp.two
 have h1:=yf hp h.pos h.all
 obtain⟨g,cg,og⟩:=pB hp h L h.pos (Nat.dvd_refl L)
 have nd:=lQ (f:=fun i=>(g^i%p).toNat-1) (n:=L) fun i j ij jn e=>by
  have r1:∀ k:Nat,1≤(g^k%p).toNat:=fun k=>by
   have a1:=Int.emod_nonneg (g^k) (show p≠0 by omega)
   have:g^k%p≠0:=fun z=>hp.unit (cg.pow k) (Int.dvd_of_emod_eq_zero z)
   omega
  have e':(g^i%p).toNat=(g^j%p).toNat:=by
   have:=r1 i
   have:=r1 j
   have e:(g^i%p).toNat-1=(g^j%p).toNat-1:=e
   omega
  have:=og.inj cg (by omega) jn (rest_eq (by omega) e')
  omega
 have:=wD (p-1).toNat _ nd fun x hx=>by
  obtain⟨i,_,rfl⟩:=List.mem_map.mp hx
  have a1:=Int.emod_nonneg (g^i) (show p≠0 by omega)
  have a2:=Int.emod_lt_of_pos (g^i) (show 0<p by omega)
  have:g^i%p≠0:=fun z=>hp.unit (cg.pow i) (Int.dvd_of_emod_eq_zero z)
  show (g^i%p).toNat-1<(p-1).toNat
  omega
 rw [List.length_map,List.length_range] at this
 omega
theorem gP (hp:Pm p) {a:Int} (ha:¬p∣a):Al p (a^(p-1).toNat) 1:=by
 obtain⟨L,h⟩:=zQ hp
 have:=zR hp h
 rw [show (p-1).toNat=L by omega]
 exact h.all a ha
theorem qz (hp:Pm p) {m:Nat} (h0:0<m) (hd:m∣(p-1).toNat):∃ x:Int,1≤x∧x<p∧Ord p x m:=by
 obtain⟨L,h⟩:=zQ hp
 have:=zR hp h
 have h2:=hp.two
 obtain⟨x,cx,ox⟩:=pB hp h m h0 (by rwa [show (p-1).toNat=L by omega] at hd)
 have a1:=Int.emod_nonneg x (show p≠0 by omega)
 have a2:=Int.emod_lt_of_pos x (show 0<p by omega)
 have a3:x%p≠0:=fun z=>hp.unit cx (Int.dvd_of_emod_eq_zero z)
 refine⟨x%p,by omega,a2,ox.pos,((Al.rest p x).pow m).trans ox.one,fun j hj=>ox.dv j (((Al.rest p x).pow j).symm.trans hj)⟩
theorem yu (hp:Pm p):∃ g:Int,1≤g∧g<p∧Ord p g (p-1).toNat:=qz hp (by have:=hp.two;omega) (Nat.dvd_refl _)
end
end Num
namespace Num
theorem Co.AZ {n a:Int} {m:Nat} (h:Al n (a^(m+1)) 1):Co a n:=by
 obtain⟨c,hc⟩:=h
 refine⟨a^m,-c,?_⟩
 rw [Int.pow_succ] at hc
 rw [Int.neg_mul,Int.mul_comm c n]
 omega
theorem wx {n a:Int} {e:Nat} (h0:0<e) (h1:Al n (a^e) 1) (no:∀ q,Nm q→q∣e→¬Al n (a^(e/q)) 1):Ord n a e:=by
 obtain⟨m,om,_⟩:=iX h0 h1
 have d:=om.dv _ h1
 by_cases z:m=e
 ·subst z;exact om
 ·exfalso
  obtain⟨t,ht⟩:=d
  have t2:2≤t:=by
   rcases (by omega:t=0∨t=1∨2≤t) with w | w | w
   ·rw [w] at ht;omega
   ·rw [w,Nat.mul_one] at ht;exact absurd ht.symm z
   ·exact w
  obtain⟨q,hq,r,hr⟩:=zW t2
  have q0:0<q:=by have:=hq.1;omega
  have e1:e=q*(m*r):=by rw [ht,hr,← Nat.mul_assoc,Nat.mul_comm m q,Nat.mul_assoc]
  refine no q hq ⟨m*r,e1⟩ ?_
  rw [e1,Nat.mul_div_cancel_left _ q0]
  exact bc om.one
theorem Ord.DO {n a:Int} {e:Nat} (h:Ord n a e) {q:Nat} (hq:Nm q) (hd:q∣e):¬Al n (a^(e/q)) 1:=fun z=>by
 have q0:0<q:=by have:=hq.1;omega
 obtain⟨r,hr⟩:=hd
 rw [hr,Nat.mul_div_cancel_left _ q0] at z
 have d:=h.dv _ z
 have r0:0<r:=by
  rcases Nat.eq_zero_or_pos r with w | w
  ·rw [w,Nat.mul_zero] at hr;have:=h.pos;omega
  ·exact w
 have:=Nat.le_of_dvd r0 d
 have:=Nat.mul_le_mul_right r hq.1
 omega
end Num
namespace Num
theorem wF {n r:Int} (h:Ld.fB n r):Pm r:=⟨h.two,fun d d2 dr hd=>h.no d d2 dr (Int.dvd_trans hd h.dv)⟩
def bH:List (Int × Int)→Int
 | []=>1
 | p::r=>p.1^p.2.toNat*bH r
theorem kH:∀(ps:List (Int × Int)) (p:Int × Int),bH (ps++[p])=bH ps*p.1^p.2.toNat
 | [],p=>by show p.1^_*1=1*_;omega
 | q::r,p=>by
  show q.1^q.2.toNat*bH (r++[p])=q.1^q.2.toNat*bH r*_
  rw [kH r p,Int.mul_assoc]
structure Part (n:Int) (ps:List (Int × Int)):Prop where
 ok:∀ p∈ps,Pm p.1∧1≤p.2∧p.2≤30
 rise:ps.Pairwise fun a b=>a.1<b.1
 prod:bH ps=n
theorem bh {q:Int} (h:0<q):∀ k:Nat,0<q^k
 | 0=>by rw [Int.pow_zero];decide
 | k+1=>by rw [Int.pow_succ];exact Int.mul_pos (bh h k) h
theorem two_pow_le {q:Int} (h:2≤q):∀ k:Nat,(2:Int)^k≤q^k
 | 0=>by rw [Int.pow_zero,Int.pow_zero];exact Int.le_refl _
 | k+1=>by
  rw [Int.pow_succ,Int.pow_succ]
  exact Int.mul_le_mul (two_pow_le h k) h (by decide) (Int.le_of_lt (bh (by omega) k))
theorem two_le:∀{k:Nat},(2:Int)^k≤10^9→k≤29:=by
 intro k h
 by_cases c:k≤29
 ·exact c
 ·exfalso
  have e:k=30+(k-30):=by omega
  rw [e,Pw.pow_add] at h
  have:=bh (show (0:Int)<2 by decide) (k-30)
  have h2:=Int.mul_le_mul_of_nonneg_left (show (1:Int)≤2^(k-30) by omega) (show (0:Int)≤2^30 by decide)
  have:(2:Int)^30=1073741824:=by decide
  omega
structure Way (n:Int) (ps:List (Int × Int)) (left prime:Int):Prop where
 ok:∀ p∈ps,Pm p.1∧1≤p.2∧p.2≤30
 rise:ps.Pairwise fun a b=>a.1<b.1
 prod:bH ps*left=n
 pos:1≤left
 inv:Ld.Inv left prime
 le:∀ p∈ps,p.1≤prime
 gone:ps=[]∨¬prime∣left
 two:(2:Int)^ps.length*left≤n
theorem Way.start {n:Int} (h:1≤n):Way n [] n 2:=⟨fun _ z=>by simp at z,List.Pairwise.nil,by show 1*n=n;omega,h,⟨by decide,.inl rfl,fun d d0 d1=>by omega⟩,fun _ z=>by simp at z,.inl rfl,by rw [List.length_nil,Int.pow_zero];omega⟩
theorem Way.step {n left prime r left':Int} {ps:List (Int × Int)} {k:Nat} (w:Way n ps left prime) (hn:n≤10^9) (hl:1<left) (h:Ld.fB left r) (e:left=r^k*left') (l0:1≤left') (hk:1≤k) (hg:¬r∣left'):Way n (ps++[(r,(k:Int))]) left' r:=by
 have r2:=h.two
 have pm:=wF h
 have rp:prime≤r:=by
  rcases (by omega:prime≤r∨r<prime) with z | z
  ·exact z
  ·exact absurd h.dv (w.inv.no r r2 z)
 have rk:=bh (show 0<r by omega) k
 have k2:=two_pow_le r2 k
 have kl:(2:Int)^k≤left:=by
  have:=Int.mul_le_mul k2 l0 (by decide) (Int.le_of_lt rk)
  rw [Int.mul_one] at this
  omega
 have ln:left≤n:=by
  have z:=w.two
  have p0:=bh (show (0:Int)<2 by decide) ps.length
  have:=Int.mul_le_mul_of_nonneg_right (show (1:Int)≤2^ps.length by omega) (show 0≤left by omega)
  omega
 have k29:=two_le (k:=k) (by omega)
 refine⟨fun p hp=>?_,?_,?_,l0,?_,fun p hp=>?_,.inr hg,?_⟩
 ·rcases List.mem_append.mp hp with z | z
  ·exact w.ok p z
  ·rw [List.mem_singleton.mp z]
   exact⟨pm,by show (1:Int)≤k;omega,by show (k:Int)≤30;omega⟩
 ·refine List.pairwise_append.mpr ⟨w.rise,List.pairwise_singleton _ _,fun a ha b hb=>?_⟩
  rw [List.mem_singleton.mp hb]
  show a.1<r
  have:=w.le a ha
  rcases w.gone with z | z
  ·rw [z] at ha;simp at ha
  ·have:prime≠r:=fun y=>z (y▸h.dv)
   omega
 ·rw [kH,← w.prod,e]
  show bH ps*r^((k:Int).toNat)*left'=_
  rw [Int.toNat_natCast,Int.mul_assoc]
 ·refine⟨r2,?_,fun d d0 d1 hd=>h.no d d0 d1 (by rw [e];exact Int.dvd_mul_of_dvd_right hd)⟩
  rcases (by omega:r=2∨2<r) with z | z
  ·exact .inl z
  ·refine .inr ?_
   rcases (by omega:r%2=1∨r%2=0) with y | y
   ·exact y
   ·exact absurd (Int.dvd_of_emod_eq_zero y) (pm.no 2 (by decide) z)
 ·rcases List.mem_append.mp hp with z | z
  ·have:=w.le p z;omega
  ·rw [List.mem_singleton.mp z];exact Int.le_refl _
 ·rw [List.length_append,List.length_singleton,Pw.pow_add,Int.pow_succ,Int.pow_zero,Int.one_mul,Int.mul_assoc]
  refine Int.le_trans (Int.mul_le_mul_of_nonneg_left ?_ (Int.le_of_lt (bh (by decide) _))) w.two
  rw [e]
  obtain⟨k',rfl⟩:∃ k',k=k'+1:=⟨k-1,by omega⟩
  have p0:=bh (show 0<r by omega) k'
  have h1:r≤r^(k'+1):=by
   rw [Int.pow_succ]
   have:=Int.mul_le_mul_of_nonneg_right (show 1≤r^k' by omega) (show 0≤r by omega)
   omega
  exact Int.mul_le_mul_of_nonneg_right (show 2≤r^(k'+1) by omega) (show 0≤left' by omega)
theorem Way.done {n prime:Int} {ps:List (Int × Int)} (w:Way n ps 1 prime):Part n ps:=⟨w.ok,w.rise,by have:=w.prod;omega⟩
theorem Way.len {n left prime:Int} {ps:List (Int × Int)} (w:Way n ps left prime) (hn:n≤10^9):ps.length≤29:=by
 refine two_le ?_
 have z:=w.two
 have p0:=bh (show (0:Int)<2 by decide) ps.length
 have:=Int.mul_le_mul_of_nonneg_left w.pos (Int.le_of_lt p0)
 omega
end Num
namespace Num
open PySem
theorem cE:∀{ps:List (Int × Int)} {p:Int × Int},p∈ps→1≤p.2→p.1∣bH ps
 | a::r,p,h,hk=>by
  rcases List.mem_cons.mp h with z | z
  ·subst z
   obtain⟨k,hk'⟩:∃ k,p.2.toNat=k+1:=⟨p.2.toNat-1,by omega⟩
   show p.1∣p.1^p.2.toNat*bH r
   rw [hk',Int.pow_succ]
   exact Int.dvd_mul_of_dvd_left ⟨p.1^k,Int.mul_comm _ _⟩
  ·exact Int.dvd_mul_of_dvd_right (cE z hk)
theorem zY {q:Nat} (h:Nm q):Pm (q:Int):=⟨by have:=h.1;omega,fun d d2 dq hd=>h.2 d.toNat (by omega) (by omega) (by
 obtain⟨c,hc⟩:=hd
 have:(d.toNat:Int)=d:=by omega
 exact Int.natCast_dvd_natCast.mp (by rw [this];exact⟨c,hc⟩))⟩
theorem oW {p:Int} (h:Pm p):Nm p.toNat:=⟨by have:=h.two;omega,fun d d2 dp hd=>h.no d (by omega) (by omega) (by
 have:=Int.natCast_dvd_natCast.mpr hd
 rwa [show (p.toNat:Int)=p by have:=h.two;omega] at this)⟩
theorem rg {p q:Int} (hp:Pm p) (hq:Pm q):∀ k:Nat,q∣p^k→q=p
 | 0,h=>by
  rw [Int.pow_zero] at h
  have:=Int.le_of_dvd (by decide) h
  have:=hq.two
  omega
 | k+1,h=>by
  rw [Int.pow_succ] at h
  by_cases c:q∣p^k
  ·exact rg hp hq k c
  ·have d:=hq.or h c
   have l:=Int.le_of_dvd (by have:=hp.two;omega) d
   rcases (by omega:q<p∨q=p) with z | z
   ·exact absurd d (hp.no q hq.two z)
   ·exact z
theorem cG {q:Int} (hq:Pm q):∀{ps:List (Int × Int)},(∀ p∈ps,Pm p.1)→q∣bH ps→∃ p∈ps,p.1=q
 | [],_,h=>by
  have:=Int.le_of_dvd (by decide) (show q∣1 from h)
  have:=hq.two
  omega
 | a::r,hp,h=>by
  by_cases c:q∣a.1^a.2.toNat
  ·exact⟨a,by simp,(rg (hp a (by simp)) hq _ c).symm⟩
  ·obtain⟨p,h1,h2⟩:=cG hq (fun p z=>hp p (List.mem_cons_of_mem _ z)) (hq.or h c)
   exact⟨p,List.mem_cons_of_mem _ h1,h2⟩
theorem wy {n a e:Int} {ps:List (Int × Int)} (h:Part e ps) (he:1≤e):(Al n (a^e.toNat) 1∧∀ q∈ps.map (·.1),¬Al n (a^(e/q).toNat) 1)↔Ord n a e.toNat:=by
 constructor
 ·rintro⟨h1,h2⟩
  refine wx (by omega) h1 fun q hq hd=>?_
  have hd':(q:Int)∣e:=by
   have:=Int.natCast_dvd_natCast.mpr hd
   rwa [show (e.toNat:Int)=e by omega] at this
  obtain⟨p,hp,ep⟩:=cG (zY hq) (fun p z=>(h.ok p z).1) (by rw [h.prod];exact hd')
  have:=h2 q (List.mem_map.mpr ⟨p,hp,ep⟩)
  rwa [show (e/(q:Int)).toNat=e.toNat/q by
   have:e/(q:Int)=((e.toNat/q:Nat):Int):=by rw [Int.natCast_ediv];congr 1;omega
   rw [this,Int.toNat_natCast]] at this
 ·intro h1
  refine⟨h1.one,fun q hq=>?_⟩
  obtain⟨p,hp,rfl⟩:=List.mem_map.mp hq
  obtain⟨o1,o2,_⟩:=h.ok p hp
  have d:p.1∣e:=by rw [← h.prod];exact cE hp o2
  have t:=o1.two
  have:=h1.DO (oW o1) (by
   have:(p.1.toNat:Int)∣(e.toNat:Int):=by rw [show (p.1.toNat:Int)=p.1 by omega,show (e.toNat:Int)=e by omega];exact d
   exact Int.natCast_dvd_natCast.mp this)
  rwa [show e.toNat/p.1.toNat=(e/p.1).toNat by
   have:e/p.1=((e.toNat/p.1.toNat:Nat):Int):=by rw [Int.natCast_ediv];congr 1<;>omega
   rw [this,Int.toNat_natCast]] at this
structure LF (p g:Int):Prop where
 one:1≤g
 lt:g<p
 ord:Ord p g (p-1).toNat
 no:∀ a:Int,1≤a→a<g→¬Ord p a (p-1).toNat
def rowsOf (ps:List (Int × Int)) (ds:Nat→PyData):List PyData:=(List.range ps.length).map fun i=>.tuple [ds i,.int (ps.getD i (0,0)).2]
theorem bw {ps:List (Int × Int)} {ds:Nat→PyData}:(rowsOf ps ds).length=ps.length:=by unfold rowsOf;rw [List.length_map,List.length_range]
theorem gU {ps:List (Int × Int)} {ds:Nat→PyData} {i:Nat} {p:Int × Int} (h:ps[i]?=some p):(rowsOf ps ds)[i]?=some (.tuple [ds i,.int p.2]):=by
 have hi:=(List.getElem?_eq_some_iff.mp h).1
 unfold rowsOf
 rw [List.getElem?_map,List.getElem?_range hi]
 show some (PyData.tuple [ds i,.int (ps.getD i (0,0)).2])=_
 rw [List.getD_eq_getElem?_getD,h]
 rfl
inductive gA:Int→PyData→Prop
 | mk (p g:Int) (ps:List (Int × Int)) (ds:Nat→PyData):Pm p→p≤10^9→LF p g→Part (p-1) ps→ps.length≤29→(∀ i q k,ps[i]?=some (q,k)→gA q (ds i))→gA p (.tuple [.int p,.int g,.tuple (rowsOf ps ds)])
theorem gA.head {p:Int} {d:PyData} (h:gA p d):∃ g rows,d=.tuple [.int p,.int g,.tuple rows]:=by
 cases h
 exact⟨_,_,rfl⟩
def Ht:Nat→Int→Prop
 | 0,_=>False
 | L+1,n=>∀ q:Int,Pm q→q∣n-1→Ht L q
theorem zS:∀(L:Nat) (n:Int),Pm n→n<2^(L+2)→Ht (L+2) n
 | 0,n,h,hn=>by
  have h2:=h.two
  have hn':n<4:=hn
  intro q hq hd
  intro q' hq' hd'
  have q2:=hq.two
  have l:=Int.le_of_dvd (by rcases (by omega:n=2∨n=3) with z | z;exfalso;rw [z] at hd;have:=Int.le_of_dvd (by decide) hd;omega;omega) hd
  have qq:q=2:=by omega
  rw [qq] at hd'
  have:=Int.le_of_dvd (by decide) hd'
  have:=hq'.two
  omega
 | L+1,n,h,hn=>by
  intro q hq hd
  have q2:=hq.two
  have h2:=h.two
  refine zS L q hq ?_
  have e:(2:Int)^(L+1+2)=2^(L+2)*2:=by rw [← Int.pow_succ]
  rw [e] at hn
  have four:(4:Int)≤2^(L+2):=by
   have:=bh (show (0:Int)<2 by decide) L
   have e4:(2:Int)^(L+2)=2^L*4:=by rw [Pw.pow_add];rfl
   omega
  obtain⟨c,hc⟩:=hd
  rcases (by omega:n≤3∨3<n) with z | z
  ·have:q≤n-1:=Int.le_of_dvd (by
    rcases (by omega:n=2∨n=3) with y | y
    ·exfalso
     rw [y] at hc
     have:=Int.le_of_dvd (by decide) (show q∣1 from ⟨c,hc⟩)
     omega
    ·omega) ⟨c,hc⟩
   omega
  ·rcases (by omega:n%2=0∨n%2=1) with y | y
   ·exact absurd (Int.dvd_of_emod_eq_zero y) (h.no 2 (by decide) (by omega))
   ·rcases (by omega:q=2∨2<q) with x | x
    ·omega
    ·have qo:q%2=1:=by
      rcases (by omega:q%2=1∨q%2=0) with w | w
      ·exact w
      ·exact absurd (Int.dvd_of_emod_eq_zero w) (hq.no 2 (by decide) x)
     have ce:c%2=0:=by
      rcases (by omega:c%2=0∨c%2=1) with w | w
      ·exact w
      ·exfalso
       have:(q*c)%2=1:=by rw [Int.mul_emod,qo,w];rfl
       omega
     have c2:2≤c:=by
      rcases (by omega:c≤0∨2≤c) with w | w
      ·have:=Int.mul_nonpos_of_nonneg_of_nonpos (show 0≤q by omega) w
       omega
      ·exact w
     have:=Int.mul_le_mul_of_nonneg_left c2 (show 0≤q by omega)
     omega
theorem AE {n:Int} (h:Pm n) (hn:n≤10^9):Ht 30 n:=zS 28 n h (by
 have:(2:Int)^(28+2)=1073741824:=by decide
 omega)
end Num
namespace L2
open PySem PySem.Spec PyProof.Rows
def D0:PyData→String
 | .none => "NoneType"
 | .bool _ => "bool"
 | .int _ => "int"
 | .str _ => "str"
 | .list _ => "list"
 | .tuple _ => "tuple"
 | .dict _ => "dict"
def vE:PyData→Bool
 | .int _=>true
 | _=>false
def Dm:PyData→Bool
 | .bool _=>true
 | _=>false
def Cj:PyData→Bool
 | .tuple _=>true
 | _=>false
def Dp:PyData→Bool
 | .list _=>true
 | _=>false
section
variable {X:Cx} {K:PySem.W.Frag}
def pO (K:PySem.W.Frag):List V→Hp→VK→Prop:=fun xs H Q=>∃ d x n b,xs=[x,.ty n]∧dv K H d x∧PySem.W.kitOne K (.type (D0 d)) (.type n)=some b∧Q (.bl b) H
theorem cO:cD X (.builtin "isinstance") (pO X.K):=by
 intro pins s σ H xs us Q I r h
 obtain⟨d,x,n,b,rfl,hd,ek,q⟩:=h
 obtain⟨u,w',rfl,rx,rc⟩:=vals2 r
 have e:w'=.type n:=rc
 subst e
 have fin:∀ tk,∃ v' H',Inv X pins σ H' { s with toks:=tk }∧RelV v' (.bool b)∧Q v' H':=fun tk=>⟨.bl b,H,I.tok _,rfl,q⟩
 cases d with
 | none=>cases hd;exact gh I rx gB.non ek fin
 | bool y=>cases hd;exact gh I rx (gB.bl _) ek fin
 | int y=>cases hd;exact gh I rx (gB.int _) ek fin
 | str y=>cases hd;exact gh I rx (gB.str _) ek fin
 | list ds =>
  obtain⟨p,ys,rfl,h,t⟩:=hd
  cases rx
  obtain⟨its,rr,pl,_⟩:=I.list h
  obtain⟨o,h1,h2,_⟩:=pl.isList
  exact PySem.W.kia_one PySem.W.kitx_list I.fH ⟨o,h1,h2⟩ ek (fun z=>nomatch z) fin
 | tuple ds =>
  obtain⟨p,ys,rfl,h,t⟩:=hd
  cases rx
  obtain⟨its,rr,pl,_⟩:=I.tuple h
  obtain⟨o,h1,h2,_⟩:=pl
  exact PySem.W.kia_one PySem.W.kitx_tuple I.fH ⟨o,h1,h2⟩ ek (fun z=>nomatch z) fin
 | dict _=>exact hd.elim
theorem yy {H:Hp} {d:PyData} {x:V} {Q:VK} (h:dv K H d x) (q:Q (.bl (vE d || Dm d)) H):pO K [x,.ty "int"] H Q:=by
 refine⟨d,x,"int",_,rfl,h,?_,q⟩
 cases d<;>first | exact h.elim | with_unfolding_all rfl
theorem vF {H:Hp} {d:PyData} {x:V} {Q:VK} (h:dv K H d x) (q:Q (.bl (Dm d)) H):pO K [x,.ty "bool"] H Q:=by
 refine⟨d,x,"bool",_,rfl,h,?_,q⟩
 cases d<;>first | exact h.elim | with_unfolding_all rfl
theorem fc {H:Hp} {d:PyData} {x:V} {Q:VK} (h:dv K H d x) (q:Q (.bl (Cj d)) H):pO K [x,.ty "tuple"] H Q:=by
 refine⟨d,x,"tuple",_,rfl,h,?_,q⟩
 cases d<;>first | exact h.elim | with_unfolding_all rfl
theorem jE {H:Hp} {d:PyData} {x:V} {Q:VK} (h:dv K H d x) (q:Q (.bl (Dp d)) H):pO K [x,.ty "list"] H Q:=by
 refine⟨d,x,"list",_,rfl,h,?_,q⟩
 cases d<;>first | exact h.elim | with_unfolding_all rfl
end
end L2
namespace L2
open PySem PySem.Spec PyProof.Rows
def Ce (i:Int) (n:Nat):List V:=(List.range n).map fun(k:Nat)=>V.int (i+(k:Int))
def DR (ta:TA):TE:=fun σ H Q=>ta σ H fun vs H1=>∃ i j:Int,vs=[.int i,.int j]∧(-(2^62)≤i∧i<2^62 ∧ -(2^62)≤j∧j<2^62)∧j-i≤10^6∧∀ l,H1 l=none→Q (.ref l) (upd H1 l (.lst (Ce i (j-i).toNat)))
variable {X:Cx}
end L2
namespace L2
open PySem PySem.Spec PyProof.Rows
theorem boot_any:bootBuiltins "any"=some (.builtin "any"):=by decide +kernel
section
variable {X:Cx} {K:PySem.W.Frag}
def CA (K:PySem.W.Frag):List V→Hp→VK→Prop:=fun xs H Q=>∃(a:Addr) (bs:List Bool),xs=[.ref a]∧aX K H a (bs.map V.bl)∧Q (.bl (bs.any id)) H
theorem uT (hc:X.calm=true):cD X (.builtin "any") (CA X.K):=by
 intro pins s σ H xs us Q I r h
 obtain⟨a,bs,rfl,hq,q⟩:=h
 obtain⟨u,rfl,ru⟩:=vals1 r
 cases ru
 obtain⟨its,rv,p,hz⟩:=I.list hq
 have hl:=p.isList
 have hlt:a<s.heap.objs.size:=by obtain⟨_,e,_⟩:=hl;exact Heap.lt_size e
 have hln:its.length=bs.length:=by have:=rv.length;rw [List.length_map] at this;omega
 have hb:∀(i:Nat) v,its[i]?=some v→∃ b,bs[i]?=some b∧v=.bool b:=fun i v e=>by
  have hi:i<its.length:=(List.getElem?_eq_some_iff.mp e).1
  have hi2:i<bs.length:=by omega
  obtain⟨u,e1,e2⟩:=rv.get (i:=i) (x:=V.bl bs[i]) (by rw [List.getElem?_map,List.getElem?_eq_getElem hi2];rfl)
  rw [e] at e1
  cases e1
  exact⟨bs[i],List.getElem?_eq_getElem hi2,e2⟩
 refine call_any_walk (wpAny_pyIter_list hl ?_)
 refine⟨s.heap.objs.size,[s.heap.objs.size,a],[s.heap.objs.size],its.toArray.size,_,_,fun i=>(bs[i]?).getD false,rfl,Walks.list (A:=X.A.in1) (I.ok.hd hc) _ a (Nat.ne_of_lt hlt) its.toArray,
  ⟨⟨_,Heap.get?_push_size _ rfl,rfl,rfl⟩,hl.push _⟩,fun i v s' Q' E' hP hQ=>?_,fun h' tk hk=>?_⟩
 ·obtain⟨b,e,rfl⟩:=hb i v (by simpa using hP)
  simp only [e,Option.getD_some] at hQ
  exact wpAny_truthy_bool hQ
 ·have e:((List.range its.toArray.size).any fun i=>(bs[i]?).getD false)=bs.any id:=by
   rw [List.size_toArray,hln,Bool.eq_iff_iff]
   simp only [List.any_eq_true,List.mem_range,id]
   constructor
   ·rintro⟨i,hi,z⟩
    rw [List.getElem?_eq_getElem hi,Option.getD_some] at z
    exact⟨_,List.getElem_mem hi,z⟩
   ·rintro⟨b,hb',z⟩
    obtain⟨i,hi,rfl⟩:=List.mem_iff_getElem.mp hb'
    exact⟨i,hi,by rw [List.getElem?_eq_getElem hi,Option.getD_some];exact z⟩
  rw [e]
  exact⟨.bl _,H,I.kept fun b o eb=>hk b o (fun hm=>by rw [List.mem_singleton.mp hm] at eb;exact Nat.lt_irrefl _ (Heap.lt_size eb)) (Heap.get?_push_of_some _ eb),rfl,q⟩
theorem Au {H:Hp} {p:Addr} {bs:List Bool} {Q:VK} (h:aX K H p (bs.map V.bl)) (q:Q (.bl (bs.any id)) H):CA K [.ref p] H Q:=⟨p,bs,rfl,h,q⟩
end
end L2
namespace L2
open PySem PySem.Spec PyProof.Rows
section
variable {κ:Type} [DecidableEq κ]
def cf (kvs:List (κ × V)) (k:κ):Option V:=(kvs.find? fun kv=>decide (kv.1=k)).map (·.2)
def putK (kvs:List (κ × V)) (k:κ) (v:V):List (κ × V) :=
 if (kvs.any fun kv=>decide (kv.1=k))=true then kvs.map (fun kv=>if kv.1=k then (kv.1,v) else kv) else kvs++[(k,v)]
def bD (kvs:List (κ × V)) (k:κ):List (κ × V):=kvs.filter fun kv=>decide (kv.1≠k)
theorem cu {p:κ × V} {r:List (κ × V)} {k:κ} (e:p.1=k):cf (p::r) k=some p.2:=by simp [cf,List.find?_cons,e]
theorem bV {p:κ × V} {r:List (κ × V)} {k:κ} (e:¬p.1=k):cf (p::r) k=cf r k:=by simp [cf,List.find?_cons,e]
theorem kW (k:κ):∀ kvs:List (κ × V),(kvs.any fun kv=>decide (kv.1=k))=(cf kvs k).isSome
 | []=>rfl
 | p::r=>by
  rw [List.any_cons]
  by_cases e:p.1=k
  ·simp only [cu e,decide_eq_true e,Bool.true_or,Option.isSome_some]
  ·rw [bV e,decide_eq_false e,Bool.false_or];exact kW k r
theorem gz (k j:κ) (y:V):∀ kvs:List (κ × V),cf kvs k=none→cf (kvs++[(k,y)]) j=if j=k then some y else cf kvs j
 | [],_=>by
  by_cases e:k=j
  ·rw [if_pos e.symm];exact cu (p:=(k,y)) e
  ·rw [if_neg (fun z=>e z.symm)];exact bV (p:=(k,y)) e
 | p::r,hn=>by
  rw [List.cons_append]
  have hk:¬p.1=k:=fun z=>by rw [cu z] at hn;cases hn
  rw [bV hk] at hn
  have ih:=gz k j y r hn
  by_cases e:p.1=j
  ·rw [cu e,cu e,if_neg (fun z=>hk (e.trans z))]
  ·rw [bV e,bV e,ih]
theorem fM (kvs:List (κ × V)) (k:κ) (v:V):(putK kvs k v).length≤kvs.length+1:=by
 unfold putK
 split
 ·rw [List.length_map];omega
 ·rw [List.length_append,List.length_cons,List.length_nil];omega
theorem pK {kvs:List (κ × V)} {k:κ} (v:V) (h:cf kvs k=none):putK kvs k v=kvs++[(k,v)]:=by
 unfold putK
 rw [kW,h]
 exact if_neg (by decide)
theorem eF.eI {o:Option V} {u:Option Value} (r:eF o u):o.isSome=u.isSome:=by
 cases o with
 | none=>cases u with
  | none=>rfl
  | some _=>exact (show False from r).elim
 | some _=>cases u with
  | none=>exact (show False from r).elim
  | some _=>rfl
theorem KV.val {kvs:List (κ × V)} {vs:List (κ × Value)} (r:KV kvs vs) (k:κ):eF (cf kvs k) (valueAt vs k):=by
 unfold KV at r
 induction r with
 | nil=>exact True.intro
 | @cons p q ps qs h t ih =>
  obtain⟨h1,h2⟩:=h
  by_cases e:p.1=k
  ·have e':q.1=k:=h1.symm.trans e
   have b:valueAt (q::qs) k=some q.2:=by simp [valueAt,List.find?_cons,e']
   rw [cu e,b];exact h2
  ·have e':¬q.1=k:=fun z=>e (h1.trans z)
   have b:valueAt (q::qs) k=valueAt qs k:=by simp [valueAt,List.find?_cons,e']
   rw [bV e,b];exact ih
theorem KV.any {kvs:List (κ × V)} {vs:List (κ × Value)} (r:KV kvs vs) (k:κ):(kvs.any fun kv=>decide (kv.1=k))=vs.any fun kv=>decide (kv.1=k):=by
 unfold KV at r
 induction r with
 | nil=>rfl
 | cons h t ih=>rw [List.any_cons,List.any_cons,ih,h.1]
theorem KV.Bv {kvs:List (κ × V)} {vs:List (κ × Value)} (r:KV kvs vs) (k:κ) {y:V} {u:Value} (ry:RelV y u) :
  KV (kvs.map fun kv=>if kv.1=k then (kv.1,y) else kv) (vs.map fun kv=>if kv.1=k then (kv.1,u) else kv):=by
 unfold KV at r ⊢
 induction r with
 | nil=>exact .nil
 | @cons p q ps qs h t ih =>
  rw [List.map_cons,List.map_cons]
  refine .cons ?_ ih
  obtain⟨h1,h2⟩:=h
  by_cases e:p.1=k
  ·rw [if_pos e,if_pos (h1.symm.trans e)];exact⟨h1,ry⟩
  ·rw [if_neg e,if_neg (fun z=>e (h1.trans z))];exact⟨h1,h2⟩
theorem KV.put {kvs:List (κ × V)} {vs:List (κ × Value)} (r:KV kvs vs) (k:κ) {y:V} {u:Value} (ry:RelV y u):KV (putK kvs k y) (stored vs k u):=by
 unfold putK stored
 rw [r.any k]
 by_cases e:(vs.any fun kv=>decide (kv.1=k))=true
 ·rw [if_pos e,if_pos e];exact r.Bv k ry
 ·rw [if_neg e,if_neg e];exact Paired.snoc r ⟨rfl,ry⟩
theorem KV.length {kvs:List (κ × V)} {vs:List (κ × Value)} (r:KV kvs vs):kvs.length=vs.length:=Paired.length r
theorem oA (kvs:List (κ × V)) (k:κ):(bD kvs k).length≤kvs.length:=List.length_filter_le _ _
end
theorem lL {P:Program} {w:World} {k:Key} {u:Value} (r:RelV (kV k) u):(bF P w).is k u=true:=by
 cases k with
 | inl i=>obtain⟨t,e⟩:=(show ∃ t,u=Value.int i t from r);subst e;exact oU P w i t
 | inr x=>obtain⟨t,e⟩:=(show ∃ t,u=Value.str x t from r);subst e;exact oV P w x t
theorem lK {P:Program} {w:World}:∀{ks:List Key} {us:List Value},Vals (ks.map kV) us→ItemsAre (bF P w) ks us
 | [],_,r=>by rw [List.map_nil] at r;cases r;exact .nil
 | k::ks,_,r=>by
  rw [List.map_cons] at r
  cases r with
  | cons h t=>exact .cons (lL h) (lK t)
abbrev KT (H:Hp):List (List Key × V)→List (List Key × Addr × Value)→Prop:=Paired fun p q=>p.1=q.1∧H q.2.1=some (.tup (p.1.map kV))∧RelV p.2 q.2.2
theorem KT.val {H:Hp} {kvs:List (List Key × V)} {xs:List (List Key × Addr × Value)} (r:KT H kvs xs) (k:List Key):eF (cf kvs k) ((atKey xs k).map (·.2)):=by
 induction r with
 | nil=>exact True.intro
 | @cons p q ps qs h t ih =>
  obtain⟨h1,_,h2⟩:=h
  by_cases e:p.1=k
  ·have e':q.1=k:=h1.symm.trans e
   have b:atKey (q::qs) k=some q.2:=by simp [atKey,List.find?_cons,e']
   rw [cu e,b];exact h2
  ·have e':¬q.1=k:=fun z=>e (h1.trans z)
   have b:atKey (q::qs) k=atKey qs k:=by simp [atKey,List.find?_cons,e']
   rw [bV e,b];exact ih
theorem KT.Bv {H:Hp} {kvs:List (List Key × V)} {xs:List (List Key × Addr × Value)} (r:KT H kvs xs) (k:List Key) {y:V} {u:Value} (ry:RelV y u) :
  KT H (kvs.map fun kv=>if kv.1=k then (kv.1,y) else kv) (xs.map (putAt k u)):=by
 induction r with
 | nil=>exact .nil
 | @cons p q ps qs h t ih =>
  rw [List.map_cons,List.map_cons]
  refine .cons ?_ ih
  obtain⟨h1,h2,h3⟩:=h
  unfold putAt
  by_cases e:p.1=k
  ·rw [if_pos e,if_pos (h1.symm.trans e)];exact⟨h1,h2,ry⟩
  ·rw [if_neg e,if_neg (fun z=>e (h1.trans z))];exact⟨h1,h2,h3⟩
theorem KT.put {H:Hp} {kvs:List (List Key × V)} {xs:List (List Key × Addr × Value)} (r:KT H kvs xs) (k:List Key) {b:Addr} {y:V} {u:Value} (hb:H b=some (.tup (k.map kV))) (ry:RelV y u) :
  KT H (putK kvs k y) (storedH xs k b u):=by
 have e:(kvs.any fun kv=>decide (kv.1=k))=(atKey xs k).isSome:=by
  rw [kW,(r.val k).eI,Option.isSome_map]
 unfold putK storedH
 rw [e]
 by_cases q:(atKey xs k).isSome=true
 ·rw [if_pos q,if_pos q];exact r.Bv k ry
 ·rw [if_neg q,if_neg q];exact Paired.snoc r ⟨rfl,hb,ry⟩
theorem KT.keeps {H H':Hp} {kvs:List (List Key × V)} {xs:List (List Key × Addr × Value)} (r:KT H kvs xs) (ht:∀ b ys,H b=some (.tup ys)→H' b=some (.tup ys)):KT H' kvs xs :=
 Paired.AV r fun _ _ z=>⟨z.1,ht _ _ z.2.1,z.2.2⟩
section
variable {P:Program} {w:World} {H:Hp} {h:Heap} {a:Addr}
theorem z5 {u:HO} (ok:fF P w H h) (e:Rd H a u):bo P w H h a u:=e.ok ok
theorem jV {kvs:List (Key × V)} (ok:fF P w H h) (e:Rd H a (.dK kvs)):kvs.length≤sizeLine∧(a==sysModules)=false∧∃ vs,KV kvs vs∧h.DictOf (bF P w) a vs :=
 show bo P w H h a (.dK kvs) from z5 ok e
theorem zN {kvs:List (Key × V)} (ok:fF P w H h) (e:H a=some (.dK kvs)):kvs.length≤sizeLine∧(a==sysModules)=false∧∃ vs,KV kvs vs∧h.DictOf (bF P w) a vs:=jV ok (.inl e)
theorem iV {ks:List Key} (ok:fF P w H h) (e:H a=some (.tup (ks.map kV))):(tupleKind (bF P w)).is h ks a:=by
 obtain⟨_,its,r,o,h1,h2,n,h3⟩:=(show bo P w H h a (.tup (ks.map kV)) from ok a _ e)
 exact⟨o,its.toArray,n,h1,h2,h3,by simpa using lK r⟩
theorem lH {kvs:List (List Key × V)} (ok:fF P w H h) (e:Rd H a (.dT kvs)):kvs.length≤sizeLine∧(a==sysModules)=false ∧
  ∃ xs,KT H kvs xs∧h.DictOfH (tupleKind (bF P w)) a xs:=by
 obtain⟨z,y,xs,r,o,es,ep,h1,h2,h3,h4,h5⟩:=(show bo P w H h a (.dT kvs) from z5 ok e)
 refine⟨z,y,xs,r,o,es,ep,h1,h2,h3,h4,fun x hx=>?_,h5⟩
 have all:∀{l:List (List Key × V)} {m:List (List Key × Addr × Value)},KT H l m→∀ x∈m,(tupleKind (bF P w)).is h x.1 x.2.1:=by
  intro l m q
  induction q with
  | nil=>intro x hx;exact nomatch hx
  | @cons p q ps qs hq t ih =>
   intro x hx
   rcases List.mem_cons.mp hx with e | hx
   ·subst e
    exact iV ok (by rw [← hq.1];exact hq.2.1)
   ·exact ih x hx
 exact all r x hx
theorem zO {kvs:List (List Key × V)} (ok:fF P w H h) (e:H a=some (.dT kvs)):kvs.length≤sizeLine∧(a==sysModules)=false ∧
  ∃ xs,KT H kvs xs∧h.DictOfH (tupleKind (bF P w)) a xs:=lH ok (.inl e)
end
def eC (H:Hp) (a:Addr) (y:V) (r:Option V):Prop :=
 (∃ kvs k,Rd H a (.dK kvs)∧y=kV k∧r=cf kvs k)∨∃ kvs k b,Rd H a (.dT kvs)∧y=.ref b∧H b=some (.tup (k.map kV))∧r=cf kvs k
def kX (H:Hp) (a:Addr) (y v:V) (H':Hp):Prop :=
 (∃ kvs k,H a=some (.dK kvs)∧y=kV k∧kvs.length<sizeLine∧H'=upd H a (.dK (putK kvs k v))) ∨
 ∃ kvs k b,H a=some (.dT kvs)∧y=.ref b∧H b=some (.tup (k.map kV))∧kvs.length<sizeLine∧H'=upd H a (.dT (putK kvs k v))
theorem eC.k {H:Hp} {a:Addr} {kvs:List (Key × V)} {k:Key} (e:H a=some (.dK kvs)):eC H a (kV k) (cf kvs k):=.inl ⟨kvs,k,.inl e,rfl,rfl⟩
theorem eC.t {H:Hp} {a b:Addr} {kvs:List (List Key × V)} {k:List Key} (e:H a=some (.dT kvs)) (eb:H b=some (.tup (k.map kV))):eC H a (.ref b) (cf kvs k):=.inr ⟨kvs,k,b,.inl e,rfl,eb,rfl⟩
theorem kX.k {H:Hp} {a:Addr} {kvs:List (Key × V)} {k:Key} {v:V} (e:H a=some (.dK kvs)) (hl:kvs.length<sizeLine):kX H a (kV k) v (upd H a (.dK (putK kvs k v))):=.inl ⟨kvs,k,e,rfl,hl,rfl⟩
theorem kX.t {H:Hp} {a b:Addr} {kvs:List (List Key × V)} {k:List Key} {v:V} (e:H a=some (.dT kvs)) (eb:H b=some (.tup (k.map kV))) (hl:kvs.length<sizeLine) :
  kX H a (.ref b) v (upd H a (.dT (putK kvs k v))):=.inr ⟨kvs,k,b,e,rfl,eb,hl,rfl⟩
section
variable {X:Cx} {pins:List (Addr × Obj)} {σ:St} {H:Hp} {s:Shared} {a:Addr} {y v:V} {u r:Value} {o:Option V} {A:Around} {E:Value→Shared→Prop}
theorem Inv.big (I:Inv X pins σ H s):sysModules<s.heap.objs.size:=by
 have h:mainGlobals<s.heap.objs.size:=(I.mod.glob.keeps I.bk).lt
 exact Nat.lt_trans (by decide) h
theorem tI {Q:Value→Shared→Prop} (hu:A.units+1<cLine) (I:Inv X pins σ H s) (g:eC H a y (some v)) (ry:RelV y u) (h:∀ w' s',Inv X pins σ H s'→RelV v w'→Q w' s') :
  wpAny (model X.prog X.w) A (getItem (.ref a) u) Q E s:=by
 rcases g with⟨kvs,k,e,ey,l⟩|⟨kvs,k,b,e,ey,eb,l⟩
 ·subst ey
  obtain⟨z,hd,vs,rel,dd⟩:=jV I.hok e
  obtain⟨w',hw,rw'⟩:=eF.some_of (v:=v) (o:=valueAt vs k) (by rw [l];exact rel.val k)
  exact wpAny_getItem_of (lL ry) dd.mapOf hw (h w' _ (I.tok _) rw')
 ·subst ey
  cases (show u=Value.ref b from ry)
  obtain⟨z,hd,xs,rel,dd⟩:=lH I.hok e
  obtain⟨w',hw,rw'⟩:=eF.some_of (v:=v) (o:=(atKey xs k).map (·.2)) (by rw [l];exact rel.val k)
  obtain⟨p,hp,hp2⟩:=Option.map_eq_some_iff.mp hw
  refine wpAny_getItem_heap (tupleKind_room_in1 hu) (iV I.hok eb) dd hp ?_
  rw [hp2]
  exact h w' _ (I.tok _) rw'
theorem Dk {Q:Value→Shared→Prop} (hu:A.units+1<cLine) (I:Inv X pins σ H s) (g:eC H a y o) (ry:RelV y u) (h:∀ s',Inv X pins σ H s'→Q (.bool o.isSome) s') :
  wpAny (model X.prog X.w) A (compareOp .In u (.ref a)) Q E s:=by
 rcases g with⟨kvs,k,e,ey,l⟩|⟨kvs,k,b,e,ey,eb,l⟩
 ·subst ey
  obtain⟨z,hd,vs,rel,dd⟩:=jV I.hok e
  refine wpAny_in_of (lL ry) hd dd.mapOf ?_
  rw [← (rel.val k).eI,← l]
  exact h _ (I.tok _)
 ·subst ey
  cases (show u=Value.ref b from ry)
  obtain⟨z,hd,xs,rel,dd⟩:=lH I.hok e
  refine wpAny_in_heap (tupleKind_room_in1 hu) (iV I.hok eb) hd dd ?_
  have q:=(rel.val k).eI
  rw [Option.isSome_map] at q
  rw [← q,← l]
  exact h _ (I.tok _)
theorem ym {Q:Value→Shared→Prop} (hu:A.units+1<cLine) (I:Inv X pins σ H s) (g:eC H a y o) (ry:RelV y u) (h:∀ s',Inv X pins σ H s'→Q (.bool (!o.isSome)) s') :
  wpAny (model X.prog X.w) A (compareOp .NotIn u (.ref a)) Q E s:=by
 rcases g with⟨kvs,k,e,ey,l⟩|⟨kvs,k,b,e,ey,eb,l⟩
 ·subst ey
  obtain⟨z,hd,vs,rel,dd⟩:=jV I.hok e
  refine wpAny_notIn_of (lL ry) hd dd.mapOf ?_
  rw [← (rel.val k).eI,← l]
  exact h _ (I.tok _)
 ·subst ey
  cases (show u=Value.ref b from ry)
  obtain⟨z,hd,xs,rel,dd⟩:=lH I.hok e
  refine wpAny_notIn_heap (tupleKind_room_in1 hu) (iV I.hok eb) hd dd ?_
  have q:=(rel.val k).eI
  rw [Option.isSome_map] at q
  rw [← q,← l]
  exact h _ (I.tok _)
theorem jz {h':Heap} {t':Nat} {ob:HO} (I:Inv X pins σ H s) (mu:B7 (H a)) (hs:Heap.SameBut a s.heap h') (he:∃ q,h'.get? a=some q) (new:bo X.prog X.w (upd H a ob) h' a ob) :
  Inv X pins σ (upd H a ob) { s with heap:=h',toks:=t' } :=
 I.write (x:=a) (e:=a) mu (.inl rfl) (fun b q hb z=>(hs.2 b hb).trans z) he new
theorem u7 {P:Program} {w:World} {H':Hp} {h':Heap} {kvs:List (Key × V)} {vs:List (Key × Value)} (z:kvs.length≤sizeLine) (hd:(a==sysModules)=false) (rel:KV kvs vs) (dd:h'.DictOf (bF P w) a vs) :
  bo P w H' h' a (.dK kvs):=⟨z,hd,vs,rel,dd⟩
theorem tJ {H':Hp} {Q:Unit→Shared→Prop} (hu:A.units+1<cLine) (I:Inv X pins σ H s) (g:kX H a y v H') (ry:RelV y u) (rv:RelV v r) (h:∀ s',Inv X pins σ H' s'→Q () s') :
  wpAny (model X.prog X.w) A (setItem (.ref a) u r) Q E s:=by
 rcases g with⟨kvs,k,e,ey,l,eH⟩|⟨kvs,k,b,e,ey,eb,l,eH⟩
 ·subst ey eH
  obtain⟨z,hd,vs,rel,dd⟩:=zN I.hok e
  have hz:vs.length≤sizeLine:=by rw [← rel.length];exact z
  have hl:(putK kvs k v).length≤sizeLine:=by have:=fM kvs k v;omega
  refine wpAny_setItem_pairs (hsz:=hz) (lL ry) dd fun h' dd' hs=>h _ ?_
  have he:∃ q,h'.get? a=some q:=let ⟨q,_,_,hq,_⟩:=dd';⟨q,hq⟩
  exact jz I (by rw [e];exact True.intro) hs he (u7 hl hd (rel.put k rv) dd')
 ·subst ey eH
  cases (show u=Value.ref b from ry)
  obtain⟨z,hd,xs,rel,dd⟩:=zO I.hok e
  have hz:xs.length≤sizeLine:=by rw [← Paired.length rel];exact z
  have hl:(putK kvs k v).length≤sizeLine:=by have:=fM kvs k v;omega
  refine wpAny_setItem_heap (hsz:=hz) (tupleKind_room_in1 hu) (iV I.hok eb) dd fun h' dd' hs=>h _ ?_
  obtain⟨q,es,ep,hq,h2,h3,h4,_,h5⟩:=dd'
  refine jz I (by rw [e];exact True.intro) hs ⟨q,hq⟩ ⟨hl,hd,_,(rel.put k eb rv).keeps fun c ys ec=>?_,q,es,ep,hq,h2,h3,h4,h5⟩
  rw [aq (eO ec e (fun z=>nomatch z))]
  exact ec
end
section
variable {X:Cx} {pins:List (Addr × Obj)} {σ:St} {H:Hp} {s:Shared} {a:Addr} {kvs:List (Key × V)} {k:Key} {u:Value} {A:Around} {E:Value→Shared→Prop}
theorem Cd {Q:Value→Shared→Prop} (I:Inv X pins σ H s) (e:Rd H a (.dK kvs)) (h:∀ t s',Inv X pins σ H s'→Q (.int kvs.length t) s'):wpAny (model X.prog X.w) A (call (.builtin "len") [.ref a]) Q E s:=by
 obtain⟨z,hd,vs,rel,dd⟩:=jV I.hok e
 refine call_len_dict hd dd (by rw [← rel.length];rw [sizeLine_eq] at z;omega) ?_
 rw [← rel.length]
 exact h _ _ (I.tok _)
end
def B8 (i:Expr):Prop:=∀ ov iv,subscripted i false ov iv=operate [ov,iv] (getItem ov iv)
theorem zu {prog:Program} {w:World} {A:Around} {E:Value→Shared→Prop} {s:Shared} {env:Env} {value slice:Expr} {pos:Pos} {T id:String} {Q:Value→Shared→Prop}
  (hl:typeLookup (.type T) "__getitem__"=pure (some (.builtin id))) (hs:B8 slice)
  (h:wpAny (model prog w) A (eval value env) (fun o s₁=>wpAny (model prog w) A (eval slice env) (fun i s₂=>s₂.TypeIs o T∧wpAny (model prog w) A (getItem o i) Q E s₂) E s₁) E s) :
  wpAny (model prog w) A (eval (.Subscript value slice pos) env) Q E s:=by
 refine Subscript_ (wpAny_mono h (fun o s₁ h₁=>wpAny_mono h₁ (fun i s₂ h₂=>?_) fun _ _ x=>x) fun _ _ x=>x)
 obtain⟨hT,h₂⟩:=h₂
 unfold subscriptTail
 refine wpAny_bind ?_
 rw [getitemInPython_of_ne hT.not_modules]
 refine wpAny_bind (wpAny_specialOf hT hl ?_)
 have fin:wpAny (model prog w) A (subscripted slice false o i) (fun r s₃=>wpAny (model prog w) A (letTemporaryGo value o r >>= fun _=>pure r) Q E s₃) E s₂:=by
  rw [hs o i]
  exact wpAny_operating (wpAny_mono h₂ (fun r s₃ h₃=>wpAny_bind (wpAny_letTemporaryGo (wpAny_pure h₃))) fun _ _ x=>x)
 first
  | exact wpAny_pure (wpAny_bind fin)
  | exact wpAny_bind (wpAny_pure (wpAny_bind fin))
  | exact wpAny_bind fin
theorem oq {X:Cx} {pins:List (Addr × Obj)} {σ:St} {H:Hp} {s:Shared} {a:Addr} {y:V} {o:Option V} (I:Inv X pins σ H s) (g:eC H a y o):s.TypeIs (.ref a) "dict":=by
 rcases g with⟨kvs,k,e,_,_⟩|⟨kvs,k,b,e,_,_,_⟩
 ·obtain⟨_,_,vs,_,dd⟩:=jV I.hok e
  exact dd.typeIs
 ·obtain⟨_,_,xs,_,dd⟩:=lH I.hok e
  exact dd.typeIs
def xE (td ty:TE):TE:=fun σ H Q=>td σ H fun x H1=>ty σ H1 fun y H2=>∃ a v,x=.ref a∧eC H2 a y (some v)∧Q v H2
def BE (ty td:TE):TE:=fun σ H Q=>ty σ H fun y H1=>td σ H1 fun x H2=>∃ a o,x=.ref a∧eC H2 a y o∧Q (.bl o.isSome) H2
def nL (ty td:TE):TE:=fun σ H Q=>ty σ H fun y H1=>td σ H1 fun x H2=>∃ a o,x=.ref a∧eC H2 a y o∧Q (.bl (!o.isSome)) H2
def wZ (td ty tv:TE):TS:=fun D σ H=>tv σ H fun v H1=>td σ H1 fun x H2=>ty σ H2 fun y H3=>∃ a H4,x=.ref a∧kX H3 a y v H4∧D.nx σ H4
section
variable {X:Cx} {o i e value:Expr} {pos pos' tpos:Pos} {td ty tv:TE}
theorem gj (hu:X.A.units+1<cLine) (ho:PE X o td) (hi:PE X i ty) (hs:B8 i):PE X (.Subscript o i pos) (xE td ty):=by
 intro pins s σ H Q I h
 refine zu PySem.F.slot_dict_getitem.lookup hs (bj (ho pins s σ H _ I h) fun u s1 ⟨x,H1,I1,rx,q1⟩=>bj (hi pins s1 σ H1 _ I1 q1) fun iv s2 ⟨y,H2,I2,ry,a,v,ex,g,q2⟩=>?_)
 subst ex
 obtain rfl:u=Value.ref a:=rx
 exact⟨oq I2 g,tI hu I2 g ry fun w' s3 I3 rw'=>⟨v,H2,I3,rw',q2⟩⟩
theorem Bh (hu:X.A.units+1<cLine) (hi:PE X i ty) (ho:PE X o td):PC X .In i o (BE ty td):=by
 intro pins s σ H Q I h
 refine bj (hi pins s σ H _ I h) fun iv s1 ⟨y,H1,I1,ry,q1⟩=>bj (ho pins s1 σ H1 _ I1 q1) fun u s2 ⟨x,H2,I2,rx,a,ov,ex,g,q2⟩=>?_
 subst ex
 obtain rfl:u=Value.ref a:=rx
 exact Dk hu I2 g ry fun s3 I3=>⟨.bl ov.isSome,H2,I3,rfl,q2⟩
theorem uu (hu:X.A.units+1<cLine) (hi:PE X i ty) (ho:PE X o td):PC X .NotIn i o (nL ty td):=by
 intro pins s σ H Q I h
 refine bj (hi pins s σ H _ I h) fun iv s1 ⟨y,H1,I1,ry,q1⟩=>bj (ho pins s1 σ H1 _ I1 q1) fun u s2 ⟨x,H2,I2,rx,a,ov,ex,g,q2⟩=>?_
 subst ex
 obtain rfl:u=Value.ref a:=rx
 exact ym hu I2 g ry fun s3 I3=>⟨.bl (!ov.isSome),H2,I3,rfl,q2⟩
theorem ig (hu:X.A.units+1<cLine) (ho:PE X o td) (hi:PE X i ty) (hv:PE X value tv) (hs:swapsWith value (some (.Subscript o i pos')) pos.line X.env=pure false) :
  PS X (.Assign [.Subscript o i pos'] value pos) (wZ td ty tv):=by
 intro pins s σ H D I h
 refine wpAny_Assign_Subscript (bj (hv pins s σ H _ I h) fun r s1 ⟨v,H1,I1,rv,q1⟩=>bj (ho pins s1 σ H1 _ I1 q1) fun u s2 ⟨x,H2,I2,rx,q2⟩=>bj (hi pins s2 σ H2 _ I2 q2) fun iv s3 ⟨y,H3,I3,ry,a,H4,ex,g,q3⟩=>?_) hs
 subst ex
 obtain rfl:u=Value.ref a:=rx
 exact tJ hu I3 g ry rv fun s4 I4=>⟨σ,H4,I4,q3⟩
end
theorem ou {P:Program} {w:World} {H:Hp} (h:Heap) (hb:sysModules<h.objs.size):bo P w H (h.push { cls:=.type "dict",data:=.dict #[] }) h.objs.size (.dK []) :=
 ⟨Nat.zero_le _,beq_eq_false_iff_ne.mpr (Ne.symm (Nat.ne_of_lt hb)),[],.nil,Heap.DictOf.new h⟩
theorem u9 {P:Program} {w:World} {H:Hp} (h:Heap) (hb:sysModules<h.objs.size):bo P w H (h.push { cls:=.type "dict",data:=.dict #[] }) h.objs.size (.dT []) :=
 ⟨Nat.zero_le _,beq_eq_false_iff_ne.mpr (Ne.symm (Nat.ne_of_lt hb)),[],.nil,_,#[],0,Heap.get?_push_size _ rfl,⟨rfl,rfl,rfl⟩,rfl,rfl,List.nodup_nil⟩
def rC:TE:=fun _ H Q=>∀ p,H p=none→Q (.ref p) (upd H p (.dK []))
def rE:TE:=fun _ H Q=>∀ p,H p=none→Q (.ref p) (upd H p (.dT []))
section
variable {X:Cx} {pos:Pos}
theorem wz:PE X (.Dict [] [] pos) rC:=fun pins s σ H Q I h =>
 wpAny_Dict_empty ⟨.ref s.heap.objs.size,_,I.laid (a:=s.heap.objs.size) (o:=.dK []) (t':=s.toks) (fun _ _ q=>Heap.get?_push_of_some _ q) (Nat.le_refl _) (ou s.heap I.big),rfl,h _ (I.hok.fresh (Nat.le_refl _))⟩
theorem wA:PE X (.Dict [] [] pos) rE:=fun pins s σ H Q I h =>
 wpAny_Dict_empty ⟨.ref s.heap.objs.size,_,I.laid (a:=s.heap.objs.size) (o:=.dT []) (t':=s.toks) (fun _ _ q=>Heap.get?_push_of_some _ q) (Nat.le_refl _) (u9 s.heap I.big),rfl,h _ (I.hok.fresh (Nat.le_refl _))⟩
end
def kU:List (TE × TE)→St→Hp→(List (V × V)→Hp→Prop)→Prop
 | [],_,H,Q=>Q [] H
 | (tk,tv)::r,σ,H,Q=>tk σ H fun x H1=>tv σ H1 fun y H2=>kU r σ H2 fun ps H3=>Q ((x,y)::ps) H3
abbrev VV:List (V × V)→List (Value × Value)→Prop:=Paired fun p q=>RelV p.1 q.1∧RelV p.2 q.2
def C1 (X:Cx) (pos:Pos) (keys:List (Option Expr)) (values:List Expr) (trs:List (TE × TE)):Prop :=
 ∀(pins:List (Addr × Obj)) (s:Shared) (σ:St) (H:Hp) (Q:List (V × V)→Hp→Prop),Inv X pins σ H s→kU trs σ H Q →
  wpAny (model X.prog X.w) X.A (evalPairs (pairTrees keys values X.env pos)) (fun vs s'=>∃ ps H',Inv X pins σ H' s'∧VV ps vs∧Q ps H') X.xe s
theorem zi {X:Cx} {pos:Pos}:C1 X pos [] [] []:=fun pins s σ H Q I h=>pairTrees_nil_walk ⟨[],H,I,.nil,h⟩
theorem kG {X:Cx} {pos:Pos} {k v:Expr} {ks:List (Option Expr)} {vs:List Expr} {tk tv:TE} {trs:List (TE × TE)} (hk:PE X k tk) (hv:PE X v tv) (hr:C1 X pos ks vs trs) :
  C1 X pos (some k::ks) (v::vs) ((tk,tv)::trs):=fun pins s σ H Q I h =>
 pairTrees_cons_walk (bj (hk pins s σ H _ I h) fun u s1 ⟨x,H1,I1,rx,q1⟩=>bj (hv pins s1 σ H1 _ I1 q1) fun w2 s2 ⟨y,H2,I2,ry,q2⟩ =>
  bj (hr pins s2 σ H2 _ I2 q2) fun ws s3 ⟨ps,H3,I3,rel,q3⟩=>⟨(x,y)::ps,H3,I3,.cons ⟨rx,ry⟩ rel,q3⟩)
def j8 (kvs more:List (Key × V)):List (Key × V):=more.foldl (fun acc kv=>putK acc kv.1 kv.2) kvs
theorem KV.merge:∀{more:List (Key × V)} {rs:List (Key × Value)} {kvs:List (Key × V)} {vs:List (Key × Value)},KV more rs→KV kvs vs→KV (j8 kvs more) (merged vs rs):=by
 intro more rs kvs vs r
 unfold KV at r
 induction r generalizing kvs vs with
 | nil=>intro q;exact q
 | @cons p q ps qs h t ih =>
  intro r0
  have e:KV (putK kvs p.1 p.2) (stored vs q.1 q.2):=by
   have:=r0.put p.1 h.2
   rw [← h.1];exact this
  exact ih e
theorem gF:∀(more kvs:List (Key × V)),(j8 kvs more).length≤kvs.length+more.length
 | [],kvs=>by show kvs.length≤kvs.length+0;omega
 | p::r,kvs=>by
  have h1:=gF r (putK kvs p.1 p.2)
  have h2:=fM kvs p.1 p.2
  show (j8 (putK kvs p.1 p.2) r).length≤_
  rw [List.length_cons];omega
theorem jT {P:Program} {w:World}:∀{kvs:List (Key × V)} {ws:List (Value × Value)},VV (kvs.map fun kv=>(kV kv.1,kv.2)) ws→∃ rs,Carries (bF P w) ws rs∧KV kvs rs
 | [],_,r=>by rw [List.map_nil] at r;cases r;exact⟨[],True.intro,.nil⟩
 | p::kvs,_,r=>by
  rw [List.map_cons] at r
  cases r with
  | @cons a b as bs h t =>
   obtain⟨rs,c,q⟩:=jT (P:=P) (w:=w) t
   obtain⟨b1,b2⟩:=b
   exact⟨(p.1,b2)::rs,⟨lL h.1,rfl,c⟩,.cons ⟨rfl,h.2⟩ q⟩
def xF (trs:List (TE × TE)):TE:=fun σ H Q=>∀ p,H p=none→kU trs σ (upd H p (.dK [])) fun ps H2=>H2 p=some (.dK [])∧∃ kvs:List (Key × V),ps=kvs.map (fun kv=>(kV kv.1,kv.2))∧kvs.length≤15∧Q (.ref p) (upd H2 p (.dK (j8 [] kvs)))
theorem yZ {X:Cx} {pos:Pos} {keys:List (Option Expr)} {values:List Expr} {trs:List (TE × TE)} (h:C1 X pos keys values trs) (hall:keys.all (·.isSome)=true) (hl:keys.length=values.length) (h0:keys≠[])
  (h15:keys.length≤15):PE X (.Dict keys values pos) (xF trs):=by
 intro pins s σ H Q I q
 have hn:=I.hok.fresh (Nat.le_refl s.heap.objs.size)
 have I1:=I.laid (a:=s.heap.objs.size) (o:=.dK []) (h':=s.heap.push { cls:=.type "dict",data:=.dict #[] }) (t':=s.toks) (fun _ _ q=>Heap.get?_push_of_some _ q) (Nat.le_refl _) (ou s.heap I.big)
 refine wpAny_Dict_walk (knd:=bF X.prog X.w) hall hl h0 h15 (bj (h pins _ σ _ _ I1 (q _ hn)) fun ws s2 ⟨ps,H2,I2,rel,e,kvs,ep,lk,q2⟩=>?_)
 subst ep
 obtain⟨rs,c,rk⟩:=jT (P:=X.prog) (w:=X.w) rel
 obtain⟨z,hd,vs0,r0,dd⟩:=zN I2.hok e
 cases r0
 refine⟨rs,c,dd,fun h' dd' hs=>⟨.ref s.heap.objs.size,_,?_,rfl,q2⟩⟩
 have hz:(j8 [] kvs).length≤sizeLine:=by
  have h1:=gF kvs []
  rw [List.length_nil] at h1
  rw [sizeLine_eq];omega
 have he:∃ q,h'.get? s.heap.objs.size=some q:=let ⟨q,_,_,hq,_⟩:=dd';⟨q,hq⟩
 exact jz I2 (by rw [e];exact True.intro) hs he (u7 hz hd (rk.merge .nil) dd')
structure M1 (X:Cx) (o:Expr) (m:Str) (apos:Pos) (e:Expr) (cpos:Pos):Prop where
 base:attributeBase o m X.env (eval o X.env)=eval o X.env
 few:((backTo cpos (starEach [e] X.env)).all (fun x=>!x.1) && (backToKw cpos (keywordEach [] X.env)).all (fun x=>x.1.isSome)
  && decide (([e]:List Expr).length+([]:List Keyword).length+(if ([]:List Keyword).isEmpty then 0 else 1)<30))=true
 line:(apos.endLine==cpos.line)=true
 trees:backTo cpos (starEach [e] X.env)=[(false,eval e X.env)]
structure M2 (X:Cx) (o:Expr) (m:Str) (apos:Pos) (e f:Expr) (cpos:Pos):Prop where
 base:attributeBase o m X.env (eval o X.env)=eval o X.env
 few:((backTo cpos (starEach [e,f] X.env)).all (fun x=>!x.1) && (backToKw cpos (keywordEach [] X.env)).all (fun x=>x.1.isSome)
  && decide (([e,f]:List Expr).length+([]:List Keyword).length+(if ([]:List Keyword).isEmpty then 0 else 1)<30))=true
 line:(apos.endLine==cpos.line)=true
 trees:backTo cpos (starEach [e,f] X.env)=[(false,eval e X.env),(false,eval f X.env)]
def DM (H:Hp) (a:Addr):Prop:=(∃ kvs,Rd H a (.dK kvs))∨∃ kvs,Rd H a (.dT kvs)
theorem AJ {X:Cx} {pins:List (Addr × Obj)} {σ:St} {H:Hp} {s:Shared} {a:Addr} (I:Inv X pins σ H s) (d:DM H a) :
  s.TypeIs (.ref a) "dict"∧(∀ b,Value.ref a=.ref b→∃ ob,s.heap.get? b=some ob∧ob.dict=none)∧(a==sysModules)=false:=by
 rcases d with⟨kvs,e⟩|⟨kvs,e⟩
 ·obtain⟨_,hd,vs,_,dd⟩:=jV I.hok e
  refine⟨dd.typeIs,fun b q=>?_,hd⟩
  cases q
  obtain⟨ob,_,_,h1,h2,_⟩:=dd
  exact⟨ob,h1,h2.2.1⟩
 ·obtain⟨_,hd,xs,_,dd⟩:=lH I.hok e
  refine⟨dd.typeIs,fun b q=>?_,hd⟩
  cases q
  obtain⟨ob,_,_,h1,h2,_⟩:=dd
  exact⟨ob,h1,h2.2.1⟩
section
variable {X:Cx} {pins:List (Addr × Obj)} {σ:St} {H:Hp} {s:Shared} {a:Addr} {y d:V} {u r:Value} {o:Option V} {A:Around} {E:Value→Shared→Prop}
end
section
variable {X:Cx} {o e f:Expr} {apos cpos:Pos} {td ty tx:TE}
end
section
variable {X:Cx} {pins:List (Addr × Obj)} {σ:St} {H:Hp} {s:Shared} {a:Addr} {kvs:List (Key × V)} {A:Around} {E:Value→Shared→Prop}
end
section
variable {X:Cx} {pins:List (Addr × Obj)} {σ:St} {H:Hp} {s:Shared} {a:Addr} {y:V} {u:Value} {A:Around} {E:Value→Shared→Prop}
end
end L2
namespace L2
open PySem PySem.Spec PyProof.Rows
section
variable {K:PySem.W.Frag} {H H':Hp}
theorem bC.c7 {a:Addr} {xs:List V} (k:∀ a xs,Rd H a (.tup xs)→Rd H' a (.tup xs)) (h:bC K H a xs):bC K H' a xs:=h.imp (fun z=>k _ _ z) id
mutual
theorem dv.c7 (k:∀ a xs,Rd H a (.tup xs)→Rd H' a (.tup xs)):∀(d:PyData) {v:V},nQ d=true→dv K H d v→dv K H' d v
 | .none,_,_,h=>h
 | .bool _,_,_,h=>h
 | .int _,_,_,h=>h
 | .str _,_,_,h=>h
 | .list ds,_,z,_=>by cases z
 | .tuple ds,_,z,⟨q,xs,e,h,t⟩=>⟨q,xs,e,h.c7 k,aM.c7 k ds z t⟩
 | .dict _,_,_,h=>h.elim
theorem aM.c7 (k:∀ a xs,Rd H a (.tup xs)→Rd H' a (.tup xs)):∀(ds:List PyData) {xs:List V},fh ds=true→aM K H ds xs→aM K H' ds xs
 | [],_,_,h=>h
 | d::ds,_,z,⟨x,r,e,h,t⟩=>by
  have z':nQ d=true∧fh ds=true:=by simpa [fh] using z
  exact⟨x,r,e,dv.c7 k d z'.1 h,aM.c7 k ds z'.2 t⟩
end
end
end L2
namespace L2
open PySem PySem.Spec PyProof.Rows
theorem wJ {X:Cx} {ss:List Stmt}:iL X ss (fun _ _ _=>False):=by
 intro _ _ _ _ _ _ h
 exact False.elim h
end L2
namespace L2
open PySem PySem.Spec PyProof.Rows
theorem wI {X:Cx} {Ex:Addr→Shared→Hp→List Addr→Value→Shared→Prop} {elt target iter:Expr} {ifs:List Expr} {scope:Scope} {pos:Pos} {N':List Str} {js:List (Option Nat)} {cl:List (Str × Addr)} {wi:TI} {g:TG} {tt:TT} {te:TE} {i0:Nat} {x0:Str} {pos' pos2:Pos} (hN0:X.N.Nodup) (hi0:X.N[i0]?=some x0) (hx0:Loc X.env.scope x0) (hcalm:X.calm=true)
  (K:jO X N' js scope cl) (hi:PI X target iter wi)
  (hg:∀ C s₂ H₂ fp,qu X C s₂ H₂ fp→PG (dO X (Ex C s₂ H₂ fp) N' scope cl C s₂ H₂ fp) target g) (ht:∀ C s₂ H₂ fp,qu X C s₂ H₂ fp→tu (dO X (Ex C s₂ H₂ fp) N' scope cl C s₂ H₂ fp) ifs tt) (he:∀ C s₂ H₂ fp,qu X C s₂ H₂ fp→PE (dO X (Ex C s₂ H₂ fp) N' scope cl C s₂ H₂ fp) elt te)
  (herr:∀ C s₂ H₂ fp use Q' acc e s',Ex C s₂ H₂ fp e s'→notedBy (model X.prog X.w) X.A (compEnvC scope cl C X.env) (fun e s''=>compPost (model X.prog X.w) X.A X.xe use Q' acc C (.error e) s'') e s')
  (hsw:swapsWith (.ListComp elt [⟨target,iter,ifs,0⟩] scope pos) (some (.Name x0 pos')) pos2.line X.env=pure true) (hf0:X.fn x0=true∨X.env.scope.names.lookup x0=some .local)
  (hs:∀ x,foldedSetIterable iter X.env x=pure x:=by intro _;rfl):PS X (.Assign [.Name x0 pos'] (.ListComp elt [⟨target,iter,ifs,0⟩] scope pos) pos2) (uF (C4 js wi g tt te) (cF i0)):=by
 intro pins s σ H Dn I h
 rw [exec_Assign_Name_used _ _ _ _ hsw]
 refine wpAny_bind (wpAny_standAt (wpAny_bind ?_))
 unfold evalThenUse
 refine wpAny_bind ?_
 refine wpAny_comprehension_free (use:=some (assign (.Name x0 pos') X.env)) rfl hs K.clos K.kind K.names (bj (hi pins s σ H _ I h) fun v s1 h1=>bj h1 fun itv s2 h2=>?_)
 obtain⟨H2,I2⟩:∃ H2,Inv X pins σ H2 s2:=by obtain⟨_,_,_,_,H2,_,I2,_⟩:=h2;exact⟨H2,I2⟩
 refine rX (Ex:=Ex) (Q:=fun x H1=>cF i0 x σ H1 Dn.nx) hcalm K hg ht he herr h2 fun C D vys H4 s5 hm hDe hDleC hDC nD nC hI qn=>?_
 obtain⟨m5,hn5⟩:=hm
 have le:=Nat.le_trans hDe hDleC
 have key:Inv X pins σ (upd H4 D (.lst vys)) s5:=hI s5.heap ⟨rfl,fun _ _=>rfl⟩
 have nC':upd H4 D (.lst vys) C=none:=by rw [aq (Ne.symm hDC)];exact nC
 have CL:C≠X.env.locals:=fun z=>by
  have:=I2.lt
  rw [← z] at this
  exact Nat.lt_irrefl _ (Nat.lt_of_lt_of_le this le)
 have Cfs:C∉X.fs:=fun z=>I2.yC le z
 obtain⟨oC,es,ep,gC,dC,skC,fdC⟩:=hn5
 have J1:Inv X ((C,oC)::pins) σ (upd H4 D (.lst vys)) s5:=key.gq fun p hp=>by
  rcases List.mem_cons.mp hp with z | z
  ·subst z
   exact⟨gC,nC',CL,Cfs,fun v z=>by rw [dC] at z;cases z⟩
  ·exact key.pin p (List.mem_append_right _ z)
 show wpAny _ _ (assign (.Name x0 pos') X.env (.ref D)) _ _ _
 refine PyProof.Rows.assign_Name ?_
 refine cV J1 hN0 hi0 hx0 (show RelV (.ref D) (.ref D) from rfl) (fun s6 I6=>?_) hf0
 have pC:=(I6.pin (C,oC) (List.mem_append_right _ (List.mem_cons_self ..))).1
 refine⟨m5,⟨oC,es,ep,pC,dC,skC,fdC⟩,fun h' hsb'=>?_⟩
 have I7:Inv X pins (σ.set i0 (some (.ref D))) (upd H4 D (.lst vys)) s6:=I6.gq fun p hp=>I6.pin p (List.mem_append_right _ (List.mem_cons_of_mem _ hp))
 have I8:=I7.turned (t':=s6.toks) (it:=C) (fun b o hb e=>hsb'.extBut b o hb e) nC' CL (.inr (Nat.le_trans I2.sz le))
  (fun x c e=>by
   obtain⟨v,q⟩:=I2.cell x c e
   exact Nat.ne_of_lt (Nat.lt_of_lt_of_le q.lt le))
  (fun p hp=>Nat.ne_of_lt (Nat.lt_of_lt_of_le (Heap.lt_size (I2.pin p hp).1) le))
 exact wpAny_pure (wpAny_pure ⟨_,_,I8,qn⟩)
theorem m8 {X:Cx} {elt target iter:Expr} {ifs:List Expr} {scope:Scope} {pos:Pos} {N':List Str} {js:List (Option Nat)} {cl:List (Str × Addr)} {wi:TI} {g:TG} {tt:TT} {te:TE} {i0:Nat} {x0:Str} {pos' pos2:Pos} (hN0:X.N.Nodup) (hi0:X.N[i0]?=some x0) (hx0:Loc X.env.scope x0) (hcalm:X.calm=true)
  (K:jO X N' js scope cl) (hi:PI X target iter wi)
  (hg:∀ C s₂ H₂ fp,PG (gO X N' scope cl C s₂ H₂ fp) target g) (ht:∀ C s₂ H₂ fp,tu (gO X N' scope cl C s₂ H₂ fp) ifs tt) (he:∀ C s₂ H₂ fp,PE (gO X N' scope cl C s₂ H₂ fp) elt te)
  (hsw:swapsWith (.ListComp elt [⟨target,iter,ifs,0⟩] scope pos) (some (.Name x0 pos')) pos2.line X.env=pure true) (hf0:X.fn x0=true∨X.env.scope.names.lookup x0=some .local)
  (hs:∀ x,foldedSetIterable iter X.env x=pure x:=by intro _;rfl):PS X (.Assign [.Name x0 pos'] (.ListComp elt [⟨target,iter,ifs,0⟩] scope pos) pos2) (uF (C4 js wi g tt te) (cF i0)) :=
 wI (Ex:=fun _ _ _ _ _ _=>False) hN0 hi0 hx0 hcalm K hi (fun C s H f _=>hg C s H f) (fun C s H f _=>ht C s H f) (fun C s H f _=>he C s H f) (fun _ _ _ _ _ _ _ _ _ z=>z.elim) hsw hf0 hs
end L2
namespace L2
open PySem PySem.Spec PyProof.Rows
theorem nO (it t:Addr) (i:Nat) (items:Array Value) (x:Value) (hx:items[i]?=some x):Meets (Builtin.«tuple_iterator.__next__» ⟨[.ref it],[]⟩)
  (fun _ R s=>s.heap.IsTupleIter it t i∧s.heap.IsTuple t items∧∀ h',h'.IsTupleIter it t (i+1)→Heap.SameBut it s.heap h'→R (.ok (.ret x)) { s with heap:=h' }) :=
 .of_wp fun prog w A R s h=>by
  obtain⟨⟨o,e,c,d⟩,⟨o2,e2,c2,n2,d2⟩,q⟩:=h
  have hx':items[(i:Int).toNat]?=some x:=by simpa using hx
  wp_walk using wpAny_field (i:=0) (x:=Value.ref t) e d rfl,wpAny_field (i:=1) (x:=Value.int i 0) e d rfl,wpAny_seqItems e2 d2
  rw [hx']
  refine wpAny_bind (wpAny_setField e d (show 1<2 by decide) ?_)
  obtain⟨oc,od,odt,os⟩:=o
  cases c
  cases d
  wp_walk
  refine⟨x,rfl,q _ ⟨_,Heap.get?_update_self _ e rfl,rfl,?_⟩ (Heap.SameBut.update ..)⟩
  show Data.fields _=_
  simp [rawInt]
theorem qh (it t:Addr) (i:Nat) (items:Array Value) (hx:items[i]?=none):Meets (Builtin.«tuple_iterator.__next__» ⟨[.ref it],[]⟩)
  (fun A R s=>A.handled=none∧s.heap.IsTupleIter it t i∧s.heap.IsTuple t items∧∀ h' e,Heap.ExtBut it s.heap h'→(∃ o,h'.get? e=some o∧o.cls=.type "StopIteration")→R (.error (.ref e)) { s with heap:=h' }) :=
 .of_wp fun prog w A R s h=>by
  obtain⟨hn,⟨o,e,c,d⟩,⟨o2,e2,c2,n2,d2⟩,q⟩:=h
  have hx':items[(i:Int).toNat]?=none:=by simpa using hx
  wp_walk using wpAny_field (i:=0) (x:=Value.ref t) e d rfl,wpAny_field (i:=1) (x:=Value.int i 0) e d rfl,wpAny_seqItems e2 d2
  rw [hx']
  wp_walk using wpAny_setField e d (show 0<2 by decide)
  refine wpAny_raiseNew_none hn (q _ _ (fun b o hb e=>Heap.get?_push_of_some _ (Heap.get?_push_of_some _ ((Heap.get?_update_other _ _ (Ne.symm hb)).trans e))) ⟨_,Heap.get?_push_size _ rfl,rfl⟩)
section
variable {prog:Program} {w:World} {A:Around} {E:Value→Shared→Prop} {s:Shared} {it t:Addr} {i:Nat} {items:Array Value} {Q:Value→Shared→Prop}
theorem jw {x:Value} (h1:s.heap.IsTupleIter it t i) (h2:s.heap.IsTuple t items) (hx:items[i]?=some x) (q:∀ h',h'.IsTupleIter it t (i+1)→Heap.SameBut it s.heap h'→Q x { s with heap:=h' }) :
  wpAny (model prog w) A (Builtin.SmallTypes.nextOf (.ref it)) Q E s:=by
 have ty:s.TypeIs (.ref it) "tuple_iterator":=by obtain⟨o,e,c,_⟩:=h1;exact⟨o,e,c⟩
 unfold Builtin.SmallTypes.nextOf
 refine wpAny_bind (wpAny_callSpecial?_slot ty slot_tupleiter_next (call_meets slot_tupleiter_next ty entry_tupleiter_next (args_tupleiter_next _) (nO it t i items x hx) ⟨h1,h2,fun h' a b=>?_⟩))
 exact wpAny_pure (q h' a b)
theorem j9 (hn:A.handled=none) (h1:s.heap.IsTupleIter it t i) (h2:s.heap.IsTuple t items) (hx:items[i]?=none) (q:∀ h' e,Heap.ExtBut it s.heap h'→(∃ o,h'.get? e=some o∧o.cls=.type "StopIteration")→E (.ref e) { s with heap:=h' }) :
  wpAny (model prog w) A (Builtin.SmallTypes.nextOf (.ref it)) Q E s:=by
 have ty:s.TypeIs (.ref it) "tuple_iterator":=by obtain⟨o,e,c,_⟩:=h1;exact⟨o,e,c⟩
 unfold Builtin.SmallTypes.nextOf
 exact wpAny_bind (wpAny_callSpecial?_slot ty slot_tupleiter_next (call_meets slot_tupleiter_next ty entry_tupleiter_next (args_tupleiter_next _) (qh it t i items hx) ⟨hn,h1,h2,fun h' e a b=>q h' e a b⟩))
end
inductive Sd
 | l
 | t
def Sd.It:Sd→Heap→Addr→Addr→Nat→Prop
 | .l=>Heap.IsListIter
 | .t=>Heap.IsTupleIter
def Sd.Sq:Sd→Heap→Addr→Array Value→Prop
 | .l=>Heap.IsList
 | .t=>Heap.IsTuple
def Sd.io (k:Sd) (a:Addr):Obj:=match k with
 | .l=>{ cls:=.type "list_iterator",data:=.fields #[.ref a,.int 0 0] }
 | .t=>{ cls:=.type "tuple_iterator",data:=.fields #[.ref a,.int 0 0] }
theorem Sd.It.at {k:Sd} {h h':Heap} {it a:Addr} {i:Nat} (x:k.It h it a i) (e:∀ o,h.get? it=some o→h'.get? it=some o):k.It h' it a i:=by
 cases k<;>(obtain⟨o,e1,r⟩:=x;exact⟨o,e o e1,r⟩)
theorem Sd.It.there {k:Sd} {h:Heap} {it a:Addr} {i:Nat} (x:k.It h it a i):∃ o,h.get? it=some o∧∀ v,o.data≠.cell v:=by
 cases k<;>(obtain⟨o,e1,_,d⟩:=x;exact⟨o,e1,fun v z=>by rw [d] at z;cases z⟩)
theorem Sd.Sq.at {k:Sd} {h h':Heap} {a:Addr} {xs:Array Value} (x:k.Sq h a xs) (e:∀ o,h.get? a=some o→h'.get? a=some o):k.Sq h' a xs:=by
 cases k<;>(obtain⟨o,e1,r⟩:=x;exact⟨o,e o e1,r⟩)
theorem Sd.Sq.lt {k:Sd} {h:Heap} {a:Addr} {xs:Array Value} (x:k.Sq h a xs):a<h.objs.size:=by
 cases k<;>(obtain⟨o,e1,r⟩:=x;exact Heap.lt_size e1)
theorem Sd.start (k:Sd) {h:Heap} {it a:Addr} (e:h.get? it=some (k.io a)):k.It h it a 0:=by
 cases k<;>exact⟨_,e,rfl,rfl⟩
section
variable {prog:Program} {w:World} {A:Around} {E:Value→Shared→Prop} {s:Shared} {it a:Addr} {i:Nat} {xs:Array Value} {Q:Value→Shared→Prop} {k:Sd}
theorem Sd.item {x:Value} (h1:k.It s.heap it a i) (h2:k.Sq s.heap a xs) (hx:xs[i]?=some x) (q:∀ h',k.It h' it a (i+1)→Heap.SameBut it s.heap h'→Q x { s with heap:=h' }) :
  wpAny (model prog w) A (Builtin.SmallTypes.nextOf (.ref it)) Q E s:=by
 cases k
 ·exact wpAny_nextOf_list_item h1 h2 hx q
 ·exact jw h1 h2 hx q
theorem Sd.fin (hn:A.handled=none) (h1:k.It s.heap it a i) (h2:k.Sq s.heap a xs) (hx:xs[i]?=none) (q:∀ h' e,Heap.ExtBut it s.heap h'→(∃ o,h'.get? e=some o∧o.cls=.type "StopIteration")→E (.ref e) { s with heap:=h' }) :
  wpAny (model prog w) A (Builtin.SmallTypes.nextOf (.ref it)) Q E s:=by
 cases k
 ·exact wpAny_nextOf_list_end hn h1 h2 hx q
 ·exact j9 hn h1 h2 hx q
theorem Sd.iter (h2:k.Sq s.heap a xs) (q:Q (.ref s.heap.objs.size) { s with heap:=s.heap.push (k.io a) }):wpAny (model prog w) A (pyIter (.ref a)) Q E s:=by
 cases k
 ·exact wpAny_pyIter_list h2 q
 ·exact wpAny_pyIter_tuple h2 q
end
end L2
namespace L2
open PySem PySem.Spec PyProof.Rows
theorem zE (k1 k2:Sd) (l1 l2:Addr) (xs ys:Array Value):Meets (Builtin.«zip.__new__» ⟨[.type "zip",.ref l1,.ref l2],[]⟩)
  (fun _ R s=>k1.Sq s.heap l1 xs∧k2.Sq s.heap l2 ys∧∀ h',IsZip h' (s.heap.objs.size+4) (s.heap.objs.size+2) (s.heap.objs.size+3) .none→IsPair h' (s.heap.objs.size+2) (.ref s.heap.objs.size) (.ref (s.heap.objs.size+1)) →
   IsPair h' (s.heap.objs.size+3) .none .none→k1.It h' s.heap.objs.size l1 0→k2.It h' (s.heap.objs.size+1) l2 0→(∀ c o,s.heap.get? c=some o→h'.get? c=some o)→R (.ok (.ret (.ref (s.heap.objs.size+4)))) { s with heap:=h' }) :=
 .of_wp fun prog w A R s h=>by
  obtain⟨h1,h2,q⟩:=h
  have f1:=sub_zip
  have h2':k2.Sq (s.heap.push (k1.io l1)) l2 ys:=h2.at fun o e=>Heap.get?_push_of_some _ e
  wp_walk using Sd.iter h1,Sd.iter (s:={ s with heap:=s.heap.push (k1.io l1) }) h2'
  refine⟨_,rfl,?_⟩
  have e5:((((s.heap.push (k1.io l1)).push (k2.io l2)).push { cls:=.type "tuple",data:=.seq #[.ref s.heap.objs.size,.ref (s.heap.push (k1.io l1)).objs.size] }).push { cls:=.type "tuple",data:=.seq #[.none,.none] }).objs.size=s.heap.objs.size+4:=by simp only [Heap.size_push]
  have e4:(((s.heap.push (k1.io l1)).push (k2.io l2)).push { cls:=.type "tuple",data:=.seq #[.ref s.heap.objs.size,.ref (s.heap.push (k1.io l1)).objs.size] }).objs.size=s.heap.objs.size+3:=by simp only [Heap.size_push]
  have e3:((s.heap.push (k1.io l1)).push (k2.io l2)).objs.size=s.heap.objs.size+2:=by simp only [Heap.size_push]
  have e2:(s.heap.push (k1.io l1)).objs.size=s.heap.objs.size+1:=by simp only [Heap.size_push]
  show R (.ok (.ret (.ref ((((s.heap.push (k1.io l1)).push (k2.io l2)).push { cls:=.type "tuple",data:=.seq #[.ref s.heap.objs.size,.ref (s.heap.push (k1.io l1)).objs.size] }).push { cls:=.type "tuple",data:=.seq #[.none,.none] }).objs.size))) { s with heap:=((((s.heap.push (k1.io l1)).push (k2.io l2)).push { cls:=.type "tuple",data:=.seq #[.ref s.heap.objs.size,.ref (s.heap.push (k1.io l1)).objs.size] }).push { cls:=.type "tuple",data:=.seq #[.none,.none] }).push { cls:=.type "zip",data:=.fields #[.none,.bool false,.bool false,.ref ((s.heap.push (k1.io l1)).push (k2.io l2)).objs.size,.ref (((s.heap.push (k1.io l1)).push (k2.io l2)).push { cls:=.type "tuple",data:=.seq #[.ref s.heap.objs.size,.ref (s.heap.push (k1.io l1)).objs.size] }).objs.size] } }
  have g0:(s.heap.push (k1.io l1)).get? s.heap.objs.size=some (k1.io l1):=Heap.get?_push_size _ (by cases k1<;>rfl)
  have g1:((s.heap.push (k1.io l1)).push (k2.io l2)).get? (s.heap.objs.size+1)=some (k2.io l2):=by rw [← e2];exact Heap.get?_push_size _ (by cases k2<;>rfl)
  rw [e5,e4,e3,e2]
  refine q _ ?_ ?_ ?_ (k1.start (Heap.get?_push_of_some _ (Heap.get?_push_of_some _ (Heap.get?_push_of_some _ (Heap.get?_push_of_some _ g0))))) (k2.start (Heap.get?_push_of_some _ (Heap.get?_push_of_some _ (Heap.get?_push_of_some _ g1)))) fun c o e=>Heap.get?_push_of_some _ (Heap.get?_push_of_some _ (Heap.get?_push_of_some _ (Heap.get?_push_of_some _ (Heap.get?_push_of_some _ e))))
  ·exact (show _=_ from by
    have:=Heap.get?_push_size (((((s.heap.push (k1.io l1)).push (k2.io l2)).push { cls:=.type "tuple",data:=.seq #[.ref s.heap.objs.size,.ref (s.heap.objs.size+1)] }).push { cls:=.type "tuple",data:=.seq #[.none,.none] })) (o:={ cls:=.type "zip",data:=.fields #[.none,.bool false,.bool false,.ref (s.heap.objs.size+2),.ref (s.heap.objs.size+3)] }) rfl
    simp only [Heap.size_push] at this
    exact this)
  ·refine Heap.get?_push_of_some _ (Heap.get?_push_of_some _ ?_)
   have:=Heap.get?_push_size ((s.heap.push (k1.io l1)).push (k2.io l2)) (o:={ cls:=.type "tuple",data:=.seq #[.ref s.heap.objs.size,.ref (s.heap.objs.size+1)] }) rfl
   simp only [Heap.size_push] at this
   exact this
  ·refine Heap.get?_push_of_some _ ?_
   have:=Heap.get?_push_size (((s.heap.push (k1.io l1)).push (k2.io l2)).push { cls:=.type "tuple",data:=.seq #[.ref s.heap.objs.size,.ref (s.heap.objs.size+1)] }) (o:={ cls:=.type "tuple",data:=.seq #[.none,.none] }) rfl
   simp only [Heap.size_push] at this
   exact this
end L2
namespace L2
open PySem PySem.Spec PyProof.Rows
theorem x4 (k1 k2:Sd) (z TI TO i1 i2 l1 l2:Addr) (ap:ZipApart z TI TO i1 i2 l1 l2) (n1 n2:Nat) (xs ys:Array Value) (x y a b:Value) (hx:xs[n1]?=some x) (hy:ys[n2]?=some y):Meets (Builtin.«zip.__next__» ⟨[.ref z],[]⟩)
  (fun _ R s=>IsZip s.heap z TI TO .none∧IsPair s.heap TI (.ref i1) (.ref i2)∧IsPair s.heap TO a b∧k1.It s.heap i1 l1 n1∧k2.It s.heap i2 l2 n2∧k1.Sq s.heap l1 xs∧k2.Sq s.heap l2 ys ∧
   ∀ h',IsZip h' z TI TO (rawInt s.heap.objs.size)→IsPair h' TO x y→k1.It h' i1 l1 (n1+1)→k2.It h' i2 l2 (n2+1)→IsPair h' s.heap.objs.size x y →
    (∀ c o,c≠z→c≠TO→c≠i1→c≠i2→s.heap.get? c=some o→h'.get? c=some o)→R (.ok (.ret (.ref s.heap.objs.size))) { s with heap:=h' }) :=
 .of_wp fun prog w A R s h=>by
  obtain⟨hz,hTI,hTO,j1,j2,q1,q2,q⟩:=h
  wp_walk using wpAny_field (i:=2) (x:=Value.bool false) hz rfl rfl,wpAny_field (i:=3) (x:=Value.ref TI) hz rfl rfl,wpAny_field (i:=0) (x:=Value.none) hz rfl rfl,wpAny_field (i:=4) (x:=Value.ref TO) hz rfl rfl,wpAny_seqItems hTI rfl,wpAny_setField_rec hz (show 0<5 by decide)
  intro ha za sa
  have ka:∀ c o,c≠z→s.heap.get? c=some o→ha.get? c=some o:=fun c o hc e=>(sa.2 c hc).trans e
  have j1a:=j1.at (h':=ha) fun o e=>ka i1 o ap.i1z e
  have q1a:=q1.at (h':=ha) fun o e=>ka l1 o ap.l1z e
  wp_walk using wpAny_onRaise,Sd.item (s:={ s with heap:=ha }) j1a q1a hx
  intro hb jb sb
  have kb:∀ c o,c≠z→c≠i1→s.heap.get? c=some o→hb.get? c=some o:=fun c o h1 h2 e=>(sb.2 c h2).trans (ka c o h1 e)
  have TOb:IsPair hb TO a b:=kb TO _ ap.TOz ap.TOi1 hTO
  wp_walk using wpAny_seqItems TOb rfl,wpAny_updateSeq_pair (s:={ s with heap:=hb }) TOb
  intro hc TOc' sc
  have TOc:IsPair hc TO x b:=TOc'
  have kc:∀ c o,c≠z→c≠i1→c≠TO→s.heap.get? c=some o→hc.get? c=some o:=fun c o h1 h2 h3 e=>(sc.2 c h3).trans (kb c o h1 h2 e)
  have zc:hc.get? z=some { cls:=.type "zip",data:=.fields #[.ellipsis,.bool false,.bool false,.ref TI,.ref TO] }:=(sc.2 z (Ne.symm ap.TOz)).trans ((sb.2 z (Ne.symm ap.i1z)).trans za)
  have j1c:=jb.at (h':=hc) fun o e=>(sc.2 i1 (Ne.symm ap.TOi1)).trans e
  have j2c:=j2.at (h':=hc) fun o e=>kc i2 o ap.i2z (Ne.symm ap.i12) (Ne.symm ap.TOi2) e
  have q2c:=q2.at (h':=hc) fun o e=>kc l2 o ap.l2z ap.l2i1 ap.l2TO e
  wp_walk using wpAny_letGo,wpAny_onRaise,Sd.item (s:={ s with heap:=hc }) j2c q2c hy
  intro hd jd sd
  have TOd:IsPair hd TO x b:=(sd.2 TO ap.TOi2).trans TOc
  have zd:=(sd.2 z (Ne.symm ap.i2z)).trans zc
  wp_walk using wpAny_seqItems TOd rfl,wpAny_updateSeq_pair (s:={ s with heap:=hd }) TOd
  intro he TOe' se
  have TOe:IsPair he TO x y:=TOe'
  have ze:=(se.2 z (Ne.symm ap.TOz)).trans zd
  wp_walk using wpAny_letGo,wpAny_seqItems TOe rfl
  have sz:he.objs.size=s.heap.objs.size:=se.1.trans (sd.1.trans (sc.1.trans (sb.1.trans sa.1)))
  have zn:z≠he.objs.size:=Nat.ne_of_lt (Heap.lt_size ze)
  have zf:(he.push { cls:=.type "tuple",data:=.seq #[x,y] }).get? z=some { cls:=.type "zip",data:=.fields #[.ellipsis,.bool false,.bool false,.ref TI,.ref TO] }:=Heap.get?_push_of_some _ ze
  have ke:∀ c o,c≠z→he.get? c=some o→(((he.push { cls:=.type "tuple",data:=.seq #[x,y] }).update z (Obj.mapFields fun x=>x.setIfInBounds 0 (rawInt ↑he.objs.size))).update z (Obj.mapFields fun x=>x.setIfInBounds 1 (Value.bool false))).get? c=some o:=fun c o hc e=>(Heap.get?_update_other _ _ (Ne.symm hc)).trans ((Heap.get?_update_other _ _ (Ne.symm hc)).trans (Heap.get?_push_of_some _ e))
  have g1:=Heap.get?_update_self (Obj.mapFields fun x=>x.setIfInBounds 0 (rawInt ↑he.objs.size)) zf rfl
  have g2:=Heap.get?_update_self (Obj.mapFields fun x=>x.setIfInBounds 1 (Value.bool false)) g1 rfl
  have gn:(((he.push { cls:=.type "tuple",data:=.seq #[x,y] }).update z (Obj.mapFields fun x=>x.setIfInBounds 0 (rawInt ↑he.objs.size))).update z (Obj.mapFields fun x=>x.setIfInBounds 1 (Value.bool false))).get? he.objs.size=some { cls:=.type "tuple",data:=.seq #[x,y] }:=(Heap.get?_update_other _ _ zn).trans ((Heap.get?_update_other _ _ zn).trans (Heap.get?_push_size _ rfl))
  refine⟨_,rfl,?_⟩
  show R (.ok (.ret (.ref he.objs.size))) { s with heap:=(((he.push { cls:=.type "tuple",data:=.seq #[x,y] }).update z (Obj.mapFields fun x=>x.setIfInBounds 0 (rawInt ↑he.objs.size))).update z (Obj.mapFields fun x=>x.setIfInBounds 1 (Value.bool false))) }
  generalize (((he.push { cls:=.type "tuple",data:=.seq #[x,y] }).update z (Obj.mapFields fun x=>x.setIfInBounds 0 (rawInt ↑he.objs.size))).update z (Obj.mapFields fun x=>x.setIfInBounds 1 (Value.bool false)))=hf at *
  rw [sz]
  refine q hf (by rw [← sz];exact g2) (ke TO _ ap.TOz TOe) (j1c.at fun o e=>ke i1 o ap.i1z ((se.2 i1 (Ne.symm ap.TOi1)).trans ((sd.2 i1 ap.i12).trans e))) (jd.at fun o e=>ke i2 o ap.i2z ((se.2 i2 (Ne.symm ap.TOi2)).trans e)) (by rw [← sz];exact gn) fun c o h1 h2 h3 h4 e=>ke c o h1 ((se.2 c h2).trans ((sd.2 c h4).trans (kc c o h1 h3 h2 e)))
end L2
namespace L2
open PySem PySem.Spec PyProof.Rows
theorem xZ (k1:Sd) (z TI TO i1 i2 l1:Addr) (i1z:i1≠z) (l1z:l1≠z) (n1:Nat) (xs:Array Value) (a b:Value) (hx:xs[n1]?=none):Meets (Builtin.«zip.__next__» ⟨[.ref z],[]⟩)
  (fun A R s=>A.handled=none∧IsZip s.heap z TI TO .none∧IsPair s.heap TI (.ref i1) (.ref i2)∧IsPair s.heap TO a b∧k1.It s.heap i1 l1 n1∧k1.Sq s.heap l1 xs ∧
   ∀ h' e,(∀ c o,c≠z→c≠i1→s.heap.get? c=some o→h'.get? c=some o)→(∃ o,h'.get? e=some o∧o.cls=.type "StopIteration")→R (.error (.ref e)) { s with heap:=h' }) :=
 .of_wp fun prog w A R s h=>by
  obtain⟨hn,hz,hTI,hTO,j1,q1,q⟩:=h
  wp_walk using wpAny_field (i:=2) (x:=Value.bool false) hz rfl rfl,wpAny_field (i:=3) (x:=Value.ref TI) hz rfl rfl,wpAny_field (i:=0) (x:=Value.none) hz rfl rfl,wpAny_field (i:=4) (x:=Value.ref TO) hz rfl rfl,wpAny_seqItems hTI rfl,wpAny_setField_rec hz (show 0<5 by decide)
  intro ha za sa
  have ka:∀ c o,c≠z→s.heap.get? c=some o→ha.get? c=some o:=fun c o hc e=>(sa.2 c hc).trans e
  have j1a:=j1.at (h':=ha) fun o e=>ka i1 o i1z e
  have q1a:=q1.at (h':=ha) fun o e=>ka l1 o l1z e
  wp_walk using wpAny_onRaise,Sd.fin (A:=A.in1) (s:={ s with heap:=ha }) hn j1a q1a hx
  intro hb e kb oe
  have zb:=kb z _ (Ne.symm i1z) za
  refine wpAny_setField_rec (s:={ s with heap:=hb }) zb (show 0<5 by decide) fun hc zc sc=>?_
  obtain⟨o,eo,co⟩:=oe
  have ez:e≠z:=fun x=>by
   subst x
   rw [zb] at eo
   cases eo
   injection co with x
   exact absurd x (by decide)
  exact q hc e (fun c o h1 h2 x=>(sc.2 c h1).trans (kb c o h2 (ka c o h1 x))) ⟨o,(sc.2 e ez).trans eo,co⟩
end L2
namespace L2
open PySem PySem.Spec PyProof.Rows
section
variable {prog:Program} {w:World} {A:Around} {E:Value→Shared→Prop} {s:Shared}
theorem lW {it:Addr} {T id:String} {Q:Option Value→Shared→Prop} (ty:s.TypeIs (.ref it) T) (sl:Slot T "__next__" id)
  (h:wpAny (model prog w) A (call (.builtin id) [.ref it]) (fun v s'=>Q (some v) s') (fun e s'=>(∃ x o,e=.ref x∧s'.heap.get? x=some o∧o.cls=.type "StopIteration")∧Q none s') s):wpAny (model prog w) A (pyNext (.ref it)) Q E s:=by
 unfold pyNext
 refine wpAny_bind (wpAny_attempt (wpAny_callSpecial?_slot ty sl (wpAny_mono h (fun v s' q=>wpAny_pure q) fun e s' q=>?_)))
 obtain⟨⟨x,o,rfl,eo,co⟩,q⟩:=q
 refine wpAny_bind (wpAny_isInstance (T := "StopIteration") (b:=true) ⟨o,eo,co⟩ ?_ ?_)
 ·with_unfolding_all rfl
 ·rw [if_pos rfl]
  exact wpAny_pure q
theorem n8 {k1 k2:Sd} {l1 l2:Addr} {xs ys:Array Value} {Q:Value→Shared→Prop} (h1:k1.Sq s.heap l1 xs) (h2:k2.Sq s.heap l2 ys)
  (q:∀ h',IsZip h' (s.heap.objs.size+4) (s.heap.objs.size+2) (s.heap.objs.size+3) .none→IsPair h' (s.heap.objs.size+2) (.ref s.heap.objs.size) (.ref (s.heap.objs.size+1)) →
   IsPair h' (s.heap.objs.size+3) .none .none→k1.It h' s.heap.objs.size l1 0→k2.It h' (s.heap.objs.size+1) l2 0→(∀ c o,s.heap.get? c=some o→h'.get? c=some o)→Q (.ref (s.heap.objs.size+4)) { s with heap:=h' }) :
  wpAny (model prog w) A (call (.type "zip") [.ref l1,.ref l2]) Q E s :=
 callType_new F.called_zip (by decide) (F.typeCall_zip_2 _ _) (F.newCall_zip_2 _ _) (fun obj=>F.args_object_init_3 _ _ _) F.entry_zip_new (zE k1 k2 l1 l2 xs ys) ⟨h1,h2,fun h' z a b c d e=>⟨⟨_,z,rfl⟩,q h' z a b c d e⟩⟩
theorem lb {k1 k2:Sd} {z TI TO i1 i2 l1 l2:Addr} {n1 n2:Nat} {xs ys:Array Value} {x y a b:Value} {Q:Option Value→Shared→Prop} (ap:ZipApart z TI TO i1 i2 l1 l2) (hz:IsZip s.heap z TI TO .none) (hTI:IsPair s.heap TI (.ref i1) (.ref i2)) (hTO:IsPair s.heap TO a b)
  (j1:k1.It s.heap i1 l1 n1) (j2:k2.It s.heap i2 l2 n2) (q1:k1.Sq s.heap l1 xs) (q2:k2.Sq s.heap l2 ys) (hx:xs[n1]?=some x) (hy:ys[n2]?=some y)
  (q:∀ h',IsZip h' z TI TO (rawInt s.heap.objs.size)→IsPair h' TO x y→k1.It h' i1 l1 (n1+1)→k2.It h' i2 l2 (n2+1)→IsPair h' s.heap.objs.size x y →
    (∀ c o,c≠z→c≠TO→c≠i1→c≠i2→s.heap.get? c=some o→h'.get? c=some o)→Q (some (.ref s.heap.objs.size)) { s with heap:=h' }):wpAny (model prog w) A (pyNext (.ref z)) Q E s :=
 lW ⟨_,hz,rfl⟩ F.slot_zip_next (call_meets F.slot_zip_next ⟨_,hz,rfl⟩ F.entry_zip_next (F.args_zip_next_1 _) (x4 k1 k2 z TI TO i1 i2 l1 l2 ap n1 n2 xs ys x y a b hx hy) ⟨hz,hTI,hTO,j1,j2,q1,q2,fun h' a b c d e f=>q h' a b c d e f⟩)
theorem mO {k1:Sd} {z TI TO i1 i2 l1:Addr} {n1:Nat} {xs:Array Value} {a b:Value} {Q:Option Value→Shared→Prop} (hn:A.handled=none) (i1z:i1≠z) (l1z:l1≠z) (hz:IsZip s.heap z TI TO .none) (hTI:IsPair s.heap TI (.ref i1) (.ref i2)) (hTO:IsPair s.heap TO a b)
  (j1:k1.It s.heap i1 l1 n1) (q1:k1.Sq s.heap l1 xs) (hx:xs[n1]?=none)
  (q:∀ h',(∀ c o,c≠z→c≠i1→s.heap.get? c=some o→h'.get? c=some o)→Q none { s with heap:=h' }):wpAny (model prog w) A (pyNext (.ref z)) Q E s :=
 lW ⟨_,hz,rfl⟩ F.slot_zip_next (call_meets F.slot_zip_next ⟨_,hz,rfl⟩ F.entry_zip_next (F.args_zip_next_1 _) (xZ k1 z TI TO i1 i2 l1 i1z l1z n1 xs a b hx) ⟨hn,hz,hTI,hTO,j1,q1,fun h' e k ⟨o,eo,co⟩=>⟨⟨e,o,rfl,eo,co⟩,q h' k⟩⟩)
end
def mw (k:Sd) (K:PySem.W.Frag) (H:Hp) (a:Addr) (xs:List V):Prop:=match k with
 | .l=>aX K H a xs
 | .t=>bC K H a xs
theorem Inv.Bz {X:Cx} {pins:List (Addr × Obj)} {σ:St} {H:Hp} {s:Shared} {k:Sd} {a:Addr} {xs:List V} (I:Inv X pins σ H s) (h:mw k X.K H a xs):∃ its:List Value,Vals xs its∧k.Sq s.heap a its.toArray:=by
 cases k
 ·obtain⟨its,r,p,_⟩:=I.list h
  exact⟨its,r,p.isList⟩
 ·obtain⟨its,r,p,_⟩:=I.tuple h
  exact⟨its,r,p⟩
theorem Inv.sW {X:Cx} {pins:List (Addr × Obj)} {σ:St} {H:Hp} {s:Shared} {k:Sd} {a:Addr} {xs ys:List V} (I:Inv X pins σ H s) (h:mw k X.K H a xs) (h':mw k X.K H a ys):xs=ys:=by
 cases k
 ·exact I.j6 h h'
 ·exact I.mj h h'
def CY (k1 k2:Sd) (K:PySem.W.Frag) (a b:Addr):It :=
 ⟨fun i H=>∃ xs ys x y,mw k1 K H a xs∧mw k2 K H b ys∧xs[i]?=some x∧ys[i]?=some y,fun i H x H'=>∃ p u v,H p=none∧x=.ref p∧(∀ xs,mw k1 K H a xs→xs[i]?=some u)∧(∀ ys,mw k2 K H b ys→ys[i]?=some v)∧H'=upd H p (.tup [u,v]),
  fun i H=>∃ xs,mw k1 K H a xs∧xs.length≤i⟩
theorem qj {P:Program} {w:World} {K:PySem.W.Frag} {elts:List Expr} {x1} {pos:Pos} {k1 k2:Sd} {a b z TI TO i1 i2:Addr} (ap:ZipApart z TI TO i1 i2 a b):Turn P w K (.Tuple elts x1 pos) (CY k1 k2 K a b) [z,TI,TO,i1,i2] z (fun i h=>IsZip h z TI TO .none∧IsPair h TI (.ref i1) (.ref i2)∧(∃ u v,IsPair h TO u v)∧k1.It h i1 a i∧k2.It h i2 b i) where
 mem:=by simp
 obj:=fun i h st c hc=>by
  obtain⟨h1,h2,⟨u,v,h3⟩,h4,h5⟩:=st
  simp only [List.mem_cons,List.not_mem_nil,or_false] at hc
  rcases hc with rfl | rfl | rfl | rfl | rfl
  ·exact⟨_,h1,fun v z=>by cases z⟩
  ·exact⟨_,h2,fun v z=>by cases z⟩
  ·exact⟨_,h3,fun v z=>by cases z⟩
  ·exact h4.there
  ·exact h5.there
 keep:=fun i h h' st k=>by
  obtain⟨h1,h2,⟨u,v,h3⟩,h4,h5⟩:=st
  exact⟨k z (by simp) _ h1,k TI (by simp) _ h2,⟨u,v,k TO (by simp) _ h3⟩,h4.at fun o x=>k i1 (by simp) o x,h5.at fun o x=>k i2 (by simp) o x⟩
 item:=by
  intro X hP hw hK hc i pins s σ H E I hf st hg
  subst hP hw hK
  obtain⟨xs,ys,x,y,hq1,hq2,hx,hy⟩:=hg
  obtain⟨its1,rv1,p1⟩:=I.Bz hq1
  obtain⟨its2,rv2,p2⟩:=I.Bz hq2
  obtain⟨u,hu,ru⟩:=rv1.get hx
  obtain⟨v,hv,rv⟩:=rv2.get hy
  obtain⟨h1,h2,⟨u0,v0,h3⟩,h4,h5⟩:=st
  refine lb ap h1 h2 h3 h4 h5 p1 p2 (x:=u) (y:=v) (by simpa using hu) (by simpa using hv) fun h' z' TO' j1 j2 hT hk=>?_
  refine⟨_,rfl,?_⟩
  have fT:H s.heap.objs.size=none:=I.hok.fresh (Nat.le_refl _)
  refine wpAny_letOwnedTupleGo_zip z' fun h'' z2 s2=>?_
  have hke:∀ c o,c∉[z,TI,TO,i1,i2]→s.heap.get? c=some o→h''.get? c=some o:=fun c o hc q=>by
   simp only [List.mem_cons,List.not_mem_nil,or_false,not_or] at hc
   exact (s2.2 c hc.1).trans (hk c o hc.1 hc.2.2.1 hc.2.2.2.1 hc.2.2.2.2 q)
  have I1:Inv X pins σ H { s with heap:=h'',toks:=s.toks }:=I.jK hke hf
  have nz:∀ c∈[z,TI,TO,i1,i2],c≠s.heap.objs.size:=fun c hc e=>by
   have:∃ o,s.heap.get? c=some o:=by
    simp only [List.mem_cons,List.not_mem_nil,or_false] at hc
    rcases hc with rfl | rfl | rfl | rfl | rfl
    ·exact⟨_,h1⟩
    ·exact⟨_,h2⟩
    ·exact⟨_,h3⟩
    ·obtain⟨o,e,_⟩:=h4.there;exact⟨o,e⟩
    ·obtain⟨o,e,_⟩:=h5.there;exact⟨o,e⟩
   obtain⟨o,eo⟩:=this
   exact Nat.ne_of_lt (Heap.lt_size eo) e
  have hT2:h''.get? s.heap.objs.size=some { cls:=.type "tuple",data:=.seq #[u,v] }:=(s2.2 _ (Ne.symm (nz z (by simp)))).trans hT
  refine⟨.ref s.heap.objs.size,upd H s.heap.objs.size (.tup [x,y]),?_,rfl,⟨_,x,y,fT,rfl,fun zs hz=>by rw [I.sW hz hq1];exact hx,fun zs hz=>by rw [I.sW hz hq2];exact hy,rfl⟩,
   ⟨z2,(s2.2 TI ap.TIz).trans (hk TI _ ap.TIz ap.TITO ap.TIi1 ap.TIi2 h2),⟨_,_,(s2.2 TO ap.TOz).trans TO'⟩,j1.at fun o q=>(s2.2 i1 ap.i1z).trans q,j2.at fun o q=>(s2.2 i2 ap.i2z).trans q⟩,fun c hc=>?_⟩
  ·exact I1.adopt (T:=s.heap.objs.size) (o:=.tup [x,y]) (I.mG (Nat.le_refl _) fT) ⟨by show 2≤sizeLine;decide,[u,v],.cons ru (.cons rv .nil),⟨_,hT2,rfl,_,rfl⟩⟩
  ·rw [aq (nz c hc)]
   exact (hf c hc).1
 done:=by
  intro X hP hw hK hc i pins s σ H E I hf st hg
  subst hP hw hK
  obtain⟨xs,hq,hx⟩:=hg
  obtain⟨its,rv,p⟩:=I.Bz hq
  have hl:=rv.length
  obtain⟨h1,h2,⟨u0,v0,h3⟩,h4,h5⟩:=st
  exact mO (I.ok.hd hc) ap.i1z ap.l1z h1 h2 h3 h4 p (by simp;omega) fun h' eb=>⟨rfl,I.jK (t':=s.toks) (ch:=[z,i1]) (fun c o hc q=>by
   simp only [List.mem_cons,List.not_mem_nil,or_false,not_or] at hc
   exact eb c o hc.1 hc.2 q) (fun c hc=>hf c (by
    simp only [List.mem_cons,List.not_mem_nil,or_false] at hc
    rcases hc with rfl | rfl<;>simp))⟩
 self:=fun _ _ _ _ _ st h=>wpAny_pyIter_zip st.1 h
def AG (k1 k2:Sd) (K:PySem.W.Frag) (ta:TA):TI:=fun σ H R=>ta σ H fun vs H1=>∃ a b,vs=[.ref a,.ref b]∧(∃ xs,mw k1 K H1 a xs)∧(∃ ys,mw k2 K H1 b ys)∧R (CY k1 k2 K a b) H1
theorem lC:bootBuiltins "zip"=some (.type "zip"):=by decide +kernel
theorem Bl {X:Cx} {elts:List Expr} {x1} {tpos:Pos} {a b:Expr} {ta:TA} {p pos:Pos} (k1 k2:Sd) (hg:Gl X "zip") (hm:X.mg "zip"=none) (ha:PA X [a,b] ta) (hs:starEach [a,b] X.env=[(false,eval a X.env),(false,eval b X.env)]:=by rfl) (hs2:starEach [b] X.env=[(false,eval b X.env)]:=by rfl) :
  PI X (.Tuple elts x1 tpos) (.Call (.Name "zip" p) [a,b] [] pos) (AG k1 k2 X.K ta):=by
 intro pins s σ H R I h
 refine Call_ (gR I hg hm lC (PyProof.Rows.callWith_type1 (bj (ha pos pins s σ H _ I h) fun us s1 ⟨vs,H1,I1,r1,q1⟩=>?_) (by rw [hs,hs2]) (by rw [hs2];rfl)))
 obtain⟨a',b',e,⟨xs,hq1⟩,⟨ys,hq2⟩,q⟩:=q1
 subst e
 cases r1 with
 | cons r rr =>
  cases rr with
  | cons r' rr' =>
   cases rr'
   cases r
   cases r'
   obtain⟨its1,rv1,p1⟩:=I1.Bz hq1
   obtain⟨its2,rv2,p2⟩:=I1.Bz hq2
   refine n8 p1 p2 fun h' hz hTI hTO j1 j2 hk=>?_
   refine wpAny_pyIter_zip hz ?_
   have I2:Inv X pins σ H1 { s1 with heap:=h' }:=I1.kept (t':=s1.toks) hk
   refine⟨_,[s1.heap.objs.size+4,s1.heap.objs.size+2,s1.heap.objs.size+3,s1.heap.objs.size,s1.heap.objs.size+1],_,_,H1,rfl,I2,qj (PyProof.Rows.zipApart_new p1.lt p2.lt),⟨hz,hTI,⟨_,_,hTO⟩,j1,j2⟩,fun c hc=>?_,q⟩
   simp only [List.mem_cons,List.not_mem_nil,or_false] at hc
   rcases hc with rfl | rfl | rfl | rfl | rfl<;>exact I1.mG (by omega) (I1.hok.fresh (by omega))
theorem lF {K:PySem.W.Frag} {k1 k2:Sd} {a b:Addr} {xs ys:List V} {js:List (Option Nat)} {g:TG} {tt:TT} {te:TE} {σ:St} {Q:VK} {H1:Hp} (Pv:Nat→List V→Hp→Prop) (h0:Pv 0 [] H1) (hxy:xs.length=ys.length) (hx:xs.length≤sizeLine) (hl:∀ i zs H,i≤xs.length→Pv i zs H→mw k1 K H a xs∧mw k2 K H b ys∧zs.length≤i)
  (hs:∀ i x y zs H p,xs[i]?=some x→ys[i]?=some y→Pv i zs H→H p=none→g (.ref p) (dN js σ) (upd H p (.tup [x,y])) fun σ2 H2=>cw (dN js σ) σ2∧tt σ2 H2 fun c H3=>if c=true then te σ2 H3 fun v H4=>Pv (i+1) (zs++[v]) H4 else Pv (i+1) zs H3)
  (hd:∀ zs H p,Pv xs.length zs H→H p=none→Q (.ref p) (upd H p (.lst zs))):rL (CY k1 k2 K a b) js g tt te σ Q H1:=by
 refine⟨fun i m zs H=>m=xs.length-i∧i≤xs.length∧Pv i zs H,⟨xs.length,by simp,Nat.zero_le _,h0⟩,?_⟩
 rintro i m zs H ⟨rfl,hi,p⟩
 obtain⟨q,q',hy⟩:=hl i zs H hi p
 by_cases hlt:i<xs.length
 ·refine .inr ⟨⟨xs,ys,xs[i],ys[i],q,q',by simp [hlt],by simp⟩,by omega,Pv (i+1),fun ys' H' p'=>⟨xs.length-(i+1),by omega,rfl,hlt,p'⟩,fun x H' y=>?_⟩
  obtain⟨pt,u,v,f,e1,e2,e3,e4⟩:=y
  subst e1 e4
  exact hs i u v zs _ pt (e2 xs q) (e3 ys q') p f
 ·have e:i=xs.length:=by omega
  subst e
  exact .inl ⟨⟨xs,q,Nat.le_refl _⟩,by omega,fun p' hp'=>hd zs H p' p hp'⟩
end L2
namespace Num
theorem qX {p x y:Int} {m:Nat} (h:Al p x y) (o:Ord p x m):Ord p y m:=⟨o.pos,(h.pow m).symm.trans o.one,fun j z=>o.dv j ((h.pow j).trans z)⟩
def eN:List (Int × Int)→Nat
 | []=>1
 | p::r=>p.1.toNat^p.2.toNat*eN r
theorem cP:∀ a b:List (Int × Int),eN (a++b)=eN a*eN b
 | [],b=>by simp [eN]
 | p::r,b=>by
  show p.1.toNat^p.2.toNat*eN (r++b)=p.1.toNat^p.2.toNat*eN r*eN b
  rw [cP r b,Nat.mul_assoc]
theorem dP:∀ a:List (Int × Int),(∀ p∈a,Pm p.1)→(eN a:Int)=bH a
 | [],_=>rfl
 | p::r,h=>by
  have t:=(h p (List.mem_cons_self ..)).two
  show ((p.1.toNat^p.2.toNat*eN r:Nat):Int)=p.1^p.2.toNat*bH r
  rw [Int.natCast_mul,Int.natCast_pow,dP r fun x z=>h x (List.mem_cons_of_mem _ z),show (p.1.toNat:Int)=p.1 by omega]
theorem qy:∀ a:List (Int × Int),(∀ p∈a,Pm p.1)→0<eN a
 | [],_=>Nat.one_pos
 | p::r,h=>by
  have t:=(h p (List.mem_cons_self ..)).two
  exact Nat.mul_pos (Nat.pow_pos (by omega)) (qy r fun x z=>h x (List.mem_cons_of_mem _ z))
theorem uV {q m:Nat} (h:Nm q) (hm:¬q∣m) (k:Nat):Nat.Coprime (q^k) m:=Nat.Coprime.pow_left k (h.co hm)
theorem zP {q:Int} (hq:Pm q) {b:List (Int × Int)} (hb:∀ p∈b,Pm p.1) (ne:∀ p∈b,p.1≠q):¬q.toNat∣eN b:=fun z=>by
 have t:=hq.two
 have:q∣bH b:=by
  rw [← dP b hb]
  have:=Int.natCast_dvd_natCast.mpr z
  rwa [show (q.toNat:Int)=q by omega] at this
 obtain⟨p,hp,e⟩:=cG hq hb this
 exact ne p hp e
theorem rT {b:List (Int × Int)} (hb:∀ p∈b,Pm p.1):∀ a:List (Int × Int),(∀ p∈a,Pm p.1)→(∀ x∈a,∀ y∈b,y.1≠x.1)→Nat.Coprime (eN a) (eN b)
 | [],_,_=>Nat.coprime_one_left _
 | p::r,h,ne=>by
  have hp:=h p (List.mem_cons_self ..)
  exact Nat.Coprime.mul_left (uV (oW hp) (zP hp hb (ne p (List.mem_cons_self ..))) _) (rT hb r (fun x z=>h x (List.mem_cons_of_mem _ z)) fun x z=>ne x (List.mem_cons_of_mem _ z))
theorem yX {n a:Int} {q t:Nat} (hq:Nm q) (h:Al n (a^q^t) 1) (no:∀ j,j<t→¬Al n (a^q^j) 1):Ord n a (q^t):=by
 have q2:=hq.1
 obtain⟨m,o,_⟩:=iX (N:=q^t) (Nat.pow_pos (by omega)) h
 have d:=o.dv _ h
 cases t with
 | zero =>
  have:m=1:=Nat.eq_one_of_dvd_one (by simpa using d)
  rw [this] at o
  simpa using o
 | succ k =>
  have:m=q^(k+1):=sr hq k m d fun z=>no k (Nat.lt_succ_self _) (by
   obtain⟨c,hc⟩:=z
   rw [hc]
   exact bc o.one)
  rw [← this]
  exact o
theorem bS {a:Int} {x y:Nat}:(a^x)^y=a^(x*y):=by rw [Int.pow_mul]
theorem qY {n a:Int} {M1 M2 E1 E2:Nat} (co:Nat.Coprime M1 M2) (p1:0<M1) (p2:0<M2) (h:Al n (a^(M1*M2)) 1) (o1:Ord n (a^M2) E1) (o2:Ord n (a^M1) E2):Ord n a (E1*E2):=by
 have d1:E1∣M1:=o1.dv M1 (by rw [bS,Nat.mul_comm];exact h)
 have d2:E2∣M2:=o2.dv M2 (by rw [bS];exact h)
 obtain⟨c1,hc1⟩:=d1
 obtain⟨c2,hc2⟩:=d2
 obtain⟨e,o,_⟩:=iX (Nat.mul_pos p1 p2) h
 have x1:e∣M2*E1:=o.dv _ (by rw [← bS];exact o1.one)
 have x2:e∣M1*E2:=o.dv _ (by rw [← bS];exact o2.one)
 have cc:Nat.Coprime c2 c1:=by
  have:Nat.Coprime c1 c2:=Nat.Coprime.coprime_dvd_left ⟨E1,by rw [hc1,Nat.mul_comm]⟩ (Nat.Coprime.coprime_dvd_right ⟨E2,by rw [hc2,Nat.mul_comm]⟩ co)
  exact this.symm
 have x3:e∣E1*E2:=by
  have:=Nat.dvd_gcd x1 x2
  rw [show M2*E1=E1*E2*c2 by rw [hc2];rw [Nat.mul_comm (E2*c2) E1,Nat.mul_assoc],show M1*E2=E1*E2*c1 by rw [hc1];rw [Nat.mul_assoc,Nat.mul_comm c1 E2,Nat.mul_assoc],Nat.gcd_mul_left,cc.gcd_eq_one,Nat.mul_one] at this
  exact this
 have ce:Nat.Coprime E1 E2:=Nat.Coprime.coprime_dvd_left ⟨c1,hc1⟩ (Nat.Coprime.coprime_dvd_right ⟨c2,hc2⟩ co)
 refine⟨Nat.mul_pos o1.pos o2.pos,?_,fun j hj=>?_⟩
 ·obtain⟨c,hc⟩:=x3
  rw [hc]
  exact bc o.one
 ·refine ce.mul_dvd_of_dvd_of_dvd (o1.dv j ?_) (o2.dv j ?_)
  ·rw [bS,Nat.mul_comm,← bS]
   have:=hj.pow M2
   rwa [Int.one_pow] at this
  ·rw [bS,Nat.mul_comm,← bS]
   have:=hj.pow M1
   rwa [Int.one_pow] at this
structure TO (n a:Int) (ps:List (Int × Int)) (ts:List Int):Prop where
 len:ts.length=ps.length
 nn:∀ t∈ts,0≤t
 ord:Ord n a (eN ((ps.map (·.1)).zip ts))
theorem TO.al {n a b:Int} {ps:List (Int × Int)} {ts:List Int} (h:TO n a ps ts) (e:Al n a b):TO n b ps ts:=⟨h.len,h.nn,qX e h.ord⟩
theorem TO.none {n a:Int} (h:Al n a 1):TO n a [] []:=⟨rfl,fun _ z=>by simp at z,⟨Nat.one_pos,by show Al n (a^1) 1;rw [Int.pow_one];exact h,fun j _=>Nat.one_dvd j⟩⟩
theorem TO.one {n a q k:Int} {t:Nat} (hq:Pm q) (h:Al n (a^q.toNat^t) 1) (no:∀ j,j<t→¬Al n (a^q.toNat^j) 1):TO n a [(q,k)] [(t:Int)]:=by
 refine⟨rfl,fun x z=>?_,?_⟩
 ·rw [List.mem_singleton.mp z];omega
 ·show Ord n a (q.toNat^(t:Int).toNat*1)
  rw [Nat.mul_one,Int.toNat_natCast]
  exact yX (oW hq) h no
theorem TO.two {n a:Int} {as bs:List (Int × Int)} {ts us:List Int} (ha:∀ p∈as,Pm p.1) (hb:∀ p∈bs,Pm p.1) (ne:∀ x∈as,∀ y∈bs,y.1≠x.1) (h:Al n (a^eN (as++bs)) 1) (h1:TO n (a^eN bs) as ts) (h2:TO n (a^eN as) bs us):TO n a (as++bs) (ts++us):=by
 refine⟨by rw [List.length_append,List.length_append,h1.len,h2.len],fun t z=>(List.mem_append.mp z).elim (h1.nn t) (h2.nn t),?_⟩
 rw [List.map_append,List.zip_append (by rw [List.length_map,h1.len]),cP]
 rw [cP] at h
 exact qY (rT hb as ha ne) (qy as ha) (qy bs hb) h h1.ord h2.ord
end Num
namespace L2
open PySem PySem.Spec PyProof.Rows
end L2
namespace L2
open PySem PySem.Spec PyProof.Rows
section
variable {prog:Program} {w:World} {A:Around} {E:Value→Shared→Prop} {s:Shared}
end
def C8 (K:PySem.W.Frag) (a:Addr):It :=
 ⟨fun i H=>∃ xs x,bC K H a xs∧xs[i]?=some x,fun i H x H'=>∃ p v,H p=none∧x=.ref p∧(∀ xs,bC K H a xs→xs[i]?=some v)∧H'=upd H p (.tup [.int i,v]),fun i H=>∃ xs,bC K H a xs∧xs.length≤i⟩
def vA (K:PySem.W.Frag) (ta:TA):TI:=fun σ H R=>ta σ H fun vs H1=>∃ a,vs=[.ref a]∧(∃ xs,bC K H1 a xs)∧R (C8 K a) H1
end L2
namespace L2
open PySem PySem.Spec PyProof.Rows
def vD (K:PySem.W.Frag) (ta:TA):TI:=fun σ H R=>ta σ H fun vs H1=>∃ a b k1 k2,vs=[.ref a,.ref b]∧(∃ xs,mw k1 K H1 a xs)∧(∃ ys,mw k2 K H1 b ys)∧R (CY k1 k2 K a b) H1
theorem y9 {X:Cx} {elts:List Expr} {x1} {tpos:Pos} {a b:Expr} {ta:TA} {p pos:Pos} (hg:Gl X "zip") (hm:X.mg "zip"=none) (ha:PA X [a,b] ta) (hs:starEach [a,b] X.env=[(false,eval a X.env),(false,eval b X.env)]:=by rfl) (hs2:starEach [b] X.env=[(false,eval b X.env)]:=by rfl) :
  PI X (.Tuple elts x1 tpos) (.Call (.Name "zip" p) [a,b] [] pos) (vD X.K ta):=by
 intro pins s σ H R I h
 refine Call_ (gR I hg hm lC (PyProof.Rows.callWith_type1 (bj (ha pos pins s σ H _ I h) fun us s1 ⟨vs,H1,I1,r1,q1⟩=>?_) (by rw [hs,hs2]) (by rw [hs2];rfl)))
 obtain⟨a',b',k1,k2,e,⟨xs,hq1⟩,⟨ys,hq2⟩,q⟩:=q1
 subst e
 cases r1 with
 | cons r rr =>
  cases rr with
  | cons r' rr' =>
   cases rr'
   cases r
   cases r'
   obtain⟨its1,rv1,p1⟩:=I1.Bz hq1
   obtain⟨its2,rv2,p2⟩:=I1.Bz hq2
   refine n8 p1 p2 fun h' hz hTI hTO j1 j2 hk=>?_
   refine wpAny_pyIter_zip hz ?_
   have I2:Inv X pins σ H1 { s1 with heap:=h' }:=I1.kept (t':=s1.toks) hk
   refine⟨_,[s1.heap.objs.size+4,s1.heap.objs.size+2,s1.heap.objs.size+3,s1.heap.objs.size,s1.heap.objs.size+1],_,_,H1,rfl,I2,qj (PyProof.Rows.zipApart_new p1.lt p2.lt),⟨hz,hTI,⟨_,_,hTO⟩,j1,j2⟩,fun c hc=>?_,q⟩
   simp only [List.mem_cons,List.not_mem_nil,or_false] at hc
   rcases hc with rfl | rfl | rfl | rfl | rfl<;>exact I1.mG (by omega) (I1.hok.fresh (by omega))
end L2
namespace L2
open PySem PySem.Spec PyProof.Rows PySem.W
end L2
namespace L2
open PySem PySem.Spec PyProof.Rows
end L2
namespace L2
open PySem PySem.Spec PyProof.Rows PySem.W
section
variable {prog:Program} {w:World} {A:Around} {E:Value→Shared→Prop} {K:PySem.W.Frag} {h:Heap} {g:Array GenState} {d:Drawn} {t:Nat} {os:OsState} {x C B:Addr}
end
section
variable {X:Cx} {pins:List (Addr × Obj)} {σ:St} {H:Hp} {s:Shared} {x:Addr}
end
section
variable {X:Cx} {B:Addr} {n:Option Nat} {hd:ExceptHandler} {ts:TS}
variable {B2:Addr} {n2:Option Nat} {hd2:ExceptHandler} {ts2:TS}
def Ae (K:PySem.W.Frag) (B:Addr) (n:Option Nat) (B2:Addr) (n2:Option Nat) (sp:Sp) (ta:TA) (put:V→St→St) (ts ts2:TS):TS:=fun D σ H=>ta σ H fun vs H1=>sp vs H1 (fun v H2=>D.nx (put v σ) H2)
 (fun cv xo H2=>∃ C x dd,cv=.ref C∧xo=some x∧H2 x=some (XO x C dd)∧dh K C∧((mroIn K C (.ref B)=some true∧ts (oN n D) (vt n x σ) H2)∨(mroIn K C (.ref B)=some false∧mroIn K C (.ref B2)=some true∧ts2 (oN n2 D) (vt n2 x σ) H2)))
variable {k:Nat} {f:Str} {ps:List Str} {sp:Sp} {e:Expr} {es:List Expr} {t:TA} {p cpos epos pos:Pos}
end
end L2
namespace L2
open PySem PySem.Spec PyProof.Rows PySem.W
namespace HT
section
variable {prog:Program} {w:World} {A:Around} {E:Value→Shared→Prop} {s:Shared}
theorem uU {t b:Addr} {ws:List Value} {Q:Value→Shared→Prop} (ht:IsTup s.heap t ([]:List Value).toArray) (hb:IsTup s.heap b ws.toArray)
  (h1:Q (.ref b) s):wpAny (model prog w) A (binaryOp .Add (.ref t) (.ref b)) Q E s:=by
 obtain⟨⟨cls,dd,data,sl⟩,ho,hc,n,hd⟩:=id ht
 obtain⟨⟨cls2,dd2,data2,sl2⟩,ho2,hc2,n2,hd2⟩:=id hb
 simp only at hc hd hc2 hd2
 subst hc hd hc2 hd2
 exact concat_meets ⟨_,ho,rfl⟩ ⟨_,ho2,rfl⟩ noFill_tuple_add seq_tuple_add PySem.F.slot_tuple_add PySem.F.entry_tuple_add (PySem.F.args_tuple_add_2 _ _)
   (tuple_addW0 t b ([]:List Value).toArray ws.toArray n n2 dd dd2 sl sl2 (by simp)) ⟨ho,ho2,h1⟩
end
end HT
def CB (K:PySem.W.Frag):R2:=fun x y H Q=>∃ a b xs ys,x=.ref a∧y=.ref b∧bC K H a xs∧bC K H b ys∧xs.length+ys.length≤sizeLine∧∀ p H',aB H H'→bC K H' p (xs++ys)→Q (.ref p) H'
theorem yU {X:Cx}:fG X (binaryOp .Add) (CB X.K):=by
 intro pins s σ H x y v u Q I rx ry h
 obtain⟨a,b,xs,ys,rfl,rfl,ha,hb,hz,q⟩:=h
 by_cases e:xs=[]
 ·subst e
  cases rx
  cases ry
  obtain⟨its,r1,p1,_⟩:=I.tuple ha
  obtain⟨its2,r2,p2,_⟩:=I.tuple hb
  have e1:its=[]:=r1.jG.mpr rfl
  subst e1
  exact HT.uU p1 p2 ⟨.ref b,H,I,rfl,q b H (aB.refl _) hb⟩
 ·refine yV pins s σ H _ _ v u Q I rx ry ⟨a,b,xs,ys,rfl,rfl,ha,hb,e,hz,fun z=>q a H (aB.refl _) (by rw [z,List.append_nil];exact ha),fun _ p hp=>q p _ (ao hp) (bC.of ag)⟩
end L2
namespace L2
open PySem PySem.Spec PyProof.Rows PySem.W
namespace Tsl
open _root_.HT
section
variable {prog:Program} {w:World} {A:Around} {E:Value→Shared→Prop} {s:Shared}
theorem oM {α β:Type} {f g:α→Option β}:∀{l:List α},(∀ x∈l,f x=g x)→l.filterMap f=l.filterMap g
 | [],_=>rfl
 | x::l,h=>by rw [List.filterMap_cons,List.filterMap_cons,h x (List.mem_cons_self ..),oM fun y hy=>h y (List.mem_cons_of_mem _ hy)]
theorem tD (xs:Array Value):((List.range xs.size).filterMap fun(m:Nat)=>xs[((xs.size:Int)-1+(m:Int) * -1).toNat]?).toArray=xs.toList.reverse.toArray:=by
 rw [← krv_pick]
 unfold slicePick
 rw [krv_bounds]
 show _=((sliceRange ((xs.size:Int)-1) (-1) (-1)).filterMap (xs[·]?)).toArray
 rw [krv_sliceRange,List.filterMap_map]
 congr 1
 exact oM fun m hm=>by
  have:=List.mem_range.mp hm
  show xs[((xs.size:Int)-1+(m:Int) * -1).toNat]?=xs[xs.size-1-m]?
  congr 1
  omega
theorem nX (n:Nat):Builtin.Slice.sliceAdjust none none (-1) (n:Int)=((n:Int)-1,-1):=by
 unfold Builtin.Slice.sliceAdjust
 simp
theorem nY (n:Nat):Builtin.Slice.slicePlaces ((n:Int)-1) (-1) (-1)=n:=by
 unfold Builtin.Slice.slicePlaces
 simp
 omega
theorem iB {sl:Addr} {vk:Value} {n:Nat} {Q:Int × Int × Nat→Shared→Prop} (hs:s.heap.IsSliceOf sl .none .none vk) (pk:IsPart vk (some (-1)))
  (h:Q ((n:Int)-1,-1,n) s):wpAny (model prog w) A (Builtin.Slice.sliceApplied (.ref sl) (pure (n:Int))) Q E s:=by
 obtain⟨os,hos,hcs,hds⟩:=id hs
 unfold Builtin.Slice.sliceApplied Builtin.Slice.sliceFields
 refine wpAny_bind (wpAny_bind (wpAny_field hos hds (x:=.none) rfl (wpAny_bind (wpAny_field hos hds (x:=.none) rfl (wpAny_bind (wpAny_field hos hds (x:=vk) rfl (wpAny_pure ?_)))))))
 refine wpAny_bind (rq pk ?_)
 dsimp only
 rw [if_neg (by decide)]
 refine wpAny_bind (slicePart_none (wpAny_bind (slicePart_none (wpAny_bind (wpAny_pure ?_)))))
 show wpAny _ _ (pure ((Builtin.Slice.sliceAdjust none none (-1) (n:Int)).1,(-1:Int),Builtin.Slice.slicePlaces (Builtin.Slice.sliceAdjust none none (-1) (n:Int)).1 (Builtin.Slice.sliceAdjust none none (-1) (n:Int)).2 (-1))) _ _ s
 rw [nX]
 dsimp only
 rw [nY]
 exact wpAny_pure h
theorem rH {t sl:Addr} {items:Array Value} {vk:Value} {Q:Value→Shared→Prop} (ht:IsTup s.heap t items) (hs:s.heap.IsSliceOf sl .none .none vk) (pk:IsPart vk (some (-1))) (hz:items.size≤sizeLine)
  (q:Q (.ref s.heap.objs.size) { s with heap:=s.heap.push { cls:=.type "tuple",data:=.seq items.toList.reverse.toArray } }):wpAny (model prog w) A (getItem (.ref t) (.ref sl)) Q E s:=by
 obtain⟨os,hos,hcs,hds⟩:=id hs
 have hTs:s.TypeIs (.ref sl) "slice":=⟨os,hos,hcs⟩
 have hsz:sizeOk (.seq items.toList.reverse.toArray):=by
  show items.toList.reverse.toArray.size≤sizeLine
  rw [List.size_toArray,List.length_reverse,Array.length_toList]
  exact hz
 unfold getItem
 try with_reducible refine wpAny_holding ?_
 first | refine wpAny_bind (wpAny_pure ?_) | skip
 refine wpAny_bind (wpAny_sequenceKey ht.typeIs (by decide) ?_)
 refine wpAny_bind (wpAny_callSpecial?_slot (name:=Str.ofString "__getitem__") ht.typeIs slot_tuple_getitem (wpAny_call_entry slot_tuple_getitem ht.typeIs entry_tuple_getitem ?_ (args_tuple_getitem _ _)))
 show wpAny _ _ (Builtin.Tuple.tupleItemsOf _ >>= _) _ _ _
 refine wpAny_bind (tupleItemsOf_ ht ?_)
 refine wpAny_bind (wpAny_typeOf hTs ?_)
 rw [if_pos (by decide)]
 refine wpAny_bind (iB hs pk ?_)
 dsimp only
 rw [if_neg (by simp),tD]
 first
  | exact wpAny_bind (m:=Builtin.Tuple.tupleExact _) (wpAny_newObj_type (wpAny_pure ⟨_,rfl,wpAny_pure q⟩) hsz)
  | exact wpAny_bind (wpAny_bind (m:=Builtin.Tuple.tupleExact _) (wpAny_newObj_type (wpAny_pure (wpAny_pure ⟨_,rfl,wpAny_pure q⟩)) hsz))
  | exact wpAny_bind (m:=Builtin.Tuple.tupleExact _) (wpAny_newObj_type (wpAny_bind (wpAny_pure (wpAny_pure ⟨_,rfl,wpAny_pure q⟩))) hsz)
  | exact wpAny_bind (wpAny_bind (m:=Builtin.Tuple.tupleExact _) (wpAny_newObj_type (wpAny_pure ⟨_,rfl,wpAny_pure q⟩) hsz))
end
end Tsl
def Ad (K:PySem.W.Frag) (te:TE) (tk:TO):TE:=fun σ H Q=>te σ H fun x H1=>tk σ H1 fun o H2=>o=some (-1)∧∃ a xs,x=.ref a∧bC K H2 a xs∧∀ p,H2 p=none→Q (.ref p) (upd H2 p (.tup xs.reverse))
section
variable {X:Cx} {e k:Expr} {te:TE} {tk:TO} {p2 pos:Pos}
theorem y8 (he:PE X e te) (hk:PO X (some k) tk)
  (hs:∀ a b:Addr,∃ ops,subscripted (.Slice none none (some k) p2) false (.ref a) (.ref b)=operate ops (getItem (.ref a) (.ref b)):=by intro a b;exact⟨_,by with_unfolding_all rfl⟩):PE X (.Subscript e (.Slice none none (some k) p2) pos) (Ad X.K te tk):=by
 intro pins s σ H Q I h
 refine Subscript_ (bj (he pins s σ H _ I h) fun v s1 ⟨x,H1,I1,r1,q1⟩=>?_)
 refine wpAny_Slice ?_
 rw [evalPart_none]
 refine wpAny_pure (wpAny_pure ?_)
 refine bj (hk pins s1 σ H1 _ I1 q1) fun vk s3 ⟨o,H3,I3,pk,eo,a,xs,ex,hx,q3⟩=>?_
 subst eo
 subst ex
 cases r1
 have I4:Inv X pins σ H3 { s3 with heap:=s3.heap.push { cls:=.type "slice",data:=.fields #[.none,.none,vk] } }:=I3.kept (t':=s3.toks) fun b ob q=>Heap.get?_push_of_some _ q
 obtain⟨its,r,ht,hz⟩:=I4.tuple hx
 have hlen:=r.length
 show wpAny (model X.prog X.w) X.A (subscriptTail e (.Slice none none (some k) p2) (.ref a) (.ref s3.heap.objs.size)) (EP X pins σ Q) X.xe { s3 with heap:=s3.heap.push { cls:=.type "slice",data:=.fields #[.none,.none,vk] } }
 obtain⟨ops,hops⟩:=hs a s3.heap.objs.size
 refine tail_any (ops:=ops) ht.typeIs slot_tuple_getitem.lookup ?_ hops
 refine Tsl.rH ht (Heap.IsSliceOf.new ..) pk (by rw [List.size_toArray]<;>omega) ?_
 refine⟨.ref _,_,I4.laid (t':=s3.toks) (o:=.tup xs.reverse) (fun b ob q=>Heap.get?_push_of_some _ q) (Nat.le_refl _) ?_,rfl,q3 _ (I4.hok.fresh (Nat.le_refl _))⟩
 exact⟨by rw [List.length_reverse];exact hz,_,r.rev,IsTup.new _ _⟩
end
end L2
namespace L2
open PySem PySem.Spec PyProof.Rows
section
variable {prog:Program} {w:World} {K:Type} [DecidableEq K] {knd:HeapKind prog w K} {A:Around} {E:Value→Shared→Prop} {s:Shared}
def mQ (xs:List (K × Addr × Value)) (k:K):List (K × Addr × Value):=xs.filter fun x=>decide (x.1≠k)
theorem sf:∀{xs:List (K × Addr × Value)} {k:K} {p:Addr × Value} {j:Nat},(xs.map (·.1)).Nodup→xs[j]?=some (k,p)→xs.eraseIdx j=mQ xs k
 | [],_,_,_,_,h=>by simp at h
 | x::r,k,p,0,hn,h=>by
  have e:x=(k,p):=by simpa using h
  subst e
  rw [List.map_cons,List.nodup_cons] at hn
  show r=mQ ((k,p)::r) k
  unfold mQ
  rw [List.filter_cons_of_neg (by simp)]
  refine (List.filter_eq_self.mpr fun y hy=>?_).symm
  exact decide_eq_true fun z=>hn.1 (List.mem_map.mpr ⟨y,hy,z⟩)
 | x::r,k,p,j+1,hn,h=>by
  have h':r[j]?=some (k,p):=by simpa using h
  rw [List.map_cons,List.nodup_cons] at hn
  have ne:x.1≠k:=fun z=>hn.1 (List.mem_map.mpr ⟨(k,p),List.mem_of_getElem? h',z.symm⟩)
  show x::r.eraseIdx j=mQ (x::r) k
  unfold mQ
  rw [List.filter_cons_of_pos (by simpa using ne),sf hn.2 h']
  rfl
theorem uG {d a:Addr} {xs:List (K × Addr × Value)} {k:K} {p:Addr × Value} {Q:Option DictEntry→Shared→Prop} (hu:knd.room A) (hkey:knd.is s.heap k a) (hm:s.heap.DictOfH knd d xs) (hp:atKey xs k=some p) (hsz:xs.length≤sizeLine)
  (h:∀ e h',e.val=p.2→h'.DictOfH knd d (mQ xs k)→Heap.SameBut d s.heap h'→Q (some e) { s with heap:=h',toks:=s.toks+knd.draws k }) :
  wpAny (model prog w) A (Builtin.Dict.takeOut d (.ref a)) Q E s:=by
 obtain⟨o,es,ep,ho,hc,hd,he,his,hn⟩:=hm
 unfold Builtin.Dict.takeOut
 try with_reducible refine wpAny_holding ?_
 refine wpAny_bind (knd.pyHash hu hkey (wpAny_bind (wpAny_dictFind_heap (s:={ s with toks:=s.toks+knd.draws k }) hu hkey ho hd he his hn (fun no=>?_) fun j q hj=>?_)))
 ·rw [atKey_none_of_get no] at hp;cases hp
 have eq:q=p:=by rw [atKey_of_get hn hj] at hp;exact Option.some.inj hp
 subst eq
 refine wpAny_bind (wpAny_dictEntries (s:={ s with toks:=s.toks+knd.draws k }) ho hd ?_)
 rw [entry_at he j,hj]
 have sz:=size_of_entries he
 refine wpAny_bind (wpAny_updateDictKeys (hz:=by omega) (s:={ s with toks:=s.toks+knd.draws k }) ho hd (wpAny_pure (h _ _ rfl ⟨_,_,ep+1,Heap.get?_update_self _ ho (Obj.isFreed_of_dict (Obj.data_mapDictKeys hd _)),hc.mapDictKeys _,Obj.data_mapDictKeys hd _,?_,?_,?_⟩ (Heap.SameBut.update ..))))
 ·rw [← sf hn hj,show (xs.eraseIdx j).map (entryOfKey knd)=(xs.map (entryOfKey knd)).eraseIdx j from by simp [List.eraseIdx_eq_take_drop_succ],← he]
  obtain⟨l⟩:=es
  simp
 ·intro x hx
  exact knd.keeps (his x (List.mem_filter.mp hx).1) ho hd (Heap.SameBut.update ..)
 ·exact List.Nodup.sublist (List.Sublist.map _ List.filter_sublist) hn
theorem wG {d a:Addr} {xs:List (K × Addr × Value)} {k:K} {p:Addr × Value} {Q:Value→Shared→Prop} (hu:knd.room A.in1) (hkey:knd.is s.heap k a) (hm:s.heap.DictOfH knd d xs) (hp:atKey xs k=some p) (hsz:xs.length≤sizeLine)
  (h:∀ h',h'.DictOfH knd d (mQ xs k)→Heap.SameBut d s.heap h'→Q p.2 { s with heap:=h',toks:=s.toks+knd.draws k }) :
  wpAny (model prog w) A (call (.builtin "dict.pop") [.ref d,.ref a]) Q E s:=by
 have hT:s.TypeIs (.ref d) "dict":=by obtain⟨o,es,ep,ho,hc,_⟩:=hm;exact⟨o,ho,hc.1⟩
 refine wpAny_call_entry PySem.F.slot_dict_pop hT PySem.F.entry_dict_pop ?_ (PySem.F.args_dict_pop_2 _ _)
 obtain⟨o,es,ep,ho,hc,hd,he,his,hn⟩:=id hm
 unfold Builtin.«dict.pop»
 refine wpAny_bind ?_
 unfold Builtin.Dict.keyAndDefault
 refine wpAny_bind (wpAny_notOrdered_dict hT ?_)
 show wpAny _ _ (pure (d,Value.ref a,none)) _ _ s
 refine wpAny_pure ?_
 dsimp only
 have kn:(keyPart (Value.ref a)).isSome=false:=rfl
 have ne:es.isEmpty=false:=by
  have sz:=size_of_entries he
  have:xs≠[]:=fun z=>by rw [z] at hp;cases hp
  have:0<xs.length:=List.length_pos_iff.mpr this
  rw [Array.isEmpty_eq_false_iff]
  intro z
  rw [z] at sz
  simp at sz
  omega
 simp only [kn,Bool.false_eq_true,if_false]
 refine wpAny_bind (wpAny_dictEntries ho hd ?_)
 refine wpAny_bind (wpAny_pure ?_)
 rw [ne]
 simp only [Bool.false_eq_true,if_false]
 refine wpAny_bind (uG hu hkey hm hp hsz fun e h' ev dd hs=>?_)
 simp only [Option.isNone_some,Bool.false_eq_true,if_false]
 exact wpAny_bind (wpAny_letGo (wpAny_pure ⟨e.val,rfl,by rw [ev];exact h h' dd hs⟩))
end
end L2
namespace L2
open PySem PySem.Spec PyProof.Rows PySem.W
def iM (h:Heap) (d:Addr) (es:Array DictEntry) (ep:Nat):Prop:=∃ o,h.get? d=some o∧o.ExactDict∧o.data=.dict es ep
theorem iM.gE {h h':Heap} {d:Addr} {es:Array DictEntry} {ep:Nat} (x:iM h d es ep) (k:∀ o,h.get? d=some o→h'.get? d=some o):iM h' d es ep:=by
 obtain⟨o,a,b⟩:=x
 exact⟨o,k _ a,b⟩
section
variable {P:Program} {w:World} {A:Around} {E:Value→Shared→Prop} {s:Shared} {d:Addr} {es:Array DictEntry} {ep:Nat}
theorem iM.type (x:iM s.heap d es ep):s.TypeIs (.ref d) "dict":=by obtain⟨o,a,c,_⟩:=x;exact⟨o,a,c.1⟩
theorem vG {Q:Value→Shared→Prop} (nd:(d==sysModules)=false) (x:iM s.heap d es ep)
  (q:Q (.ref s.heap.objs.size) { s with heap:=s.heap.push { cls:=.type "dict_keyiterator",data:=.fields #[.ref d,.int 0 0,.int es.size 0,.int ep 0] } }):wpAny (model P w) A (pyIter (.ref d)) Q E s:=by
 have t:=x.type
 obtain⟨o,a,c,e⟩:=x
 refine wpAny_pyIter_slot t F.slot_dict_iter (wpAny_call_entry F.slot_dict_iter t F.entry_dict_iter ?g (F.args_dict_iter_1 _))
 unfold Builtin.«dict.__iter__» Builtin.Dict.dictSlotNone
 refine wpAny_bind (wpAny_bind (wpAny_notOrdered_dict t (wpAny_pure (α:=Value) (a:=.ref d) ?_)))
 unfold Builtin.Dict.showsAll
 show wpAny _ _ ((if (d==sysModules)=true then _ else _) >>= _) _ _ s
 rw [if_neg (by rw [nd];simp)]
 refine wpAny_bind (wpAny_pure (wpAny_bind (wpAny_dictEntries a e (wpAny_bind (wpAny_dictEpoch a e ?_)))))
 exact wpAny_bind (wpAny_newObj_type (wpAny_pure ⟨_,rfl,"dict_keyiterator",_,⟨_,Heap.get?_push_size _ rfl,rfl⟩,F.slot_dict_keyiterator_next.lookup,q⟩))
theorem vP {it:Addr} {i:Nat} {x:DictEntry} {Q:Option Value→Shared→Prop} (ki:s.heap.IsKeyIter it d i es.size ep) (m:iM s.heap d es ep) (hx:es[i]?=some x)
  (q:∀ h',h'.IsKeyIter it d (i+1) es.size ep→Heap.SameBut it s.heap h'→Q (some x.key) { s with heap:=h' }):wpAny (model P w) A (pyNext (.ref it)) Q E s:=by
 have t:=ki.typeIs
 obtain⟨o,ho,hc,hd⟩:=id ki
 obtain⟨od,a,c,e⟩:=m
 unfold pyNext
 refine wpAny_bind (wpAny_attempt (wpAny_callSpecial?_slot (name:=Str.ofString "__next__") t F.slot_dict_keyiterator_next (wpAny_call_entry F.slot_dict_keyiterator_next t F.entry_dict_keyiterator_next ?g (F.args_dict_keyiterator_next_1 _))))
 refine wpAny_bind (wpAny_pure (wpAny_bind (wpAny_bind ?_)))
 refine wpAny_bind (wpAny_typeNameOfWhole_keyiter t (wpAny_pure (wpAny_bind (wpAny_fieldsOf ho hd ?_))))
 simp only [show Builtin.Dict_items.ownsTuple "dict_keyiterator"=false by decide,Bool.false_eq_true,if_false]
 show wpAny _ _ (if (Value.ref d==Value.none)=true then _ else _) _ _ s
 rw [if_neg (by exact Bool.false_ne_true)]
 refine wpAny_bind (wpAny_pure (wpAny_bind (wpAny_dictEntries a e ?_)))
 rw [if_neg (by simp)]
 refine wpAny_bind (wpAny_pure (wpAny_bind (wpAny_dictEpoch a e ?_)))
 rw [if_neg (by simp)]
 refine wpAny_pure ?_
 simp only [show ¬((i:Int)<0) from by omega,if_false,Int.toNat_natCast,hx]
 refine wpAny_bind (wpAny_bind (wpAny_typeNameOfWhole_keyiter t (wpAny_pure (wpAny_bind (wpAny_isOneOf_keyiter t ?_)))))
 show wpAny _ _ (setField (.ref it) 1 (rawInt ((i:Int)+1)) >>= _) _ _ s
 refine wpAny_bind (wpAny_setField ho hd (by simp) ?_)
 have ki':(s.heap.update it (Obj.mapFields (·.setIfInBounds 1 (rawInt ((i:Int)+1))))).IsKeyIter it d (i+1) es.size ep :=
  ⟨_,Heap.get?_update_self _ ho (Obj.isFreed_of_fields (Obj.data_mapFields hd _)),(Obj.cls_mapFields ..).trans hc,by rw [Obj.data_mapFields hd];simp [rawInt]⟩
 refine wpAny_bind (wpAny_holding (wpAny_bind (wpAny_isOneOf_keyiter (s:={ s with heap:=s.heap.update it (Obj.mapFields (·.setIfInBounds 1 (rawInt ((i:Int)+1)))) }) ki'.typeIs ?_)))
 show wpAny _ _ (pure x.key) _ _ _
 exact wpAny_pure (wpAny_pure ⟨_,rfl,wpAny_pure (q _ ki' (Heap.SameBut.update ..))⟩)
theorem yn {it:Addr} {i:Nat} {Q:Option Value→Shared→Prop} (hh:A.handled=none) (ki:s.heap.IsKeyIter it d i es.size ep) (m:iM s.heap d es ep) (hx:es[i]?=none)
  (q:∀ h',Heap.ExtBut it s.heap h'→Q none { s with heap:=h' }):wpAny (model P w) A (pyNext (.ref it)) Q E s:=by
 have t:=ki.typeIs
 obtain⟨o,ho,hc,hd⟩:=id ki
 obtain⟨od,a,c,e⟩:=m
 unfold pyNext
 refine wpAny_bind (wpAny_attempt (wpAny_callSpecial?_slot (name:=Str.ofString "__next__") t F.slot_dict_keyiterator_next (wpAny_call_entry F.slot_dict_keyiterator_next t F.entry_dict_keyiterator_next ?g (F.args_dict_keyiterator_next_1 _))))
 refine wpAny_bind (wpAny_pure (wpAny_bind (wpAny_bind ?_)))
 refine wpAny_bind (wpAny_typeNameOfWhole_keyiter t (wpAny_pure (wpAny_bind (wpAny_fieldsOf ho hd ?_))))
 simp only [show Builtin.Dict_items.ownsTuple "dict_keyiterator"=false by decide,Bool.false_eq_true,if_false]
 show wpAny _ _ (if (Value.ref d==Value.none)=true then _ else _) _ _ s
 rw [if_neg (by exact Bool.false_ne_true)]
 refine wpAny_bind (wpAny_pure (wpAny_bind (wpAny_dictEntries a e ?_)))
 rw [if_neg (by simp)]
 refine wpAny_bind (wpAny_pure (wpAny_bind (wpAny_dictEpoch a e ?_)))
 rw [if_neg (by simp)]
 refine wpAny_pure ?_
 simp only [show ¬((i:Int)<0) from by omega,if_false,Int.toNat_natCast,hx]
 refine wpAny_bind (wpAny_bind (wpAny_typeNameOfWhole_keyiter t (wpAny_pure ?_)))
 show wpAny _ _ (setField (.ref it) 0 .none >>= _) _ _ s
 refine wpAny_bind (wpAny_setField ho hd (by simp) ?_)
 show wpAny _ _ (PySem.newExc (.type "StopIteration") [] >>= _) _ _ _
 refine wpAny_bind ?_
 simp only [PySem.newExc,newTuple]
 refine wpAny_bind (wpAny_newObj_type (wpAny_bind (m:=firstArgMember _ _) (wpAny_of_eq (a:=Value.none) (by first | rfl | (simp only [firstArgMember];rfl)) (wpAny_newObj_type ?_ (by size_fits)))) (by size_fits))
 simp only [raiseNew]
 refine wpAny_bind (wpAny_handled ?_)
 rw [show A.in1.handled=none from hh]
 refine wpAny_bind (wpAny_pure (wpAny_throw ?th))
 refine wpAny_bind (wpAny_isInstance (b:=true) (T := "StopIteration") ⟨_,Heap.get?_push_size _ rfl,rfl⟩ isSubtype_stop ?_)
 exact wpAny_pure (q _ (((Heap.SameBut.update ..).extBut.push _).push _))
theorem tM (hh:A.handled=none) (I:Addr) (hne:d≠I):Walks P w A I [I,d] [I] es.size (fun i v=>∃ x,es[i]?=some x∧v=x.key) (fun i h=>h.IsKeyIter I d i es.size ep∧iM h d es ep) where
 sub:=fun b hb=>by simp at hb;simp [hb]
 frame:=fun _ _ _ st k=>⟨st.1.at fun o e=>k I (by simp) o e,st.2.gE fun o e=>k d (by simp) o e⟩
 item:=fun i s Q E hi st q=>by
  refine vP st.1 st.2 (Array.getElem?_eq_getElem hi) fun h' ki hs=>?_
  exact q _ h' s.toks ⟨_,Array.getElem?_eq_getElem hi,rfl⟩ ⟨ki,st.2.gE fun o e=>hs.extBut d o hne e⟩ fun b o hb e=>hs.extBut b o (fun z=>hb (by simp [z])) e
 done:=fun s Q E st q=>yn hh st.1 st.2 (by simp) fun h' k=>q h' s.toks fun b o hb e=>k b o (fun z=>hb (by simp [z])) e
 self:=fun _ _ _ _ st q=>wpAny_pyIter_keyiter st.1 q
theorem qA {h:Heap} (x:iM h d es ep):d<h.objs.size:=by obtain⟨o,a,_⟩:=x;exact Heap.lt_size a
theorem yo (nd:(d==sysModules)=false):KdlSrc P w "dict" d d es.size (fun i v=>∃ x,es[i]?=some x∧v=x.key) (fun h=>iM h d es ep) where
 type:=fun _ x=>x.type
 there:=fun _ x=>⟨qA x,qA x⟩
 keep:=fun _ _ x k=>x.gE fun o e=>k d (.inl rfl) o e
 notList:=by decide
 notTuple:=by decide
 hint:=fun _ _ _ _ x q=>kdl_hint_dict x.type q
 iter:=fun _ _ hh x=>⟨_,_,(fun _ _ q=>vG nd x q),tM hh _ (Nat.ne_of_lt (qA x)),⟨⟨_,Heap.get?_push_size _ rfl,rfl,rfl⟩,x.gE fun o e=>Heap.get?_push_of_some _ e⟩⟩
end
section
variable {X:Cx} {pins:List (Addr × Obj)} {σ:St} {H:Hp} {s:Shared} {A:Around} {E:Value→Shared→Prop}
theorem va {a:Addr} {kvs:List (List Key × V)} (I:Inv X pins σ H s) (e:H a=some (.dT kvs)):kvs.length≤sizeLine∧(a==sysModules)=false∧∃ es ep,iM s.heap a es ep∧es.size=kvs.length∧∀(i:Nat) x,es[i]?=some x→∃ k v b,kvs[i]?=some (k,v)∧x.key=.ref b∧H b=some (.tup (k.map kV)):=by
 obtain⟨z,y,xs,r,o,es,ep,h1,h2,h3,h4,h5⟩:=(show bo X.prog X.w H s.heap a (.dT kvs) from I.hok a _ e)
 have l1:kvs.length=xs.length:=Paired.length r
 have l2:es.size=xs.length:=by rw [← Array.length_toList,h4,List.length_map]
 refine⟨z,y,es,ep,⟨o,h1,h2,h3⟩,by omega,fun i x hx=>?_⟩
 have hx':(xs.map (entryOfKey (tupleKind (bF X.prog X.w))))[i]?=some x:=by rw [← h4,Array.getElem?_toList];exact hx
 rw [List.getElem?_map] at hx'
 obtain⟨y0,e1,e2⟩:=Option.map_eq_some_iff.mp hx'
 have hg:∀{l:List (List Key × V)} {m:List (List Key × Addr × Value)} (i:Nat),Paired (fun(p:List Key × V) (q:List Key × Addr × Value)=>p.1=q.1∧H q.2.1=some (.tup (p.1.map kV))∧RelV p.2 q.2.2) l m→∀ y,m[i]?=some y→∃ p,l[i]?=some p∧H y.2.1=some (.tup (p.1.map kV)):=by
  intro l m i q
  induction q generalizing i with
  | nil=>intro y z;simp at z
  | cons a t ih =>
   intro y z
   cases i with
   | zero=>simp at z;subst z;exact⟨_,rfl,a.2.1⟩
   | succ i=>exact ih i y (by simpa using z)
 obtain⟨p,e3,e4⟩:=hg i r y0 e1
 exact⟨p.1,p.2,y0.2.1,e3,by rw [← e2];rfl,e4⟩
def Bu:List V→Hp→VK→Prop:=fun xs H Q=>∃(a:Addr) (kvs:List (List Key × V)),xs=[.ref a]∧H a=some (.dT kvs)∧∀(p:Addr) (bs:List Addr),bs.length=kvs.length→(∀(i:Nat) b,bs[i]?=some b→∃ k v,kvs[i]?=some (k,v)∧H b=some (.tup (k.map kV)))→H p=none→Q (.ref p) (upd H p (.lst (bs.map V.ref)))
theorem sx {Pr:Nat→Addr→Prop}:∀(vs:List Value),(∀(i:Nat) v,vs[i]?=some v→∃ b,v=.ref b∧Pr i b)→∃ bs:List Addr,bs.length=vs.length∧Vals (bs.map V.ref) vs∧∀(i:Nat) b,bs[i]?=some b→Pr i b
 | [],_=>⟨[],rfl,.nil,fun i b z=>by simp at z⟩
 | v::vs,h=>by
  obtain⟨b,e,pb⟩:=h 0 v rfl
  obtain⟨bs,l,r,q⟩:=sx (Pr:=fun i=>Pr (i+1)) vs fun i u z=>h (i+1) u (by simpa using z)
  subst e
  refine⟨b::bs,by simp [l],.cons rfl r,fun i c z=>?_⟩
  cases i with
  | zero=>simp at z;subst z;exact pb
  | succ i=>exact q i c (by simpa using z)
theorem qx (hc:X.calm=true):cD X (.type "list") Bu:=by
 intro pins s σ H xs us Q I r h
 obtain⟨a,kvs,rfl,ha,q⟩:=h
 obtain⟨u,rfl,ru⟩:=vals1 r
 cases ru
 obtain⟨z,nd,es,ep,de,sz,ent⟩:=va I ha
 refine kdl_call (yo (P:=X.prog) (w:=X.w) (es:=es) (ep:=ep) nd) (I.ok.hd hc) de (by omega) fun h' tk acc c k hD hacc=>?_
 obtain⟨bs,l,rv,qb⟩:=sx (Pr:=fun i b=>∃ k v,kvs[i]?=some (k,v)∧H b=some (.tup (k.map kV))) acc.toList fun i v e=>by
  obtain⟨x,e1,e2⟩:=hacc.2 i v (by rw [← Array.getElem?_toList];exact e)
  obtain⟨kk,vv,b,e3,e4,e5⟩:=ent i x e1
  exact⟨b,by rw [e2,e4],kk,vv,e3,e5⟩
 have al:acc.toList.length=kvs.length:=by rw [Array.length_toList,hacc.1,sz]
 have fT:H s.heap.objs.size=none:=I.hok.fresh (Nat.le_refl _)
 refine⟨.ref s.heap.objs.size,upd H s.heap.objs.size (.lst (bs.map V.ref)),?_,rfl,q _ bs (by omega) qb fT⟩
 exact I.laid k (Nat.le_refl _) ⟨by rw [List.length_map];omega,acc.toList,c,rv,by rw [hD]⟩
def wO:List V→Hp→VK→Prop:=fun xs H Q=>∃(a:Addr) (n:Nat),xs=[.ref a]∧((∃ kvs,H a=some (.dT kvs)∧n=kvs.length)∨∃ kvs,H a=some (.dK kvs)∧n=kvs.length)∧Q (.int n) H
theorem yB {d:Addr} {es:Array DictEntry} {ep:Nat} {P:Program} {w:World} {Q:Value→Shared→Prop} (nd:(d==sysModules)=false) (x:iM s.heap d es ep) (fit:es.size≤sizeLine)
  (q:Q (.int es.size (s.toks+1)) { s with toks:=s.toks+1+1 }):wpAny (model P w) A (call (.builtin "len") [.ref d]) Q E s:=by
 have f63:(es.size:Int)<2^63:=by rw [sizeLine_eq] at fit;omega
 refine Calls.call_function_entry kind_len plain_len entry_len (args_len1 _) ?_
 have t:=x.type
 obtain⟨o,a,c,e⟩:=x
 unfold Builtin.«len»
 refine wpAny_bind (m:=oneArg "len" _) (wpAny_pure (wpAny_bind (m:=callSpecial? (.ref d) (Str.ofString "__len__")) (wpAny_callSpecial?_slot (name:=Str.ofString "__len__") t F.slot_dict_len (wpAny_call_entry F.slot_dict_len t F.entry_dict_len ?g (F.args_dict_len_1 _)))))
 show wpAny _ _ (dictSize d >>= _) _ _ s
 unfold dictSize
 refine wpAny_bind (wpAny_bind (wpAny_dictEntries a e (wpAny_pure ?_)))
 show wpAny _ _ (Builtin.Dict.pendingCount d >>= _) _ _ s
 refine wpAny_bind (wpAny_pendingCount_other nd (wpAny_ret_mkInt ?_))
 simp only [show ((es.size:Int)+((0:Nat):Int))=(es.size:Int) from Int.add_zero _]
 refine wpAny_bind (wpAny_holding (wpAny_pure (wpAny_bind (wpAny_letGo ?_))))
 show wpAny _ _ (if ((es.size:Nat):Int)<0 then _ else _) _ _ _
 rw [if_neg (by omega)]
 show wpAny _ _ (if ((es.size:Nat):Int)≥2^63 then _ else _) _ _ _
 rw [if_neg (by omega)]
 exact wpAny_bind (wpAny_mkInt (wpAny_pure ⟨_,rfl,q⟩))
theorem cY:cD X (.builtin "len") wO:=by
 intro pins s σ H xs us Q I r h
 obtain⟨a,n,rfl,ha,q⟩:=h
 obtain⟨u,rfl,ru⟩:=vals1 r
 cases ru
 rcases ha with⟨kvs,ha,rfl⟩|⟨kvs,ha,rfl⟩
 ·obtain⟨z,nd,es,ep,de,sz,_⟩:=va I ha
  exact yB nd de (by omega) ⟨.int kvs.length,H,I.tok _,⟨_,by rw [sz]⟩,q⟩
 ·exact Cd I (.inl ha) fun t s' I'=>⟨.int kvs.length,H,I',⟨t,rfl⟩,q⟩
def rF (td ty:TE):TE:=fun σ H Q=>td σ H fun x H1=>∃ a,x=.ref a∧DM H1 a∧ty σ H1 fun y H2=>∃ kvs k b v,H2 a=some (.dT kvs)∧y=.ref b∧H2 b=some (.tup (k.map kV))∧cf kvs k=some v∧Q v (upd H2 a (.dT (bD kvs k)))
theorem KT.off {kvs:List (List Key × V)} {xs:List (List Key × Addr × Value)} (r:KT H kvs xs) (k:List Key):KT H (bD kvs k) (mQ xs k):=by
 induction r with
 | nil=>exact .nil
 | @cons p q ps qs hq t ih =>
  unfold bD mQ
  by_cases c:p.1=k
  ·rw [List.filter_cons_of_neg (by simpa using c),List.filter_cons_of_neg (by simpa using hq.1▸c)]
   exact ih
  ·rw [List.filter_cons_of_pos (by simpa using c),List.filter_cons_of_pos (by simpa using hq.1▸c)]
   exact .cons hq ih
theorem pH {o e:Expr} {apos cpos:Pos} {td ty:TE} (hu:X.A.units+1<cLine) (ho:PE X o td) (he:PE X e ty) (m:M1 X o "pop" apos e cpos):PE X (.Call (.Attribute o "pop" apos) [e] [] cpos) (rF td ty):=by
 intro pins s σ H Q I h
 refine wpAny_Call_method m.base m.few m.line PySem.F.plainAttrs_dict PySem.F.slot_dict_pop PySem.F.type_dict_pop (bj (ho pins s σ H _ I h) fun u s1 ⟨x,H1,I1,rx,a,ex,d,q1⟩=>?_)
 subst ex
 obtain rfl:u=Value.ref a:=rx
 obtain⟨t1,t2,_⟩:=AJ I1 d
 refine⟨t1,t2,?_⟩
 rw [m.trees]
 refine Calls.callWith_builtin rfl (Calls.evalArgs_plain (Calls.spliced_cons (bj (he pins s1 σ H1 _ I1 q1) fun iv s2 ⟨y,H2,I2,ry,kvs,k,b,v,ea,ey,eb,l,q2⟩=>Calls.spliced_nil ?_)))
 subst ey
 obtain rfl:iv=Value.ref b:=ry
 obtain⟨z,nd,xs,rel,dd⟩:=zO I2.hok ea
 obtain⟨w',hw,rw'⟩:=eF.some_of (v:=v) (by rw [← l];exact rel.val k)
 obtain⟨p,hp,ep⟩:=Option.map_eq_some_iff.mp hw
 have lx:kvs.length=xs.length:=Paired.length rel
 refine wG (tupleKind_room_in1 hu) (iV I2.hok eb) dd hp (by omega) fun h' dd' hs=>?_
 rw [ep]
 obtain⟨o1,es,ep1,g1,g2,g3,g4,g5,g6⟩:=dd'
 have ht:∀ c ys,H2 c=some (.tup ys)→upd H2 a (.dT (bD kvs k)) c=some (.tup ys):=fun c ys e=>by rw [aq (eO e ea (by intro z;cases z))];exact e
 exact⟨v,upd H2 a (.dT (bD kvs k)),jz (ob:=.dT (bD kvs k)) I2 (by rw [ea];exact True.intro) hs ⟨_,g1⟩ ⟨Nat.le_trans (oA kvs k) z,nd,_,(KT.off rel k).keeps ht,o1,es,ep1,g1,g2,g3,g4,g6⟩,rw',q2⟩
def CG (K:PySem.W.Frag):List V→Hp→VK→Prop:=fun xs H Q=>∃(a:Addr) (ns:List Int),xs=[.ref a]∧aX K H a (ns.map V.int)∧ns≠[]∧∀ m,m∈ns→(∀ n∈ns,n≤m)→Q (.int m) H
theorem lJ:∀{ns:List Int} {us:List Value},Vals (ns.map V.int) us→IntsAre us ns
 | [],_,.nil=>.nil
 | n::ns,_,.cons ⟨t,e⟩ r=>by subst e;exact .cons _ t (lJ r)
theorem lD (hc:X.calm=true):cD X (.builtin "max") (CG X.K):=by
 intro pins s σ H xs us Q I r h
 obtain⟨a,ns,rfl,hq,ne,q⟩:=h
 obtain⟨u,rfl,ru⟩:=vals1 r
 cases ru
 obtain⟨its,rv,p,hz⟩:=I.list hq
 have hi:=lJ rv
 have hl:=p.isList
 obtain⟨ys,e⟩:=hi.allInts.items
 have hns:ns=ys.toList.map (·.1):=by rw [← hi.numsOf,← nums_intItems,← e]
 have hl0:0<ns.length:=List.length_pos_iff.mpr ne
 have hsz:0<ys.size:=by rw [hns,List.length_map,Array.length_toList] at hl0;exact hl0
 rw [e] at hl
 refine max_intList (I.ok.hd hc) hl hsz fun v h' tk hv hk=>?_
 obtain⟨t,rfl⟩:=intItems_at hv
 obtain⟨b1,b2⟩:=argBest_gt (numAt ys) (ys.size-1)
 refine⟨.int _,H,I.kept hk,⟨t,rfl⟩,q _ ?_ fun n hn=>?_⟩
 ·rw [hns,numAt_eq]
  exact getD_mem (by rw [List.length_map,Array.length_toList];omega)
 ·rw [hns] at hn
  obtain⟨j,hj,rfl⟩:=mem_getD hn
  rw [List.length_map,Array.length_toList] at hj
  rw [← numAt_eq]
  exact b2 j (by omega)
end
end L2
namespace L2
open PySem PySem.Spec PyProof.Rows PySem.W
section
variable {P:Program} {w:World} {K:PySem.W.Frag} {mg:Str→Option Value} {base:Heap} {CX:jN} {k:Nat} {C:Addr} {m qual x:Str} {ps:List Str} {sp:Sp} {st:Stmt}
def Am (K:PySem.W.Frag) (C:Addr) (m qual:Str) (st:Stmt):Prop:=∃ f fd,Meth K C m f∧uL K m qual st f fd
structure bJ (P:Program) (w:World) (K:PySem.W.Frag) (mg:Str→Option Value) (base:Heap) (CX:jN) (k:Nat) (C:Addr) (m:Str) (ps:List Str) (sp:Sp):Prop where
 ex:∃ f fd,Meth K C m f∧cQ P w K mg base CX k f fd ps sp∧Binds K fd ps []
theorem AU {f:Addr} {oc:Value} {od an:Option Addr} {osl:Array (Option Value)} {kV doc pm cdv ct:Value} (a:findIn K (.ref C) m=some (some (.ref f))) (fn:isFn K (.ref f)=true) (kk:keepIn K (.ref f)=true)
  (l:K.lookup f=some ⟨oc,od,.func (fnOf m qual (bz st) (aS st) (ak st) .none kV doc pm an cdv ct),osl⟩) (c:codeIn K cdv qual=true):Am K C m qual st:=⟨f,_,⟨a,fn,kk⟩,qE l c kk⟩
theorem ff {N:List Str} (D:Am K C m qual st)
  (hb:∀(kV doc pm:Value) (an:Option Addr) (cdv ct:Value) (us:List Value),us.length=ps.length→bindArgs (fnOf m qual (bz st) (aS st) (ak st) .none kV doc pm an cdv ct) ⟨us,[]⟩=pure (ps.zip us))
  (S:ay N ps (ak st)) (len:∀ vs H Q E,sp vs H Q E→vs.length=ps.length)
  (hbody:∀(f:Addr) (cdv:Value) (A:Around) (outer:List Env) (s:Shared) (H:Hp) (vs:List V) (Q:VK) (E:XK),bM k (A.deeper (envOfC qual (ak st) s.heap.objs.size f cdv))→sp vs H Q E →
   ∃ t,iL (fb aK P w K mg base N qual (ak st) f cdv A outer s H E).lR (aS st) t∧t { nx:=fun _ H'=>Q .non H',rt:=Q } (start N vs) H):bJ P w K mg base aK (k+1) C m ps sp:=by
 obtain⟨f,fd,M,F⟩:=D
 exact⟨f,fd,M,F.ok S len fun cdv A outer s H vs Q E hr h=>hbody f cdv A outer s H vs Q E hr h,F.binds hb⟩
structure BR (K:PySem.W.Frag) (mg:Str→Option Value) (x:Str) (C:Addr):Prop where
 cls:ll K C
 at_:mg x=some (.ref C)
 mkn:makesIn K C=true
 kp:keepIn K (.ref C)=true
theorem AY (a:mg x=some (.ref C)) (p1:plainGet K C Str.empty=true) (p2:hasDictIn K C=true) (p3:plainOver K C=true) (p4:findIn K (.ref C) "__setattr__"=some (some (.builtin "object.__setattr__"))) (p5:makesIn K C=true) (p6:keepIn K (.ref C)=true):BR K mg x C:=⟨⟨p1,p2,p3,p4⟩,a,p5,p6⟩
theorem j7 {f:Addr} {oc:Value} {od an:Option Addr} {osl:Array (Option Value)} {kV doc pm cdv ct:Value} (_:BR K mg x C) (a:findIn K (.ref C) m=some (some (.ref f))) (fn:isFn K (.ref f)=true) (kk:keepIn K (.ref f)=true)
  (l:K.lookup f=some ⟨oc,od,.func (fnOf m qual (bz st) (aS st) (ak st) .none kV doc pm an cdv ct),osl⟩) (c:codeIn K cdv qual=true):Am K C m qual st:=AU a fn kk l c
theorem mP {f:Str} (_:BR K mg x C) (a:findIn K (.ref C) f=some none):cJ K C f:=a
variable {X:Cx} {E:XK} {o e:Expr} {es:List Expr} {ta:TE} {t:TA} {p apos pos:Pos}
theorem kr {pl:Sem Bool} (D:bJ X.prog X.w X.K X.mg X.base CX k C m ps sp) (c:ll X.K C) (hr:bM k X.A) (hx:Passes CX X E) (he:PE X o ta) (ha:PA X (e::es) t)
  (hst:starEach (e::es) X.env=(false,eval e X.env)::starEach es X.env:=by rfl) (hpl:(backTo pos (starEach es X.env)).any (·.1)=false:=by rfl)
  (ht:eval (.Call (.Attribute o m apos) (e::es) [] pos) X.env=(do
   let ov ← eval o X.env
   standAt apos.atName
   let (f,first) ← holding [ov] (getMethod ov m pl)
   callWith pos f first (backTo pos (starEach (e::es) X.env)) (backToKw pos (keywordEach [] X.env))):=by rfl) :
  PE X (.Call (.Attribute o m apos) (e::es) [] pos) (mi C m sp [] E ta t):=by
 obtain⟨f,fd,M,F,b⟩:=D.ex
 exact y7 he c M F hr b .nil hx ha hst hpl ht
theorem uv {pl:Sem Bool} (D:bJ X.prog X.w X.K X.mg X.base CX k C m ps sp) (c:ll X.K C) (hr:bM k X.A) (hx:Passes CX X E) (he:PE X o ta)
  (ht:eval (.Call (.Attribute o m apos) [] [] pos) X.env=(do
   let ov ← eval o X.env
   standAt apos.atName
   let (f,first) ← holding [ov] (getMethod ov m pl)
   callWith pos f first (backTo pos (starEach [] X.env)) (backToKw pos (keywordEach [] X.env))):=by rfl) :
  PE X (.Call (.Attribute o m apos) [] [] pos) (mi C m sp [] E ta xJ):=by
 obtain⟨f,fd,M,F,b⟩:=D.ex
 exact wC he c M F hr b .nil hx ht
theorem wB (c:BR X.K X.mg x C) (D:bJ X.prog X.w X.K X.mg X.base CX k C "__init__" ps sp) (hr:bM (k+1) X.A) (hg:Gl X x) (hx:Passes CX X E) (ha:PA X (e::es) t) (hdb:(x==("__debug__":Str))=false:=by decide)
  (he:starEach (e::es) X.env=(false,eval e X.env)::starEach es X.env:=by rfl) (hpl:(backTo pos (starEach es X.env)).any (·.1)=false:=by rfl):PE X (.Call (.Name x p) (e::es) [] pos) (sY C sp [] E t):=by
 obtain⟨f,fd,M,F,b⟩:=D.ex
 exact y4 ⟨c.mkn,M.at_,M.fn,c.kp⟩ F hr hg c.at_ b .nil hx ha hdb he hpl
structure Ai (K:PySem.W.Frag) (x qual:Str) (st:Stmt) (f:Addr) (fd:FuncData) (ds:Array Value):Prop where
 ex:∃(oc:Value) (od:Option Addr) (T:Addr) (o:Obj) (n:Nat) (kV doc pm:Value) (an:Option Addr) (cdv ct:Value) (osl:Array (Option Value)),
  fd=fnOf x qual (bz st) (aS st) (ak st) (.ref T) kV doc pm an cdv ct∧K.lookup f=some ⟨oc,od,.func fd,osl⟩∧codeIn K cdv qual=true∧K.lookup T=some o∧o.data=.seq ds n
 kp:keepIn K (.ref f)=true
def mn (K:PySem.W.Frag) (mg:Str→Option Value) (x:Str) (st:Stmt) (ds:Array Value):Prop:=∃ f fd,Ai K x x st f fd ds∧mg x=some (.ref f)
theorem tK {h:Heap} {f T:Addr} {ds:Array Value} {o:Obj} {n:Nat} {oc:Value} {od an:Option Addr} {osl:Array (Option Value)} {kV doc pm cdv ct:Value} (X:K.In h) (G:h.Ns mainGlobals mg)
  (a:nsIn K mainGlobals x=some (some (.ref f))) (l:K.lookup f=some ⟨oc,od,.func (fnOf x x (bz st) (aS st) (ak st) (.ref T) kV doc pm an cdv ct),osl⟩)
  (c:codeIn K cdv x=true) (kk:keepIn K (.ref f)=true) (lT:K.lookup T=some o) (e:o.data=.seq ds n):mn K mg x st ds:=⟨f,_,⟨⟨oc,od,T,o,n,kV,doc,pm,an,cdv,ct,osl,rfl,l,c,lT,e⟩,kk⟩,mg_of X G a⟩
structure jy (P:Program) (w:World) (K:PySem.W.Frag) (mg:Str→Option Value) (base:Heap) (CX:jN) (k:Nat) (x:Str) (ps:List Str) (ds:List Value) (sp:Sp):Prop where
 ex:∃ f fd,cQ P w K mg base CX k f fd ps sp∧mg x=some (.ref f)∧keepIn K (.ref f)=true∧Binds K fd ps []∧Binds K fd ps ds
theorem Ai.binds {f:Addr} {fd:FuncData} {ds:Array Value} {dv:List Value} (F:Ai K x qual st f fd ds)
  (h:∀(T:Addr) (kV doc pm:Value) (an:Option Addr) (cdv ct:Value) (us:List Value),(us++dv).length=ps.length→∃ j,bindArgs (fnOf x qual (bz st) (aS st) (ak st) (.ref T) kV doc pm an cdv ct) ⟨us,[]⟩=seqItems? (.ref T) >>= j∧j (some ds)=pure (ps.zip (us++dv))):Binds K fd ps dv:=by
 obtain⟨oc,od,T,o,n,kV,doc,pm,an,cdv,ct,osl,rfl,lk,hcd,lT,e⟩:=F.ex
 intro s us X hl
 obtain⟨j,h1,h2⟩:=h T kV doc pm an cdv ct us hl
 exact BindsTo.of_defaults rfl (X _ _ lT) e h1 h2
theorem pF {ds:List Value} {aM:List V} (D:jy X.prog X.w X.K X.mg X.base CX k x ps ds sp) (hd:Vals aM ds) (hr:bM k X.A) (hg:Gl X x) (hx:Passes CX X E)
  (ha:PA X (e::es) t) (hdb:(x==("__debug__":Str))=false:=by decide) (he:starEach (e::es) X.env=(false,eval e X.env)::starEach es X.env:=by rfl) (hpl:(backTo pos (starEach es X.env)).any (·.1)=false:=by rfl) :
  PE X (.Call (.Name x p) (e::es) [] pos) (qd sp aM E t):=by
 obtain⟨f,fd,F,hm,hk,_,hb⟩:=D.ex
 exact sk F hr hg hm hk hb hd hx ha hdb he hpl
theorem oa {N:List Str} {ds:Array Value} (D:mn K mg x st ds)
  (hb:∀(T:Addr) (kV doc pm:Value) (an:Option Addr) (cdv ct:Value) (us:List Value),(us++[]).length=ps.length→∃ j,bindArgs (fnOf x x (bz st) (aS st) (ak st) (.ref T) kV doc pm an cdv ct) ⟨us,[]⟩=seqItems? (.ref T) >>= j∧j (some ds)=pure (ps.zip (us++[])))
  (hb2:∀(T:Addr) (kV doc pm:Value) (an:Option Addr) (cdv ct:Value) (us:List Value),(us++ds.toList).length=ps.length→∃ j,bindArgs (fnOf x x (bz st) (aS st) (ak st) (.ref T) kV doc pm an cdv ct) ⟨us,[]⟩=seqItems? (.ref T) >>= j∧j (some ds)=pure (ps.zip (us++ds.toList)))
  (S:ay N ps (ak st)) (len:∀ vs H Q E,sp vs H Q E→vs.length=ps.length)
  (hbody:∀(f:Addr) (cdv:Value) (A:Around) (outer:List Env) (s:Shared) (H:Hp) (vs:List V) (Q:VK) (E:XK),bM k (A.deeper (envOfC x (ak st) s.heap.objs.size f cdv))→sp vs H Q E →
   ∃ t,iL (fb (dJ P w) P w K mg base N x (ak st) f cdv A outer s H E) (aS st) t∧t { nx:=fun _ H'=>Q .non H',rt:=Q } (start N vs) H):jy P w K mg base (dJ P w) (k+1) x ps ds.toList sp:=by
 obtain⟨f,fd,F,hm⟩:=D
 have b1:=F.binds hb
 have b2:=F.binds hb2
 obtain⟨oc,od,T,o,n,kV,doc,pm,an,cdv,ct,osl,rfl,lk,hcd,lT,e⟩:=F.ex
 exact⟨f,_,vh lk hcd S len fun A outer s H vs Q E hr h=>hbody f cdv A outer s H vs Q E hr h,hm,F.kp,b1,b2⟩
end
end L2
namespace L2
open PySem PySem.Spec PyProof.Rows
def BW (q:Nat):Nat→Nat→Nat
 | 0,m=>m
 | f+1,m=>if q≤m*m then m else BW q f (m+1)
def rt (q:Nat):Nat:=BW q q 0
theorem wW {q:Nat}:∀(f m:Nat),(∀ j,j<m→j*j<q)→q≤(m+f)*(m+f)→q≤BW q f m*BW q f m∧∀ j,j<BW q f m→j*j<q
 | 0,m,h,e=>⟨e,h⟩
 | f+1,m,h,e=>by
  unfold BW
  by_cases c:q≤m*m
  ·rw [if_pos c];exact⟨c,h⟩
  ·rw [if_neg c]
   exact wW f (m+1) (fun j hj=>by rcases (by omega:j<m∨j=m) with z | z;exact h j z;rw [z];omega) (by rw [show m+1+f=m+(f+1) by omega];exact e)
theorem sD (q:Nat):q≤rt q*rt q∧∀ j,j<rt q→j*j<q:=wW q 0 (fun j z=>absurd z (Nat.not_lt_zero _)) (by
 rw [Nat.zero_add]
 rcases Nat.eq_zero_or_pos q with z | z
 ·rw [z];exact Nat.zero_le _
 ·exact Nat.le_mul_of_pos_left q z)
theorem CH {q m:Nat} (h1:q≤m*m) (h2:∀ j,j<m→j*j<q):rt q=m:=by
 obtain⟨a,b⟩:=sD q
 rcases Nat.lt_trichotomy (rt q) m with z | z | z
 ·have:=h2 _ z;omega
 ·exact z
 ·have:=b _ z;omega
theorem wX {q:Nat} (h:0<q):0<rt q:=by
 rcases Nat.eq_zero_or_pos (rt q) with z | z
 ·have:=(sD q).1;rw [z] at this;omega
 ·exact z
theorem z6 {q:Nat} (h:0<q):rt q≤q:=by
 rcases Nat.lt_or_ge q (rt q) with z | z
 ·have:=(sD q).2 _ z
  have:=Nat.le_mul_of_pos_left q h
  omega
 ·exact z
theorem zr {q:Nat} (h:q≤10^6):rt q≤1000:=by
 rcases Nat.lt_or_ge 1000 (rt q) with z | z
 ·have:=(sD q).2 _ z;omega
 ·exact z
def cW (p w:Int) (m:Nat):List (Key × V):=(List.range m).map fun i:Nat=>(Sum.inl (w^i%p),V.int (i:Int))
theorem fz {p w:Int} {m:Nat}:(cW p w m).length=m:=by unfold cW;rw [List.length_map,List.length_range]
theorem iI {p w:Int} {m:Nat}:cW p w (m+1)=cW p w m++[(Sum.inl (w^m%p),V.int m)]:=by unfold cW;rw [List.range_succ,List.map_append];rfl
theorem iH {p w n:Int}:∀{m:Nat},(∀ j,j<m→w^j%p≠n)→cf (cW p w m) (Sum.inl n)=none
 | 0,_=>rfl
 | m+1,h=>by
  have ih:=iH (p:=p) (w:=w) (n:=n) (m:=m) fun j hj=>h j (by omega)
  by_cases z:cf (cW p w m) (Sum.inl (w^m%p))=none
  ·rw [iI,gz _ _ _ _ z,if_neg (fun e=>h m (by omega) (Sum.inl.inj e).symm)]
   exact ih
  ·unfold cf at ih z ⊢
   rw [iI,List.find?_append]
   cases e:List.find? (fun kv=>decide (kv.1=Sum.inl n)) (cW p w m) with
   | some y=>rw [e] at ih;cases ih
   | none =>
    have:¬(Sum.inl (w^m%p):Key)=Sum.inl n:=fun e=>h m (by omega) (Sum.inl.inj e)
    simp [this]
theorem xS {p w:Int}:∀{m:Nat},(∀ i j,i<m→j<m→w^i%p=w^j%p→i=j)→∀ j,j<m→cf (cW p w m) (Sum.inl (w^j%p))=some (.int j)
 | 0,_,j,hj=>absurd hj (Nat.not_lt_zero _)
 | m+1,h,j,hj=>by
  have z:cf (cW p w m) (Sum.inl (w^m%p))=none:=iH fun i hi e=>by
   have:=h i m (by omega) (by omega) e
   omega
  rw [iI,gz _ _ _ _ z]
  by_cases c:j=m
  ·rw [c,if_pos rfl]
  ·rw [if_neg (fun e=>c (h j m hj (by omega) (Sum.inl.inj e)))]
   exact xS (fun i j hi hj=>h i j (by omega) (by omega)) j (by omega)
end L2
namespace Num
theorem Ord.co {n a:Int} {m:Nat} (o:Ord n a m):Co a n:=by
 obtain⟨k,hk⟩:∃ k,m=k+1:=⟨m-1,by have:=o.pos;omega⟩
 exact Co.AZ (m:=k) (by rw [← hk];exact o.one)
theorem Ord.ik {n a:Int} {m i j:Nat} (o:Ord n a m) (hi:i<m) (hj:j<m) (e:a^i%n=a^j%n):i=j:=o.inj o.co hi hj (Al.iff.mpr e)
theorem sj {n b:Int} {e q:Nat} (o:Ord n b e) (hd:q∣e):Ord n (b^(e/q)) q:=by
 obtain⟨f,hf⟩:=hd
 have e0:=o.pos
 have q0:0<q:=by rcases Nat.eq_zero_or_pos q with z | z;rw [z,Nat.zero_mul] at hf;omega;exact z
 have f0:0<f:=by rcases Nat.eq_zero_or_pos f with z | z;rw [z,Nat.mul_zero] at hf;omega;exact z
 have ef:e/q=f:=by rw [hf];exact Nat.mul_div_cancel_left f q0
 rw [ef]
 refine⟨q0,?_,fun j hj=>?_⟩
 ·rw [bS,Nat.mul_comm,← hf];exact o.one
 ·rw [bS] at hj
  have:=o.dv _ hj
  rw [hf,Nat.mul_comm q f] at this
  exact Nat.dvd_of_mul_dvd_mul_left f0 this
theorem zh {n w:Int} {q y:Nat} (o:Ord n w q):Al n (w^y) (w^(y%q)):=by
 have h:y=q*(y/q)+y%q:=(Nat.div_add_mod y q).symm
 have h1:=(bc (k:=y/q) o.one).mul (Al.refl n (w^(y%q)))
 rw [Int.one_mul,← Int.pow_add,← h] at h1
 exact h1
theorem u5 {n b a r w:Int} {e q x t:Nat} (o:Ord n b e) (hd:q^(t+1)∣e) (ha:Al n a (b^x)) (hr:Al n (r*b^(x%q^t)) 1) (hw:Al n w (b^(e/q))):Al n ((a*r)^(e/q^(t+1))) (w^(x/q^t%q)):=by
 obtain⟨f,hf⟩:=hd
 have e0:=o.pos
 have q0:0<q^(t+1):=by rcases Nat.eq_zero_or_pos (q^(t+1)) with z | z;rw [z,Nat.zero_mul] at hf;omega;exact z
 have qt:0<q^t:=by rcases Nat.eq_zero_or_pos (q^t) with z | z;rw [Nat.pow_succ,z,Nat.zero_mul] at q0;omega;exact z
 have q1:0<q:=by rcases Nat.eq_zero_or_pos q with z | z;rw [Nat.pow_succ,z,Nat.mul_zero] at q0;omega;exact z
 have ef:e/q^(t+1)=f:=by rw [hf];exact Nat.mul_div_cancel_left f q0
 have eq:e/q=q^t*f:=by rw [hf,Nat.pow_succ,Nat.mul_assoc,Nat.mul_comm q f,← Nat.mul_assoc];exact Nat.mul_div_cancel _ q1
 have dq:q∣e:=⟨q^t*f,by rw [hf,Nat.pow_succ,Nat.mul_comm (q^t) q,Nat.mul_assoc]⟩
 have ow:Ord n w q:=qX hw.symm (sj o dq)
 have h1:Al n (a*r) (b^(q^t*(x/q^t))):=by
  have z:=ha.mul (Al.refl n r)
  have hx:x=q^t*(x/q^t)+x%q^t:=(Nat.div_add_mod x (q^t)).symm
  have z2:=(Al.refl n (b^(q^t*(x/q^t)))).mul hr
  rw [Int.mul_one] at z2
  refine z.trans (Al.trans ?_ z2)
  have:b^x*r=b^(q^t*(x/q^t))*(r*b^(x%q^t)):=by
   have hb:b^x=b^(q^t*(x/q^t))*b^(x%q^t):=by rw [← Int.pow_add,← hx]
   rw [hb,Int.mul_assoc,Int.mul_comm (b^(x%q^t)) r]
  rw [this]
  exact Al.refl _ _
 rw [ef]
 have h2:=h1.pow f
 rw [bS] at h2
 have h3:=hw.pow (x/q^t)
 rw [bS,eq] at h3
 have h4:b^(q^t*(x/q^t)*f)=b^(q^t*f*(x/q^t)):=by congr 1;rw [Nat.mul_assoc,Nat.mul_assoc,Nat.mul_comm f]
 rw [h4] at h2
 exact (h2.trans h3.symm).trans (zh ow)
def bU (x q n:Nat):List Nat:=(List.range n).map fun i=>x/q^i%q
theorem dA {x q n:Nat}:(bU x q n).length=n:=by unfold bU;rw [List.length_map,List.length_range]
theorem gd {x q n:Nat}:bU x q (n+1)=bU x q n++[x/q^n%q]:=by unfold bU;rw [List.range_succ,List.map_append];rfl
theorem rS {x q n i:Nat} (h:i<n):(bU x q n)[i]?=some (x/q^i%q):=by unfold bU;rw [List.getElem?_map,List.getElem?_range h];rfl
theorem oY {x q n i:Nat} (q0:0<q) (hi:i<n):(x%q^n)/q^(n-i)*q+x/q^(n-1-i)%q=(x%q^n)/q^(n-(i+1)):=by
 obtain⟨k,hk⟩:∃ k,n-i=k+1:=⟨n-i-1,by omega⟩
 have e1:n-1-i=k:=by omega
 have e2:n-(i+1)=k:=by omega
 rw [hk,e1,e2]
 have e3:x/q^k%q=(x%q^n)/q^k%q:=by
  have hn:q^n=q^k*(q*q^(n-k-1)):=by rw [← Nat.mul_assoc,← Nat.pow_succ,← Nat.pow_add];congr 1;omega
  rw [hn,Nat.mod_mul_right_div_self,Nat.mod_mul_right_mod]
 rw [e3,Nat.pow_succ,← Nat.div_div_eq_div_mul]
 exact Nat.div_add_mod' _ _
theorem pI {p a b:Int} {e:Nat} (hp:Pm p) (o:Ord p b e) (h:Al p (a^e) 1):∃ x,x<e∧Al p a (b^x):=by
 rcases Classical.em (∃ x,x<e∧Al p a (b^x)) with z | z
 ·exact z
 ·exfalso
  have no:∀ x,x<e→¬Al p a (b^x):=fun x hx hh=>z ⟨x,hx,hh⟩
  obtain⟨m,hm⟩:∃ m,e=m+1:=⟨e-1,by have:=o.pos;omega⟩
  have hlen:(List.replicate m (0:Int)++[-1]).length=e:=by simp [hm]
  have key:=roots hp e (List.replicate m 0++[-1]) 1 hlen (fun hd=>hp.rZ (by
   obtain⟨c,hc⟩:=hd
   exact⟨-c,by rw [Int.mul_neg,← hc];omega⟩)) (a::(List.range e).map fun i=>b^i) ?_ ?_
  ·simp at key
   omega
  ·refine List.pairwise_cons.mpr ⟨fun y hy=>?_,?_⟩
   ·obtain⟨i,hi,rfl⟩:=List.mem_map.mp hy
    exact no i (List.mem_range.mp hi)
   ·rw [List.pairwise_map]
    refine List.Pairwise.imp_of_mem ?_ List.pairwise_lt_range
    intro i j hi hj lt hh
    have:=o.inj o.co (List.mem_range.mp hi) (List.mem_range.mp hj) hh
    omega
  ·intro r hr
   rw [uN,Int.one_mul,← hm]
   rcases List.mem_cons.mp hr with rfl | hr
   ·exact h
   ·obtain⟨i,_,rfl⟩:=List.mem_map.mp hr
    have:=bc (k:=i) o.one
    rw [bS,Nat.mul_comm]
    exact this
end Num
namespace L2
open PySem PySem.Spec PyProof.Rows
def c9 (a d:Addr) (H H':Hp):Prop:=∀ b o,b≠a→b≠d→H b=some o→H' b=some o
theorem c9.refl {a d:Addr} {H:Hp}:c9 a d H H:=fun _ _ _ _ e=>e
theorem c9.trans {a d:Addr} {H H1 H2:Hp} (h:c9 a d H H1) (h':c9 a d H1 H2):c9 a d H H2:=fun b o x y e=>h' b o x y (h b o x y e)
theorem c9.of {a d:Addr} {H H':Hp} (h:aB H H'):c9 a d H H':=fun b o _ _ e=>h b o e
theorem c9.CW {a d:Addr} {H:Hp} {o:HO}:c9 a d H (upd H d o):=fun b u _ x e=>by rw [aq x];exact e
structure KH where
 a:Addr
 dx:Addr
 d:Addr
 most:Int
 c:Int
 ks:List (Int × Int × Int)
def k3 (x:Int × Int × Int):List Key:=[.inl x.1,.inl x.2.1,.inl x.2.2]
theorem iT {x y:Int × Int × Int} (h:k3 x=k3 y):x=y:=by
 obtain⟨a,b,c⟩:=x
 obtain⟨a',b',c'⟩:=y
 simp only [k3,List.cons.injEq,Sum.inl.injEq,and_true] at h
 obtain⟨rfl,rfl,rfl⟩:=h
 rfl
def AK (k:KH):List (Str × V):=[("most",.int k.most),("counted",.int k.c),("laid",.ref k.d)]
def KTab (H:Hp) (x:Int × Int × Int) (v:V):Prop:=∃ t,v=.ref t∧H t=some (.dK (cW x.1 x.2.2 (rt x.2.1.toNat)))
structure qr (H:Hp) (k:KH) (kvs:List (List Key × V)):Prop where
 dict:H k.d=some (.dT kvs)
 keys:kvs.map (·.1)=k.ks.map k3
 nd:k.ks.Nodup
 tab:∀ x v,cf kvs (k3 x)=some v→KTab H x v
structure bY (C:Addr) (k:KH) (H:Hp):Prop where
 ins:H k.a=some (.ins C k.dx (AK k))
 ex:∃ kvs,qr H k kvs
 m0:0≤k.most
 m1:k.most≤10^6
section
variable {C:Addr} {k:KH} {H H':Hp} {kvs:List (List Key × V)}
theorem KTab.same {x:Int × Int × Int} {v:V} (h:KTab H x v) (s:aB H H'):KTab H' x v:=by obtain⟨t,e,z⟩:=h;exact⟨t,e,s _ _ z⟩
theorem qr.same (h:qr H k kvs) (s:aB H H'):qr H' k kvs:=⟨s _ _ h.dict,h.keys,h.nd,fun x v e=>(h.tab x v e).same s⟩
theorem bY.same (h:bY C k H) (s:aB H H'):bY C k H':=⟨s _ _ h.ins,let ⟨kvs,z⟩:=h.ex;⟨kvs,z.same s⟩,h.m0,h.m1⟩
theorem qr.len (h:qr H k kvs):kvs.length=k.ks.length:=by have:=congrArg List.length h.keys;simpa using this
theorem bY.ne (h:bY C k H):k.a≠k.d:=by
 obtain⟨kvs,z⟩:=h.ex
 exact eO h.ins z.dict (by intro z;cases z)
theorem bY.apart (h:bY C k H) {b:Addr} {o:HO} (e:H b=some o) (h1:∀ C dx fs,o≠.ins C dx fs) (h2:∀ kvs,o≠.dT kvs):b≠k.a∧b≠k.d:=by
 obtain⟨kvs,z⟩:=h.ex
 exact⟨eO e h.ins (h1 _ _ _),eO e z.dict (h2 _)⟩
theorem bY.keep (h:bY C k H) (bt:c9 k.a k.d H H') {b:Addr} {o:HO} (e:H b=some o) (h1:∀ C dx fs,o≠.ins C dx fs:=by intro _ _ _ z;cases z) (h2:∀ kvs,o≠.dT kvs:=by intro _ z;cases z):H' b=some o :=
 let ⟨x,y⟩:=h.apart e h1 h2;bt b o x y e
theorem bY.c7 (h:bY C k H) (bt:c9 k.a k.d H H'):∀ a xs,Rd H a (.tup xs)→Rd H' a (.tup xs):=by
 intro a xs z
 rcases z with z | ⟨o,z⟩
 ·exact .inl (h.keep bt z)
 ·exact .inr ⟨o,h.keep bt z⟩
theorem jL:∀{kvs:List (List Key × V)} {q:List Key},(cf kvs q).isSome=true↔q∈kvs.map (·.1)
 | [],q=>by simp [cf]
 | p::r,q=>by
  by_cases c:p.1=q
  ·rw [cu c];simp [c]
  ·rw [bV c,jL (kvs:=r)]
   simp only [List.map_cons,List.mem_cons]
   exact⟨.inr,fun z=>z.resolve_left fun e=>c e.symm⟩
theorem qr.mem (h:qr H k kvs) {x:Int × Int × Int}:(cf kvs (k3 x)).isSome=true↔x∈k.ks:=by
 rw [jL,h.keys,List.mem_map]
 exact⟨fun⟨y,hy,e⟩=>iT e▸hy,fun z=>⟨x,z,rfl⟩⟩
theorem iK {q j:List Key}:∀{kvs:List (List Key × V)},cf (bD kvs q) j=if j=q then none else cf kvs j
 | []=>by unfold bD;simp [cf]
 | p::r=>by
  have ih:=iK (q:=q) (j:=j) (kvs:=r)
  unfold bD at ih ⊢
  by_cases c:p.1=q
  ·rw [List.filter_cons_of_neg (by simpa using c),ih]
   by_cases d:j=q
   ·rw [if_pos d,if_pos d]
   ·rw [if_neg d,if_neg d,bV (fun e=>d (e.symm.trans c))]
  ·rw [List.filter_cons_of_pos (by simpa using c)]
   by_cases d:p.1=j
   ·rw [cu d,cu d,if_neg (fun e=>c (d.trans e))]
   ·rw [bV d,bV d,ih]
theorem lG {x:Int × Int × Int}:∀{kvs:List (List Key × V)} {ks:List (Int × Int × Int)},kvs.map (·.1)=ks.map k3→(bD kvs (k3 x)).map (·.1)=(ks.filter fun y=>decide (y≠x)).map k3
 | [],[],_=>rfl
 | [],_::_,h=>by simp at h
 | _::_,[],h=>by simp at h
 | p::r,y::ys,h=>by
  rw [List.map_cons,List.map_cons,List.cons.injEq] at h
  have ih:=lG (x:=x) (kvs:=r) (ks:=ys) h.2
  unfold bD at ih ⊢
  by_cases c:y=x
  ·rw [List.filter_cons_of_neg (by rw [h.1,c];simp),List.filter_cons_of_neg (by simpa using c)]
   exact ih
  ·rw [List.filter_cons_of_pos (by rw [h.1];simpa using fun e=>c (iT e)),List.filter_cons_of_pos (by simpa using c),List.map_cons,List.map_cons,h.1,ih]
def cH (ks:List (Int × Int × Int)) (x:Int × Int × Int):List (Int × Int × Int):=(ks.filter fun y=>decide (y≠x))++[x]
def oo (most:Int) (ks:List (Int × Int × Int)):List (Int × Int × Int):=if most<ks.length then ks.tail else ks
def i6 (k:KH) (x:Int × Int × Int):KH:={ k with ks:=oo k.most (cH k.ks x),c:=if x∈k.ks then k.c else k.c+rt x.2.1.toNat }
def gY (k:KH) (n:Int):KH:={ k with c:=k.c+n }
theorem BO {ks:List (Int × Int × Int)} {x:Int × Int × Int} (h:ks.Nodup):(cH ks x).Nodup:=by
 unfold cH
 rw [List.nodup_append]
 refine⟨h.sublist List.filter_sublist,by simp,fun a ha b hb e=>?_⟩
 rw [List.mem_singleton.mp hb] at e
 have:=(List.mem_filter.mp ha).2
 simp [e] at this
theorem zC {ks:List (Int × Int × Int)} {x:Int × Int × Int}:(cH ks x).length≤ks.length+1:=by
 unfold cH
 rw [List.length_append]
 exact Nat.add_le_add_right (List.length_filter_le _ _) 1
theorem qr.use {x:Int × Int × Int} {t:Addr} (h:qr H k kvs) (kt:∀ y v,KTab H y v→KTab H' y v) (ht:KTab H' x (.ref t)) (hD:H' k.d=some (.dT (bD kvs (k3 x)++[(k3 x,.ref t)]))) :
  qr H' { k with ks:=cH k.ks x } (bD kvs (k3 x)++[(k3 x,.ref t)]) where
 dict:=hD
 keys:=by
  rw [List.map_append,lG h.keys]
  show _=(cH k.ks x).map k3
  unfold cH
  rw [List.map_append]
  rfl
 nd:=BO h.nd
 tab:=fun y v e=>by
  rw [gz _ _ _ _ (by rw [iK,if_pos rfl])] at e
  by_cases c:k3 y=k3 x
  ·rw [if_pos c] at e
   cases e
   cases iT c
   exact ht
  ·rw [if_neg c,iK,if_neg c] at e
   exact kt _ _ (h.tab y v e)
def rM (k:KH):Prop:=(k.ks.length:Int)≤k.most
theorem rM.use {x:Int × Int × Int} (h:rM k) (m0:0≤k.most):rM (i6 k x):=by
 have h':(k.ks.length:Int)≤k.most:=h
 show ((oo k.most (cH k.ks x)).length:Int)≤k.most
 have:=zC (ks:=k.ks) (x:=x)
 unfold oo
 split
 ·rw [List.length_tail];omega
 ·omega
theorem rM.add {n:Int} (h:rM k):rM (gY k n):=h
theorem drop_tail {q:List Key} {v:V} {r:List (List Key × V)} (nd:(((q,v)::r).map (·.1)).Nodup):bD ((q,v)::r) q=r:=by
 unfold bD
 rw [List.filter_cons_of_neg (by simp)]
 refine List.filter_eq_self.mpr fun y hy=>?_
 rw [List.map_cons,List.nodup_cons] at nd
 exact decide_eq_true fun z=>nd.1 (List.mem_map.mpr ⟨y,hy,z⟩)
theorem qr.cut {q:List Key} {v:V} {r:List (List Key × V)} (h:qr H k ((q,v)::r)) (hd:∀ b u,b≠k.d→H b=some u→H' b=some u) (hD:H' k.d=some (.dT r)):qr H' { k with ks:=k.ks.tail } r:=by
 obtain⟨y,ys,e⟩:∃ y ys,k.ks=y::ys:=by
  cases e:k.ks with
  | nil=>have:=h.len;rw [e] at this;simp at this
  | cons y ys=>exact⟨y,ys,rfl⟩
 have hk:=h.keys
 have hn:=h.nd
 rw [e,List.map_cons,List.map_cons,List.cons.injEq] at hk
 rw [e,List.nodup_cons] at hn
 refine⟨hD,by rw [hk.2];show _=k.ks.tail.map k3;rw [e];rfl,by show k.ks.tail.Nodup;rw [e];exact hn.2,fun x u z=>?_⟩
 have ne:q≠k3 x:=fun e2=>by
  have:k3 x∈r.map (·.1):=jL.mp (by rw [z];rfl)
  rw [hk.2,List.mem_map] at this
  obtain⟨x',h1,h2⟩:=this
  have:y=x:=iT (hk.1.symm.trans e2)
  rw [iT h2,← this] at h1
  exact hn.1 h1
 obtain⟨t,e3,e4⟩:=h.tab x u (by rw [bV ne];exact z)
 exact⟨t,e3,hd _ _ (fun e=>by rw [e,h.dict] at e4;cases e4) e4⟩
theorem tL {q:List Key} {kvs:List (List Key × V)} (h:cf kvs q=none):bD kvs q=kvs:=by
 unfold bD
 refine List.filter_eq_self.mpr fun y hy=>decide_eq_true fun z=>?_
 have:(cf kvs q).isSome=true:=jL.mpr (List.mem_map.mpr ⟨y,hy,z⟩)
 rw [h] at this
 cases this
theorem qr.nodup (h:qr H k kvs):(kvs.map (·.1)).Nodup:=by
 rw [h.keys]
 exact List.Pairwise.map k3 (fun a b n e=>n (iT e)) h.nd
theorem bY.Dl {n:Int} {fs:List (Str × V)} (h:bY C k H) (e:fs=AK (gY k n)):bY C (gY k n) (upd H k.a (.ins C k.dx fs)):=by
 subst e
 obtain⟨kvs,z⟩:=h.ex
 refine⟨ag,⟨kvs,?_,z.keys,z.nd,fun x v e=>?_⟩,h.m0,h.m1⟩
 ·show upd H k.a _ k.d=_
  rw [aq (Ne.symm h.ne)]
  exact z.dict
 ·obtain⟨t,e1,e2⟩:=z.tab x v e
  exact⟨t,e1,by rw [aq (h.apart e2 (by intro _ _ _ z;cases z) (by intro _ z;cases z)).1];exact e2⟩
end
end L2
namespace L2
open PySem PySem.Spec PyProof.Rows
def Bq:V→List V→Hp→VK→Prop:=fun x vs H Q=>∃ l xs y,∃ j:Nat,x=.ref l∧vs=[y]∧H l=some (.lst xs)∧dB y=true∧xs.all dB=true∧(∃ z,xs[j]?=some z∧oH z y=true)∧(∀ i z,i<j→xs[i]?=some z→oH z y=false)∧Q (.int j) H
theorem As {xs:List V} {i:Nat} {z:V} (f:xs.all dB=true) (h:xs[i]?=some z):dB z=true:=List.all_eq_true.mp f z (List.mem_of_getElem? h)
theorem vM {X:Cx}:CZ X "list.index" Bq:=by
 intro pins s σ H x vs v us Q I rx rv h
 obtain⟨l,xs,y,j,rfl,rfl,hH,fy,fx,⟨z1,hz1,hz2⟩,no,q⟩:=h
 cases rx
 obtain⟨u,rfl,ru⟩:=rv.one
 obtain⟨z,its,n,r,hl,e⟩:=I.qJ hH
 have hj:j<its.length:=by rw [← r.length];exact (List.getElem?_eq_some_iff.mp hz1).1
 have hs:its.length≤sizeLine:=by rw [← r.length];exact z
 have at_:∀ i (hi:i<its.length) w,xs[i]?=some w→tN y its[i]=oH w y:=fun i hi w hw=>by
  obtain⟨u',e1,e2⟩:=r.get hw
  rw [List.getElem?_eq_getElem hi] at e1
  cases e1
  exact qB e2 (As fx hw)
 refine call_meets F.slot_list_index ⟨_,e,rfl⟩ F.entry_list_index (F.args_list_index_2 _ _) (SeqAt.list_indexAt l its.toArray n none #[] u (tN y) j (by simpa using hj) (by rw [sizeLine_eq] at hs;omega) ?_ ?_) ⟨e,fun w hw=>h7 ru fy r fx w (by simpa using hw),⟨.int j,H,I.tok _,⟨_,rfl⟩,q⟩⟩
 ·show tN y its[j]=true
  rw [at_ j hj z1 hz1]
  exact hz2
 ·intro i hi hlt
  have hi':i<its.length:=by simpa using hi
  show tN y its[i]=false
  have hx:i<xs.length:=by rw [r.length];exact hi'
  rw [at_ i hi' _ (List.getElem?_eq_getElem hx)]
  exact no i _ hlt (List.getElem?_eq_getElem hx)
end L2
set_option maxHeartbeats 8000000
namespace K
open PySem PySem.Spec PyProof.Rows L2
def top (i:Nat):Stmt:=PySem.Challenge.pw_rootprime_k58_whole_right_powers_are_let.main.body.getD i (.Pass ⟨0,0,0,0⟩)
end K
local macro_rules | `(tactic| k_data) => `(tactic| ((try dsimp only [L2.br, L2.BI, L2.xN, L2.xD, L2.xJ, L2.C3, L2.xQ, L2.tC, L2.BY, L2.rI, L2.uB, L2.rU, L2.DK, L2.xP, L2.uF, L2.cF, L2.eY, L2.Ac, L2.BK, L2.BG, L2.DH, L2.zw, L2.xI, L2.BB, L2.DI, L2.BH, L2.xC, L2.CS, L2.xM, L2.tB, L2.BC, L2.xG, L2.jX, L2.vj, L2.qd, L2.sX, L2.xH, L2.vC, L2.zT, L2.zU, L2.vB, L2.AF, L2.DJ, L2.BJ, L2.xO, L2.nM, L2.xK, L2.DA, L2.DC, L2.DF, L2.BD, L2.DR, L2.Cf, L2.xE, L2.wZ, L2.xF, L2.kU, L2.vz, L2.vA, L2.AG, L2.vD, L2.rG, L2.zy, L2.zx, L2.DT, L2.CU, L2.Ae, L2.vt, L2.oN, L2.mi, L2.sY, L2.BF, L2.Bw, L2.jJ, L2.BE, L2.nL, L2.rF, L2.rE, L2.rC, List.getElem?_cons_zero, List.getElem?_cons_succ, List.set_cons_zero, List.set_cons_succ, List.nil_append, List.cons_append, L2.B1, L2.DP, L2.zL]); (try simp only [Option.some.injEq, exists_eq_left', exists_and_left, List.cons.injEq, L2.V.int.injEq, L2.V.bl.injEq, and_true, true_and, and_assoc, decide_eq_true_eq, List.append_nil, Int.reduceToNat, Int.reducePow, Int.reduceLT, Int.reduceLE, Int.reduceNeg, Int.zero_add, Nat.reducePow, Nat.reduceLT, Int.reduceAdd, Int.reduceSub, Int.reduceMul, L2.V.ref.injEq, L2.aU, L2.qg, exists_eq_left, exists_eq', exists_eq, exists_const, L2.iz, L2.sE, L2.sG, L2.sH, L2.sI, L2.sF, L2.sJ, reduceIte, reduceCtorEq, Bool.not_eq_true', decide_eq_false_iff_not, Int.reduceAbs, Bool.not_true, Bool.not_false, if_true, Bool.false_eq_true, if_false]); (try dsimp only [L2.br, L2.BI, L2.xN, L2.xD, L2.xJ, L2.C3, L2.xQ, L2.tC, L2.BY, L2.rI, L2.uB, L2.rU, L2.DK, L2.xP, L2.uF, L2.cF, L2.eY, L2.Ac, L2.BK, L2.BG, L2.DH, L2.zw, L2.xI, L2.BB, L2.DI, L2.BH, L2.xC, L2.CS, L2.xM, L2.tB, L2.BC, L2.xG, L2.jX, L2.vj, L2.qd, L2.sX, L2.xH, L2.vC, L2.zT, L2.zU, L2.vB, L2.AF, L2.DJ, L2.BJ, L2.xO, L2.nM, L2.xK, L2.DA, L2.DC, L2.DF, L2.BD, L2.DR, L2.Cf, L2.xE, L2.wZ, L2.xF, L2.kU, L2.vz, L2.vA, L2.AG, L2.vD, L2.rG, L2.zy, L2.zx, L2.DT, L2.CU, L2.Ae, L2.vt, L2.oN, L2.mi, L2.sY, L2.BF, L2.Bw, L2.jJ, L2.BE, L2.nL, L2.rF, L2.rE, L2.rC, List.getElem?_cons_zero, List.getElem?_cons_succ, List.set_cons_zero, List.set_cons_succ, List.nil_append, List.cons_append, L2.B1, L2.DP, L2.zL]); (try simp only [Option.some.injEq, exists_eq_left', exists_and_left, List.cons.injEq, L2.V.int.injEq, L2.V.bl.injEq, and_true, true_and, and_assoc, decide_eq_true_eq, List.append_nil, Int.reduceToNat, Int.reducePow, Int.reduceLT, Int.reduceLE, Int.reduceNeg, Int.zero_add, Nat.reducePow, Nat.reduceLT, Int.reduceAdd, Int.reduceSub, Int.reduceMul, L2.V.ref.injEq, L2.aU, L2.qg, exists_eq_left, exists_eq', exists_eq, exists_const, L2.iz, L2.sE, L2.sG, L2.sH, L2.sI, L2.sF, L2.sJ, reduceIte, reduceCtorEq, Bool.not_eq_true', decide_eq_false_iff_not, Int.reduceAbs, Bool.not_true, Bool.not_false, if_true, Bool.false_eq_true, if_false])))
namespace K
open PySem PySem.Spec PyProof.Rows L2
section
variable {P:Program} {w:World} {K:PySem.W.Frag} {mg:Str→Option Value} {base:Heap}
theorem yj {i:Int} (h:(decide (i.natAbs<10^250))=true):Bd i:=Nat.lt_of_lt_of_le (of_decide_eq_true h) uS
def sZ (l:Addr) (i j:Int):HO:=.dK [(Sum.inr "cells",.ref l),(Sum.inr "spot",.int i),(Sum.inr "left",.int j)]
def Tp (p:Addr) (n:Nat) (H:Hp):Prop:=∃(l:Addr) (i j:Int) (ns:List Int),H p=some (sZ l i j)∧H l=some (.lst (ns.map V.int))∧ns.length≤63∧0≤i∧i≤n
def Off (p:Addr) (H H':Hp):Prop:=∀ b,b≠p→H' b=H b
def rN (p:Addr) (H H':Hp):Prop:=∀ b o,b≠p→H b=some o→H' b=some o
theorem Off.Dv {p:Addr} {H H':Hp} (h:Off p H H'):rN p H H':=fun b o n e=>by rw [h b n];exact e
theorem rN.trans {p:Addr} {H H1 H2:Hp} (h:rN p H H1) (h':rN p H1 H2):rN p H H2:=fun b o n e=>h' b o n (h b o n e)
theorem Off.trans {p:Addr} {H H1 H2:Hp} (h:Off p H H1) (h':Off p H1 H2):Off p H H2:=fun b n=>(h' b n).trans (h b n)
theorem rN.of {p:Addr} {H H':Hp} (h:aB H H'):rN p H H':=fun b o _ e=>h b o e
theorem Off.BN {p:Addr} {H:Hp} {o:HO}:Off p H (upd H p o):=fun b n=>aq n
theorem Tp.same {p:Addr} {n:Nat} {H H':Hp} (h:Tp p n H) (s:aB H H'):Tp p n H':=by
 obtain⟨l,i,j,ns,a,b,c⟩:=h
 exact⟨l,i,j,ns,s _ _ a,s _ _ b,c⟩
theorem Tp.ne {p b:Addr} {n:Nat} {H:Hp} {o:HO} (h:Tp p n H) (e:H b=some o) (z:∀ kvs,o≠.dK kvs):b≠p:=by
 obtain⟨l,i,j,ns,a,_⟩:=h
 exact eO e a (z _)
theorem r8:∀{L:List V},(∀ x∈L,∃ c,x=V.int c)→∃ ns:List Int,L=ns.map V.int
 | [],_=>⟨[],rfl⟩
 | x::L,h=>by
  obtain⟨c,e⟩:=h x (List.mem_cons_self ..)
  obtain⟨ns,z⟩:=r8 (L:=L) fun y hy=>h y (List.mem_cons_of_mem _ hy)
  exact⟨c::ns,by rw [e,z];rfl⟩
theorem uX {ns:List Int} {lo hi:Option Int}:∃ ns':List Int,jU (ns.map V.int) lo hi=ns'.map V.int∧ns'.length≤ns.length:=by
 obtain⟨ns',e⟩:=r8 (L:=jU (ns.map V.int) lo hi) fun x hx=>by
  unfold jU at hx
  obtain⟨c,_,e⟩:=List.mem_map.mp (List.mem_of_mem_drop (List.mem_of_mem_take hx))
  exact⟨c,e.symm⟩
 refine⟨ns',e,?_⟩
 have:=i8 (ns.map V.int) lo hi
 rw [e,List.length_map,List.length_map] at this
 exact this
def xu (K:PySem.W.Frag):Sp:=fun vs H Q _=>∃(a:Addr) (ns:List Int),vs=[.ref a]∧aX K H a (ns.map V.int)∧ns.length≤63∧∀ p H',aB H H'→H p=none→Tp p 0 H'→Q (.ref p) H'
theorem ir:ay [("_law_script":Str)] [("_law_script":Str)] (ak (top 73)):=⟨rfl,rfl,rfl,by decide +kernel,rfl,by decide +kernel,by decide +kernel⟩
theorem yR (D:av K mg "_law_tape" (top 73)):Callee P w K mg base aK 1 "_law_tape" [("_law_script":Str)] (xu K):=by
 refine aw D (fun _ _ _ _ _ _ us hl=>match us,hl with | [_],_=>rfl) ir (fun vs H Q E h=>by obtain⟨a,b,rfl,_⟩:=h;rfl) (fun f cdv A outer s H vs Q E hr h=>?_)
 obtain⟨a,ns,rfl,hS,h63,q⟩:=h
 have nd:=ir.nd
 refine⟨_,(aj (aC (yZ (kG b8 (kx nr (pv 0) m7 (ic ah)) (kG b8 ah (kG b8 ah zi))) rfl rfl (by intro z;cases z) (by decide)))),?_⟩
 show eY _ _ [some (.ref a)] H
 k_data
 intro p hp
 have s1:=ao (o:=.dK []) hp
 refine⟨a,_,rfl,hS.same s1,fun pl hpl=>⟨?_,[(Sum.inr "cells",.ref pl),(Sum.inr "spot",.int 0),(Sum.inr "left",.int 0)],rfl,by show 3≤15;decide,?_⟩⟩
 ·rw [aq (bf ag hpl),ag]
 ·obtain⟨ns',e1,e2⟩:=uX (ns:=ns) (lo:=none) (hi:=some 63)
  have nep:pl≠p:=fun z=>by rw [z,ag] at hpl;cases hpl
  rw [e1]
  exact q p _ ((s1.trans (ao hpl)).upd hp) hp ⟨pl,0,0,ns',ag,by rw [aq nep,ag],by omega,by decide,by decide⟩
section
variable {H:Hp} {p l:Addr} {i j i' j':Int}
theorem nN (h:H p=some (sZ l i j)):eC H p (.str "left") (some (.int j)):=eC.k (k:=Sum.inr "left") h
theorem zA (h:H p=some (sZ l i j)):eC H p (.str "spot") (some (.int i)):=eC.k (k:=Sum.inr "spot") h
theorem xU (h:H p=some (sZ l i j)):eC H p (.str "cells") (some (.ref l)):=eC.k (k:=Sum.inr "cells") h
theorem qf (h:H p=some (sZ l i j)):kX H p (.str "left") (.int j') (upd H p (sZ l i j')):=.inl ⟨_,Sum.inr "left",h,rfl,by show 3<sizeLine;decide,rfl⟩
theorem xV (h:H p=some (sZ l i j)):kX H p (.str "spot") (.int i') (upd H p (sZ l i' j)):=.inl ⟨_,Sum.inr "spot",h,rfl,by show 3<sizeLine;decide,rfl⟩
end
def iZ:Sp:=fun vs H Q _=>∃(p:Addr) (m:Int) (n:Nat),vs=[.ref p,.int m]∧Tp p n H∧n≤10^60∧0<m∧m<10^200∧∀ r H',0≤r→r<m→Off p H H'→Tp p (n+1) H'→Q (.int r) H'
theorem ip:ay [("_law_tape_here":Str),("_law_many":Str),("_law_found":Str),("_law_spot":Str),("_law_cells":Str),("_law_cell":Str),("_law_seed":Str)] [("_law_tape_here":Str),("_law_many":Str)] (ak (top 74)):=⟨rfl,rfl,rfl,by decide +kernel,rfl,by decide +kernel,by decide +kernel⟩
theorem yI (D:av K mg "_law_draw" (top 74)) (n_len:mg "len"=none):Callee P w K mg base aK 1 "_law_draw" [("_law_tape_here":Str),("_law_many":Str)] iZ:=by
 refine aw D (fun _ _ _ _ _ _ us hl=>match us,hl with | [_,_],_=>rfl) ip (fun vs H Q E h=>by obtain⟨a,b,c,rfl,_⟩:=h;rfl) (fun f cdv A outer s H vs Q E hr h=>?_)
 obtain⟨p,m,n,rfl,⟨l,i,j,ns,hp,hl,h63,i0,i1⟩,hn,m0,m1,q⟩:=h
 have nd:=ip.nd
 refine⟨_,(ae (aY (aD cR (gj (dD hr) (pv 0) b8 (fun _ _=>rfl)) ah (aE _)) (ae (ar (i:=2) nd rfl (Or.inl rfl) (au aI (gj (dD hr) (pv 0) b8 (fun _ _=>rfl)) (pv 1))) (ae (ig (dD hr) (pv 0) b8 (au bA (gj (dD hr) (pv 0) b8 (fun _ _=>rfl)) (pv 1)) rfl) (aj (aC (pv 2))))) aH) (ae (ar (i:=3) nd rfl (Or.inl rfl) (gj (dD hr) (pv 0) b8 (fun _ _=>rfl))) (ae (ig (dD hr) (pv 0) b8 (au bB (pv 3) ah) rfl) (ae (ar (i:=4) nd rfl (Or.inl rfl) (gj (dD hr) (pv 0) b8 (fun _ _=>rfl))) (ae (ar (i:=5) nd rfl (Or.inl rfl) ah) (ae (eA (aY (aD cR (aG bN rfl n_len PySem.boot_len (aa (pv 4) af)) ah (aE _)) (aj (ar (i:=5) nd rfl (Or.inl rfl) (aL gi (pv 4) (au aI (pv 3) (aG bN rfl n_len PySem.boot_len (aa (pv 4) af))) (fun _ _=>rfl)))) aH)) (ae (aY (PW.pt (fm (aD cR (pv 5) ah (aE _)) (fm (aD bO (au aI (pv 5) ah) ah (aE _)) (fu (aD dR (pv 3) (aG bN rfl n_len PySem.boot_len (aa (pv 4) af)) (aE _)))))) (ae (ig (dD hr) (pv 0) b8 (au bA (au bA (pv 5) ah) (pv 1)) rfl) (aj (aC (au aI (au bA (pv 5) ah) (pv 1))))) aH) (ae (ar (i:=6) nd rfl (Or.inl rfl) (au aI (au aO (au bB (au bB (au bB (au aI (pv 5) ah) (au aO (au aO ah (pv 3)) (pv 3))) (au aO ah (pv 3))) ah) ah) ah)) (aj (aC (au aI (au bA (au aI (au aO (pv 6) (au bB (pv 6) ah)) ah) ah) (pv 1)))))))))))),?_⟩
 show br _ _ _ [some (.ref p),some (.int m),none,none,none,none,none] H
 k_data
 have lp:l≠p:=eO hl hp (by intro z;cases z)
 have mb:Bd m:=Bd.of (by omega) (by omega)
 have em:=fun x:Int=>Int.emod_nonneg x (show m≠0 by omega)
 have el:=fun x:Int=>Int.emod_lt_of_pos x m0
 refine⟨_,nN hp,j,rfl,aP (fun c=>?_) (fun c=>?_)⟩
 ·exact⟨_,nN hp,j,rfl,m0,_,nN hp,j,rfl,m0,mb,_,qf hp,q _ _ (em _) (el _) Off.BN ⟨l,i,_,ns,ag,by rw [aq lp];exact hl,h63,i0,by omega⟩⟩
 ·refine⟨_,zA hp,i,rfl,_,xV hp,_,xU ag,?_⟩
  have hp1:upd H p (sZ l (i+1) j) p=some (sZ l (i+1) j):=ag
  have hl1:upd H p (sZ l (i+1) j) l=some (.lst (ns.map V.int)):=by rw [aq lp];exact hl
  have of1:Off p H (upd H p (sZ l (i+1) j)):=Off.BN
  generalize upd H p (sZ l (i+1) j)=H1 at *
  refine⟨fun σ' H'=>H'=H1∧∃ c,σ'=[some (.ref p),some (.int m),none,some (.int i),some (.ref l),some (.int c),none],?_,?_⟩
  ·k_data
   refine dQ (aX.of hl1) ⟨_,rfl,?_⟩
   rw [List.length_map]
   refine aP (fun c1=>?_) (fun c1=>rfl)
   refine dQ (aX.of hl1) ?_
   rw [List.length_map]
   have r0:=Int.emod_nonneg i (show (ns.length:Int)≠0 by omega)
   have r1:=Int.emod_lt_of_pos i c1
   refine⟨_,rfl,c1,mK (aX.of hl1) r0 (by rw [List.length_map];exact r1) fun v hv=>?_⟩
   obtain⟨x,_,rfl⟩:=List.mem_map.mp hv
   exact⟨rfl,x,rfl⟩
  ·rintro σ' H' ⟨rfl,c',rfl⟩
   k_data
   have ib:i≤10^60:=by omega
   have ii:7919*i*i≤7919*i*10^60:=Int.mul_le_mul_of_nonneg_left ib (by omega)
   have i2:0≤7919*i*i:=Int.mul_nonneg (by omega) i0
   have c0:=Int.emod_nonneg c' (show (2147483629:Int)≠0 by decide)
   have c1:=Int.emod_lt_of_pos c' (show (0:Int)<2147483629 by decide)
   have sd:∀ z:Int,0≤z%2147483647∧z%2147483647<2147483647:=fun z=>⟨Int.emod_nonneg z (by decide),Int.emod_lt_of_pos z (by decide)⟩
   have T1:Tp p (n+1) H':=⟨l,i+1,j,ns,hp1,hl1,h63,by omega,by omega⟩
   have fin:Bd 7919∧Bd i∧Bd (7919*i)∧Bd i∧Bd 48271∧Bd i∧Bd (c'%2147483629+7919*i*i+48271*i+1)∧Bd 69621∧Bd ((c'%2147483629+7919*i*i+48271*i+1)*69621%2147483647)∧Bd ((c'%2147483629+7919*i*i+48271*i+1)*69621%2147483647+16807)∧Bd 64∧0<m:=by
    have s1:=sd ((c'%2147483629+7919*i*i+48271*i+1)*69621)
    exact⟨yj (by decide),Bd.of (by omega) (by omega),Bd.of (by omega) (by omega),Bd.of (by omega) (by omega),yj (by decide),Bd.of (by omega) (by omega),Bd.of (by omega) (by omega),yj (by decide),Bd.of (by omega) (by omega),Bd.of (by omega) (by omega),yj (by decide),m0⟩
   obtain⟨f1,f2,f3,f4,f5,f6,f7,f8,f9,f10,f11,f12⟩:=fin
   have fq:∀ x,Q (V.int (x%m)) H':=fun x=>q _ _ (em _) (el _) of1 T1
   refine aP (fun c2=>aP (fun c3=>?_) (fun c3=>⟨f1,f2,f3,f4,f5,f6,f7,f8,f9,f10,f11,f12,fq _⟩)) (fun c2=>⟨f1,f2,f3,f4,f5,f6,f7,f8,f9,f10,f11,f12,fq _⟩)
   refine dQ (aX.of hl1) ⟨_,rfl,aP (fun c4=>⟨yj (by decide),m0,mb,_,qf hp1,yj (by decide),m0,?_⟩) (fun c4=>⟨f1,f2,f3,f4,f5,f6,f7,f8,f9,f10,f11,f12,fq _⟩)⟩
   exact q _ _ (em _) (el _) (of1.trans Off.BN) ⟨l,i+1,_,ns,ag,by rw [aq lp];exact hl1,h63,by omega,by omega⟩
end
end K
namespace K
open PySem PySem.Spec PyProof.Rows L2
section
variable {P:Program} {w:World} {K:PySem.W.Frag} {mg:Str→Option Value} {base:Heap}
def i7 (a:Int):Prop := -(10^240)≤a∧a≤10^240
theorem i7.bd {a:Int} (h:i7 a):Bd a:=Bd.of (by have:=h.1;omega) (by have:=h.2;omega)
def gu:Sp:=fun vs H Q _=>∃ a b:Int,vs=[.int a,.int b]∧i7 a∧i7 b∧∀ g u v p H',Gcd.BZ a b g u v→aB H H'→H' p=some (.tup [.int g,.int u,.int v])→Q (.ref p) H'
theorem kM:ay [("a":Str),("b":Str),("g":Str),("u":Str),("v":Str),("next_g":Str),("next_u":Str),("next_v":Str),("times":Str)] [("a":Str),("b":Str)] (ak (top 9)):=⟨rfl,rfl,rfl,by decide +kernel,rfl,by decide +kernel,by decide +kernel⟩
structure DS where
 (g u v ng nu nv:Int)
 t:Option V
theorem qO (D:av K mg "divisor" (top 9)) (n_abs:mg "abs"=none):Callee P w K mg base aK 1 "divisor" [("a":Str),("b":Str)] gu:=by
 refine aw D (fun _ _ _ _ _ _ us hl=>match us,hl with | [_,_],_=>rfl) kM (fun vs H Q E h=>by obtain⟨a,b,rfl,_⟩:=h;rfl) (fun f cdv A outer s H vs Q E hr h=>?_)
 obtain⟨a,b,rfl,ha,hb,q⟩:=h
 have nd:=kM.nd
 refine⟨_,(ae (su (i:=2) (j:=3) (k:=4) rfl nd rfl rfl rfl (by decide) (by decide) (by decide) rfl rfl rfl (aa (aG jS rfl n_abs L2.boot_abs (aa (pv 0) af)) (aa ah (aa ah af))) rfl) (ae (su (i:=5) (j:=6) (k:=7) rfl nd rfl rfl rfl (by decide) (by decide) (by decide) rfl rfl rfl (aa (aG jS rfl n_abs L2.boot_abs (aa (pv 1) af)) (aa ah (aa ah af))) rfl) (ae (aV PassesOwn.never (aD cR (pv 5) ah (aE _)) (ae (ar (i:=8) nd rfl (Or.inl rfl) (au bA (pv 2) (pv 5))) (ae (ri (i:=2) (j:=5) rfl nd rfl rfl (by decide) rfl rfl (aa (pv 5) (aa (au cq (pv 2) (au aO (pv 8) (pv 5))) af)) rfl) (ae (ri (i:=3) (j:=6) rfl nd rfl rfl (by decide) rfl rfl (aa (pv 6) (aa (au cq (pv 3) (au aO (pv 8) (pv 6))) af)) rfl) (aj (ri (i:=4) (j:=7) rfl nd rfl rfl (by decide) rfl rfl (aa (pv 7) (aa (au cq (pv 4) (au aO (pv 8) (pv 7))) af)) rfl)))))) (aj (aC (aN (aa (pv 2) (aa (fN (aD dR (pv 0) ah (aE _)) (kz gX (pv 3)) (pv 3)) (aa (fN (aD dR (pv 1) ah (aE _)) (kz gX (pv 4)) (pv 4)) af))))))))),?_⟩
 show br _ _ _ [some (.int a),some (.int b),none,none,none,none,none,none,none] H
 k_data
 have hA:0≤(if a<0 then -a else a)∧(if a<0 then -a else a)≤10^240:=by have:=ha.1;have:=ha.2;split<;>omega
 have hB:0≤(if b<0 then -b else b)∧(if b<0 then -b else b)≤10^240:=by have:=hb.1;have:=hb.2;split<;>omega
 refine aW (α:=DS) (fun x=>[some (.int a),some (.int b),some (.int x.g),some (.int x.u),some (.int x.v),some (.int x.ng),some (.int x.nu),some (.int x.nv),x.t])
  (fun x H'=>H'=H∧Gcd.J (if a<0 then -a else a) (if b<0 then -b else b) x.g x.u x.v x.ng x.nu x.nv∧x.g≤10^240∧x.ng≤10^240) (fun x=>x.ng.toNat)
  ⟨_,1,0,_,0,1,none⟩ rfl ⟨rfl,Gcd.J.start hA.1 hB.1,hA.2,hB.2⟩ ?_
 rintro x H1 ⟨rfl,j,hg,hng⟩
 k_data
 refine aP (fun c=>?_) (fun c=>?_)
 ·refine⟨_,fun _ _ z=>z,?_⟩
  obtain⟨s1,s2,s3,s4⟩:=j.small hA.1 hB.1 hA.2 hB.2 (by omega)
  obtain⟨j',l,q0,ql⟩:=j.turn c
  have bg:i7 x.ng:=⟨by omega,hng⟩
  have bq:i7 (x.g/x.ng):=⟨by omega,by omega⟩
  refine⟨c,bg.bd,bq.bd,bg.bd,bq.bd,i7.bd s3,bq.bd,i7.bd s4,⟨x.ng,x.nu,x.nv,x.g-x.g/x.ng*x.ng,x.u-x.g/x.ng*x.nu,x.v-x.g/x.ng*x.nv,some (.int (x.g/x.ng))⟩,rfl,rfl,j',hng,by show (x.g-x.g/x.ng*x.ng)≤_;omega,by show (x.g-x.g/x.ng*x.ng).toNat<x.ng.toNat;omega⟩
 ·have e:x.ng=0:=by have:=j.n0;omega
  rw [e] at j
  have z:=j.done
  refine aP (fun ca=>?_) (fun ca=>?_)<;>simp only [ca,if_true,if_false] at z ⊢<;>refine aP (fun cb=>?_) (fun cb=>?_)<;>simp only [cb,if_true,if_false] at z ⊢ <;>
   exact⟨by show 3≤sizeLine;decide,fun p hp=>q _ _ _ p _ z (ao hp) ag⟩
end
end K
namespace K
open PySem PySem.Spec PyProof.Rows L2
structure Gd (n a g:Int):Prop where
 pos:0<g
 dn:g∣n
 da:g∣a
 gr:∀ d:Int,d∣n→d∣a→d∣g
theorem Gd.one {n a g g':Int} (h:Gd n a g) (h':Gd n a g'):g=g' :=
 Int.le_antisymm (Int.le_of_dvd h'.pos (h'.gr g h.dn h.da)) (Int.le_of_dvd h.pos (h.gr g' h'.dn h'.da))
theorem oF {n a g:Int} (dn:g∣n):g∣a%n↔g∣a:=by
 have e:=Int.mul_ediv_add_emod a n
 constructor
 ·intro h
  rw [← e]
  exact Int.dvd_add (Int.dvd_mul_of_dvd_left dn) h
 ·intro h
  have:a%n=a-n*(a/n):=by omega
  rw [this]
  exact Int.dvd_sub h (Int.dvd_mul_of_dvd_left dn)
theorem Gd.of {n a g u v:Int} (hn:0<n) (z:Gcd.BZ (a%n) n g u v):Gd n a g:=by
 refine⟨?_,z.db,(oF z.db).mp z.da,fun d h1 h2=>?_⟩
 ·have:=z.g0
  rcases (by omega:g=0∨0<g) with e | e
  ·have:=z.db
   rw [e] at this
   have:=Int.zero_dvd.mp this
   omega
  ·exact e
 ·rw [← z.lin]
  exact Int.dvd_add (Int.dvd_mul_of_dvd_right ((oF h1).mpr h2)) (Int.dvd_mul_of_dvd_right h1)
theorem AI {n a u v:Int} (hn:0<n) (z:Gcd.BZ (a%n) n 1 u v):n∣u%n*a-1:=by
 have e:=z.lin
 have e1:=Int.mul_ediv_add_emod a n
 have e2:=Int.mul_ediv_add_emod u n
 refine⟨u*(a/n)-v-u/n*a,?_⟩
 generalize a%n=x at *
 generalize u%n=y at *
 generalize a/n=s at *
 generalize u/n=t at *
 grind
section
variable {P:Program} {w:World} {K:PySem.W.Frag} {mg:Str→Option Value} {base:Heap}
def gv (C:Addr):Sp:=fun vs H Q E=>∃ n a:Int,vs=[.int n,.int a]∧0<n∧n≤10^240∧∀ g,Gd n a g →
 (g=1→∀ r H',0≤r→r<n→n∣r*a-1→aB H H'→Q (.int r) H') ∧
 (1<g→∀ x dx H',aB H H'→H x=none→H' x=some (XO x C (some dx))→H' dx=some (.xd [("divisor",.int g)])→E (.ref C) (some x) H')
theorem kN:ay [("n":Str),("a":Str),("g":Str),("u":Str),("v":Str)] [("n":Str),("a":Str)] (ak (top 10)):=⟨rfl,rfl,rfl,by decide +kernel,rfl,by decide +kernel,by decide +kernel⟩
theorem qP {C:Addr} (D:av K mg "inverse" (top 10)) (c_divisor:Callee P w K mg base aK 1 "divisor" ["a","b"] gu) (x_NoInverse:nR P w K mg base "NoInverse" C "divisor"):Callee P w K mg base (dJ P w) 3 "inverse" [("n":Str),("a":Str)] (gv C):=by
 refine cj D (fun _ _ _ _ _ _ us hl=>match us,hl with | [_,_],_=>rfl) kN (fun vs H Q E h=>by obtain⟨a,b,rfl,_⟩:=h;rfl) (fun f cdv A outer s H vs Q E hr h=>?_)
 obtain⟨n,a,rfl,hn,hn1,q⟩:=h
 have nd:=kN.nd
 refine⟨_,(ae (cK (ai c_divisor (hr.mono (by decide)) rfl aF (aa (au aI (pv 1) (pv 0)) (aa (pv 0) af))) (bQ (n:=3) rfl (aA (ax (i:=2) nd rfl (Or.inl rfl) (.inr rfl)) (aA (ax (i:=3) nd rfl (Or.inl rfl) (.inr rfl)) (aA (ax (i:=4) nd rfl (Or.inl rfl) (.inr rfl)) aT))))) (ae (aY (aD cR (pv 2) ah (aE _)) (aj (cT (kA x_NoInverse (hr.mono (by decide)) rfl (aa (pv 2) af)))) aH) (iL.lR (aj (aC (au aI (pv 3) (pv 0))))))),?_⟩
 show br _ _ _ [some (.int n),some (.int a),none,none,none] H
 k_data
 have r0:=Int.emod_nonneg a (show n≠0 by omega)
 have r1:=Int.emod_lt_of_pos a hn
 refine⟨hn,a%n,n,rfl,⟨by omega,by omega⟩,⟨by omega,by omega⟩,fun g u v p H1 z hs hh=>?_⟩
 have G:=Gd.of hn z
 obtain⟨q1,q2⟩:=q g G
 refine⟨p,_,rfl,bC.of hh,rfl,?_⟩
 k_data
 refine aP (fun c=>?_) (fun c=>?_)
 ·intro x dx hx hdx ne
  have ne':dx≠x:=ne
  refine⟨C,some dx,ag,x_NoInverse.cls,?_,?_⟩
  ·cases e:H x with
   | none=>rfl
   | some o=>rw [hs _ _ e] at hx;cases hx
  ·refine q2 c x dx _ ?_ ?_ ag ?_
   ·intro b o e
    have e1:=hs _ _ e
    have bx:b≠x:=fun y=>by rw [y,hx] at e1;cases e1
    have bd:b≠dx:=fun y=>by rw [y,hdx] at e1;cases e1
    rw [aq bx,aq bx,aq bd,aq bx]
    exact e1
   ·cases e:H x with
    | none=>rfl
    | some o=>rw [hs _ _ e] at hx;cases hx
   ·rw [aq ne',aq ne',ag]
 ·have g1:g=1:=by have:=G.pos;omega
  subst g1
  exact⟨hn,q1 rfl _ _ (Int.emod_nonneg _ (by omega)) (Int.emod_lt_of_pos _ hn) (AI hn z) hs⟩
end
end K
namespace K
open PySem PySem.Spec PyProof.Rows L2
section
variable {P:Program} {w:World} {K:PySem.W.Frag} {mg:Str→Option Value} {base:Heap}
def c6 (C:Addr):Sp:=fun vs H Q E=>∃ n a e:Int,vs=[.int n,.int a,.int e]∧0<n∧n≤10^120 ∧
 (0≤e→∀ H',aB H H'→Q (.int (a^e.toNat%n)) H') ∧
 (e<0→∀ g,Gd n a g →
  (g=1→∀ b H',0≤b→b<n→n∣b*a-1→aB H H'→Q (.int (b^(-e).toNat%n)) H') ∧
  (1<g→∀ x dx H',aB H H'→H x=none→H' x=some (XO x C (some dx))→H' dx=some (.xd [("divisor",.int g)])→E (.ref C) (some x) H'))
theorem pT:ay [("n":Str),("a":Str),("e":Str),("base":Str),("left":Str),("rest":Str)] [("n":Str),("a":Str),("e":Str)] (ak (top 20)):=⟨rfl,rfl,rfl,by decide +kernel,rfl,by decide +kernel,by decide +kernel⟩
theorem we {C:Addr} (D:av K mg "power" (top 20)) (c_inverse:Callee P w K mg base (dJ P w) 3 "inverse" ["n","a"] (gv C)) (n_abs:mg "abs"=none):Callee P w K mg base (dJ P w) 4 "power" [("n":Str),("a":Str),("e":Str)] (c6 C):=by
 refine cj D (fun _ _ _ _ _ _ us hl=>match us,hl with | [_,_,_],_=>rfl) pT (fun vs H Q E h=>by obtain⟨a,b,c,rfl,_⟩:=h;rfl) (fun f cdv A outer s H vs Q E hr h=>?_)
 obtain⟨n,a,e,rfl,hn,hn1,q1,q2⟩:=h
 have nd:=pT.nd
 refine⟨_,(ae (ar (i:=3) nd rfl (Or.inl rfl) (au aI (pv 1) (pv 0))) (ae (eA (aY (aD dR (pv 2) ah (aE _)) (aj (ar (i:=3) nd rfl (Or.inl rfl) (ai c_inverse (hr.mono (by decide)) rfl km (aa (pv 0) (aa (pv 1) af))))) aH)) (iL.lR (ae (ar (i:=4) nd rfl (Or.inl rfl) (aG jS rfl n_abs L2.boot_abs (aa (pv 2) af))) (ae (ar (i:=5) nd rfl (Or.inl rfl) (au aI ah (pv 0))) (ae (aV PassesOwn.never (aD cR (pv 4) ah (aE _)) (ae (eA (aY (aD bO (au aI (pv 4) ah) ah (aE _)) (aj (ar (i:=5) nd rfl (Or.inl rfl) (au aI (au aO (pv 5) (pv 3)) (pv 0)))) aH)) (ae (ar (i:=3) nd rfl (Or.inl rfl) (au aI (au aO (pv 3) (pv 3)) (pv 0))) (aj (cL (i:=4) nd rfl (Or.inl rfl) ah (dF eG)))))) (aj (aC (pv 5))))))))),?_⟩
 show br _ _ _ [some (.int n),some (.int a),some (.int e),none,none,none] H
 k_data
 refine⟨hn,fun σ' H'=>aB H H'∧∃ b:Int,σ'=[some (.int n),some (.int a),some (.int e),some (.int b),none,none]∧0≤b∧b<n∧Q (.int (b^e.natAbs%n)) H',?_,?_⟩
 ·k_data
  refine aP (fun c=>?_) (fun c=>?_)
  ·refine⟨n,a,rfl,hn,by omega,fun g G=>⟨fun e1 r H' r0 r1 r2 hs=>?_,fun g1 x dx H' hs hx hX hd=>?_⟩⟩
   ·have:=(q2 c g G).1 e1 r H' r0 r1 r2 hs
    rw [show (-e).toNat=e.natAbs by omega] at this
    exact⟨hs,r,rfl,r0,r1,this⟩
   ·exact (q2 c g G).2 g1 x dx H' hs hx hX hd
  ·have:=q1 (by omega) H (aB.refl _)
   rw [show e.toNat=e.natAbs by omega,← Pw.kF] at this
   exact⟨aB.refl _,Int.emod_nonneg _ (by omega),Int.emod_lt_of_pos _ hn,this⟩
 ·rintro σ' H' ⟨hs,b,rfl,hb0,hb1,q⟩
  k_data
  refine⟨hn,?_⟩
  have ee:(if e<0 then -e else e)=(e.natAbs:Int):=by split<;>omega
  rw [ee]
  refine aW (α:=Int × Nat × Int) (fun x=>[some (.int n),some (.int a),some (.int e),some (.int x.1),some (.int x.2.1),some (.int x.2.2)]) (fun x H1=>H1=H'∧0≤x.1∧x.1<n∧0≤x.2.2∧x.2.2<n∧x.2.2*x.1^x.2.1%n=b^e.natAbs%n) (fun x=>x.2.1) (b,e.natAbs,1%n) rfl ⟨rfl,hb0,hb1,Int.emod_nonneg _ (by omega),Int.emod_lt_of_pos _ hn,?_⟩ ?_
  ·show 1%n*b^e.natAbs%n=_
   rw [Pw.vN,Int.one_mul]
  rintro⟨b',l,r⟩ H1 ⟨rfl,h1,h2,h3,h4,h5⟩
  replace h1:0≤b':=h1
  replace h2:b'<n:=h2
  replace h3:0≤r:=h3
  replace h4:r<n:=h4
  replace h5:r*b'^l%n=b^e.natAbs%n:=h5
  k_data
  refine aP (fun c=>?_) (fun c=>?_)
  ·refine⟨_,fun _ _ z=>z,fun σ' H2=>H2=H1∧σ'=[some (.int n),some (.int a),some (.int e),some (.int b'),some (.int l),some (.int (if l%2=1 then r*b'%n else r))],?_,?_⟩
   ·k_data
    refine aP (fun c=>?_) (fun c=>?_)
    ·exact⟨Bd.of (by omega) (by omega),Bd.of (by omega) (by omega),hn,by rw [if_pos (by omega)]⟩
    ·rw [if_neg (by omega)]
   rintro σ' H2 ⟨rfl,rfl⟩
   k_data
   have r0:0≤(if l%2=1 then r*b'%n else r)∧(if l%2=1 then r*b'%n else r)<n:=by
    split
    ·exact⟨Int.emod_nonneg _ (by omega),Int.emod_lt_of_pos _ hn⟩
    ·exact⟨h3,h4⟩
   refine⟨Bd.of (by omega) (by omega),Bd.of (by omega) (by omega),hn,yj (by decide),(b'*b'%n,l/2,if l%2=1 then r*b'%n else r),rfl,(by show (l:Int)/2=((l/2:Nat):Int);omega),rfl,Int.emod_nonneg _ (by omega),Int.emod_lt_of_pos _ hn,r0.1,r0.2,?_,?_⟩
   ·show (if l%2=1 then r*b'%n else r)*(b'*b'%n)^(l/2)%n=_
    rw [Pw.step]
    exact h5
   ·show l/2<l
    omega
  ·have l0:l=0:=by omega
   subst l0
   rw [Int.pow_zero,Int.mul_one] at h5
   have h6:r%n=r:=Int.emod_eq_of_lt h3 h4
   rw [← h5,h6] at q
   exact q
end
end K
namespace K
open PySem PySem.Spec PyProof.Rows L2
section
variable {P:Program} {w:World} {K:PySem.W.Frag} {mg:Str→Option Value} {base:Heap}
def rA:Sp:=fun vs H Q _=>∃ n k:Int,vs=[.int n,.int k]∧2≤n∧n≤10^120∧k≤10^120∧Ld.Inv n k∧∀ r,Ld.fB n r→Q (.int r) H
theorem cX:ay [("n":Str),("start":Str),("number":Str)] [("n":Str),("start":Str)] (ak (top 40)):=⟨rfl,rfl,rfl,by decide +kernel,rfl,by decide +kernel,by decide +kernel⟩
theorem yK (D:av K mg "least_divisor_from" (top 40)):Callee P w K mg base aK 1 "least_divisor_from" [("n":Str),("start":Str)] rA:=by
 refine aw D (fun _ _ _ _ _ _ us hl=>match us,hl with | [_,_],_=>rfl) cX (fun vs H Q E h=>by obtain⟨a,b,rfl,_⟩:=h;rfl) (fun f cdv A outer s H vs Q E hr h=>?_)
 obtain⟨n,k,rfl,hn,hn1,hk1,hk,q⟩:=h
 have nd:=cX.nd
 refine⟨_,(ae (ar (i:=2) nd rfl (Or.inl rfl) (pv 1)) (ae (aV PassesOwn.never (aD pA (au aO (pv 2) (pv 2)) (pv 0) (aE _)) (ae (aY (aD bO (au aI (pv 0) (pv 2)) ah (aE _)) (aj (aC (pv 2))) aH) (aj (cL (i:=2) nd rfl (Or.inl rfl) (fN (aD bO (pv 2) ah (aE _)) ah ah) (dF gg))))) (aj (aC (pv 0))))),?_⟩
 show br _ _ _ [some (.int n),some (.int k),none] H
 k_data
 refine aW (α:=Int) (fun x=>[some (.int n),some (.int k),some (.int x)]) (fun x H1=>H1=H∧Ld.Inv n x∧x≤10^120+2) (fun x=>(n+2-x).toNat) k rfl ⟨rfl,hk,by omega⟩ ?_
 rintro x H1 ⟨rfl,hx,hx1⟩
 have x2:=hx.two
 k_data
 refine⟨Bd.of (by omega) (by omega),Bd.of (by omega) (by omega),?_⟩
 refine aP (fun c=>?_) (fun c=>?_)
 ·have xn:x≤n:=by
   have:=Int.mul_le_mul_of_nonneg_left (show 1≤x by omega) (show 0≤x by omega)
   omega
  have st:=fun z=>hx.step (k:=x) z
  refine⟨fun σ' H'=>H'=H1∧∃ y,y=(x+if x=2 then 1 else 2)∧¬x∣n∧σ'=[some (V.int n),some (V.int k),some (V.int y)],?_,by omega,?_⟩
  ·rintro σ' H' ⟨rfl,y,hy,nd',rfl⟩
   refine⟨y,rfl,rfl,by rw [hy];exact st nd',?_,?_⟩
   ·split at hy<;>omega
   ·split at hy<;>omega
  refine aP (fun c2=>?_) (fun c2=>?_)
  ·exact q x (hx.found (Int.dvd_of_emod_eq_zero c2))
  have nd':¬x∣n:=fun z=>c2 (Int.emod_eq_zero_of_dvd z)
  refine aP (fun c3=>?_) (fun c3=>?_)
  ·exact⟨rfl,_,by rw [if_pos c3],nd',rfl⟩
  ·exact⟨rfl,_,by rw [if_neg c3],nd',rfl⟩
 ·exact q n (hx.done hn (by omega))
def nG (c1 c2:Addr):Sp:=fun vs H Q E=>∃ n:Int,vs=[.int n]∧(n<2→zF c1 H E)∧(10^9<n→x5 c2 "part" (.int n) H E)∧(2≤n→n≤10^9→∀ r,Ld.fB n r→Q (.int r) H)
theorem eU:ay [("n":Str)] [("n":Str)] (ak (top 39)):=⟨rfl,rfl,rfl,by decide +kernel,rfl,by decide +kernel,by decide +kernel⟩
theorem v8 {c1 c2:Addr} (D:av K mg "least_divisor" (top 39)) (c_least_divisor_from:Callee P w K mg base aK 1 "least_divisor_from" ["n","start"] rA) (x_NoNumber:tw K mg "NoNumber" c1) (x_TooFar:nR P w K mg base "TooFar" c2 "part")
  (g_GREATEST:∃ t,mg "GREATEST"=some (.int 1000000000 t)):Callee P w K mg base (dJ P w) 3 "least_divisor" [("n":Str)] (nG c1 c2):=by
 refine cj D (fun _ _ _ _ _ _ us hl=>match us,hl with | [_],_=>rfl) eU (fun vs H Q E h=>by obtain⟨a,rfl,_⟩:=h;rfl) (fun f cdv A outer s H vs Q E hr h=>?_)
 obtain⟨n,rfl,q1,q2,q3⟩:=h
 obtain⟨tk,g_GREATEST⟩:=g_GREATEST
 have nd:=eU.nd
 refine⟨_,(ae (aY (aD dR (pv 0) ah (aE _)) (aj (cT (mY x_NoNumber rfl))) aH) (ae (aY (aD cR (pv 0) (mX (v:=.int 1000000000) rfl g_GREATEST ⟨_,rfl⟩) (aE _)) (aj (cT (kA x_TooFar (hr.mono (by decide)) rfl (aa (pv 0) af)))) aH) (iL.lR (aj (aC (ai c_least_divisor_from (hr.mono (by decide)) rfl aF (aa (pv 0) (aa ah af)))))))),?_⟩
 show br _ _ _ [some (.int n)] H
 k_data
 refine aP (fun c=>?_) (fun c=>?_)
 ·exact fun x hx=>gf x_NoNumber.cls (aB.refl _) hx (q1 c)
 refine aP (fun c'=>?_) (fun c'=>?_)
 ·exact fun x dx hx hdx ne=>iR x_TooFar.cls (aB.refl _) hx hdx ne (q2 (by omega))
 exact⟨n,2,rfl,by omega,by omega,by omega,⟨by omega,.inl rfl,fun d d0 d1=>by omega⟩,q3 (by omega) (by omega)⟩
end
end K
namespace K
open PySem PySem.Spec PyProof.Rows L2
section
variable {P:Program} {w:World} {K:PySem.W.Frag} {mg:Str→Option Value} {base:Heap}
def jI (p:Int × Int):PyData:=.tuple [.int p.1,.int p.2]
def kR (K:PySem.W.Frag) (c1 c2:Addr):Sp:=fun vs H Q E=>∃ n:Int,vs=[.int n]∧(n<1→zF c1 H E)∧(10^9<n→x5 c2 "part" (.int n) H E)∧(1≤n→n≤10^9→∀ ps us p H',Num.Part n ps→ps.length≤29→aB H H'→H p=none→H' p=some (.lst us)→aM K H' (ps.map jI) us→Q (.ref p) H')
theorem lY:ay [("n":Str),("parting":Str),("left":Str),("prime":Str),("many":Str)] [("n":Str)] (ak (top 41)):=⟨rfl,rfl,rfl,by decide +kernel,rfl,by decide +kernel,by decide +kernel⟩
theorem uh {c1 c2:Addr} (D:av K mg "parted" (top 41)) (c_least_divisor_from:Callee P w K mg base aK 1 "least_divisor_from" ["n","start"] rA) (x_NoNumber:tw K mg "NoNumber" c1) (x_TooFar:nR P w K mg base "TooFar" c2 "part")
  (g_GREATEST:∃ t,mg "GREATEST"=some (.int 1000000000 t)):Callee P w K mg base (dJ P w) 3 "parted" [("n":Str)] (kR K c1 c2):=by
 refine cj D (fun _ _ _ _ _ _ us hl=>match us,hl with | [_],_=>rfl) lY (fun vs H Q E h=>by obtain⟨a,rfl,_⟩:=h;rfl) (fun f cdv A outer s H vs Q E hr h=>?_)
 obtain⟨n,rfl,q1,q2,q3⟩:=h
 obtain⟨tk,g_GREATEST⟩:=g_GREATEST
 have nd:=lY.nd
 refine⟨_,(ae (aY (aD dR (pv 0) ah (aE _)) (aj (cT (mY x_NoNumber rfl))) aH) (ae (aY (aD cR (pv 0) (mX (v:=.int 1000000000) rfl g_GREATEST ⟨_,rfl⟩) (aE _)) (aj (cT (kA x_TooFar (hr.mono (by decide)) rfl (aa (pv 0) af)))) aH) (iL.lR (ae (ar (i:=1) nd rfl (Or.inl rfl) (dG af)) (ae (ar (i:=2) nd rfl (Or.inl rfl) (pv 0)) (ae (ar (i:=3) nd rfl (Or.inl rfl) ah) (ae (aV PassesOwn.never (aD cR (pv 2) ah (aE _)) (ae (ar (i:=3) nd rfl (Or.inl rfl) (ai c_least_divisor_from (hr.mono (by decide)) rfl aF (aa (pv 2) (aa (pv 3) af)))) (ae (ar (i:=4) nd rfl (Or.inl rfl) ah) (ae (aV PassesOwn.never (aD bO (au aI (pv 2) (pv 3)) ah (aE _)) (ae (cL (i:=2) nd rfl (Or.inl rfl) (pv 3) (dF eG)) (aj (cL (i:=4) nd rfl (Or.inl rfl) ah (dF gg))))) (aj (c5 (kq PySem.F.plainAttrs_list PySem.F.slot_list_append PySem.F.type_list_append eK (pv 1) (aa (aN (aa (pv 3) (aa (pv 4) af))) af)))))))) (aj (aC (pv 1)))))))))),?_⟩
 show br _ _ _ [some (.int n),none,none,none,none] H
 k_data
 refine aP (fun c=>?_) (fun c=>?_)
 ·exact fun x hx=>gf x_NoNumber.cls (aB.refl _) hx (q1 c)
 refine aP (fun c'=>?_) (fun c'=>?_)
 ·exact fun x dx hx hdx ne=>iR x_TooFar.cls (aB.refl _) hx hdx ne (q2 (by omega))
 refine⟨by decide,fun pp hpp=>?_⟩
 have n1:n≤10^9:=by omega
 refine aW (α:=Int × Int × Option V) (fun x=>[some (.int n),some (.ref pp),some (.int x.1),some (.int x.2.1),x.2.2]) (fun x H1=>aB H H1∧∃(ps:List (Int × Int)) (us:List V),H1 pp=some (.lst us)∧aM K H1 (ps.map jI) us∧Num.Way n ps x.1 x.2.1) (fun x=>x.1.toNat) (n,2,none) rfl ⟨ao hpp,[],[],ag,rfl,.start (by omega)⟩ ?_
 rintro⟨left,prime,o⟩ H1 ⟨hs,ps,us,epp,hd,W⟩
 replace W:Num.Way n ps left prime:=W
 have l1:=W.pos
 have ln:left≤n:=by
  have z:=W.two
  have p0:=Num.bh (show (0:Int)<2 by decide) ps.length
  have:=Int.mul_le_mul_of_nonneg_right (show (1:Int)≤2^ps.length by omega) (show 0≤left by omega)
  omega
 k_data
 refine aP (fun c3=>?_) (fun c3=>?_)
 ·have pl:prime≤10^120:=by
   rcases (by omega:prime≤left∨left<prime) with z | z
   ·omega
   ·exact absurd (Int.dvd_refl left) (W.inv.no left (by omega) z)
  refine⟨_,fun _ _ z=>z,left,prime,rfl,by omega,by omega,pl,W.inv,fun r hL=>?_⟩
  have r2:=hL.two
  have rl:=hL.le (by omega)
  refine aW (α:=Int × Nat) (fun x=>[some (.int n),some (.ref pp),some (.int x.1),some (.int r),some (.int (x.2:Int))]) (fun x H2=>H2=H1∧left=r^x.2*x.1∧1≤x.1∧x.1≤left) (fun x=>x.1.toNat) (left,0) rfl ⟨rfl,by rw [Int.pow_zero,Int.one_mul],by omega,Int.le_refl _⟩ ?_
  rintro⟨lf,k⟩ H2 ⟨rfl,e1,e2,e3⟩
  replace e1:left=r^k*lf:=e1
  replace e2:1≤lf:=e2
  replace e3:lf≤left:=e3
  k_data
  refine⟨by omega,?_⟩
  refine aP (fun c4=>?_) (fun c4=>?_)
  ·obtain⟨q,hq⟩:=Int.dvd_of_emod_eq_zero c4
   have ed:lf/r=q:=by rw [hq];exact Int.mul_ediv_cancel_left _ (by omega)
   have q1':1≤q:=by
    rcases (by omega:q≤0∨1≤q) with z | z
    ·have:=Int.mul_nonpos_of_nonneg_of_nonpos (show 0≤r by omega) z
     omega
    ·exact z
   have ql:q<lf:=by
    rw [hq]
    have:=Int.mul_le_mul_of_nonneg_right r2 (show 0≤q by omega)
    omega
   refine⟨_,fun _ _ z=>z,by omega,Bd.of (by omega) (by omega),(q,k+1),?_,rfl,?_,q1',?_,?_⟩
   ·rw [ed];rfl
   ·rw [e1,hq,Int.pow_succ,Int.mul_assoc]
   ·show q≤left
    omega
   ·show q.toNat<lf.toNat
    omega
  ·have ng:¬r∣lf:=fun z=>c4 (Int.emod_eq_zero_of_dvd z)
   have k1:1≤k:=by
    cases k with
    | zero=>rw [Int.pow_zero,Int.one_mul] at e1;exact absurd (e1▸hL.dv) ng
    | succ k=>omega
   have W2:=W.step n1 c3 hL e1 e2 k1 ng
   have len:=W.len n1
   have ul:us.length=ps.length:=by rw [hd.length,List.length_map]
   have lt:lf<left:=by
    obtain⟨k',rfl⟩:∃ k',k=k'+1:=⟨k-1,by omega⟩
    have p0:=Num.bh (show 0<r by omega) k'
    have h1:r≤r^(k'+1):=by
     rw [Int.pow_succ]
     have:=Int.mul_le_mul_of_nonneg_right (show 1≤r^k' by omega) (show 0≤r by omega)
     omega
    have:=Int.mul_le_mul_of_nonneg_right (show 2≤r^(k'+1) by omega) (show 0≤lf by omega)
    omega
   refine⟨.inl ⟨rfl,_,aX.of epp⟩,by show 2≤sizeLine;decide,fun pt hpt=>?_⟩
   have s2:=ao (o:=.tup [V.int r,V.int (k:Int)]) hpt
   have npt:pp≠pt:=fun z=>by rw [← z,epp] at hpt;cases hpt
   have el:=s2 _ _ epp
   have et:upd H2 pt (.tup [V.int r,V.int (k:Int)]) pt=some (.tup [V.int r,V.int (k:Int)]):=ag
   have hd2:=aM.same s2 _ hd
   have S2:=hs.trans s2
   generalize upd H2 pt _=H3 at *
   refine⟨pp,us,.ref pt,rfl,rfl,el,Nat.lt_of_le_of_lt (show us.length≤29 by omega) (by decide),(lf,r,some (.int (k:Int))),rfl,rfl,rfl,S2.upd hpp,⟨ps++[(r,(k:Int))],us++[.ref pt],ag,?_,W2⟩,?_⟩
   ·rw [List.map_append]
    refine aM.append (aM.but el (fun b o ne h=>by rw [aq ne];exact h) _ (h8 (fun _=>rfl) ps) hd2) (.one (dv.tup (xs:=[V.int r,V.int (k:Int)]) ?_ ⟨_,_,rfl,rfl,.one rfl⟩))
    rw [aq (Ne.symm npt)]
    exact et
   ·show lf.toNat<left.toNat
    omega
 ·have z:left=1:=by omega
  subst z
  exact q3 (by omega) n1 ps us pp H1 W.done (W.len n1) hs hpp epp hd
end
end K
namespace L2
open PySem PySem.Spec PyProof.Rows
theorem bK {X:Cx} (K:PySem.W.Frag) (h:X.K=K):zI X (Bt K):=h▸aR
theorem fj {X:Cx} {pos:Pos} {es:List Expr} {k:Nat} {t:zJ} {n:Nat} (K:PySem.W.Frag) (e:X.K=K) (hc:X.calm=true) (h:B9 X es t)
  (hn:(assignEach es X.env).length=n:=by rfl) (hst:(assignEach es X.env).findIdx? (·.1)=none:=by rfl):PG X (.Tuple es k pos) (qF K n t):=e▸bQ hc h hn hst
end L2
namespace K
open PySem PySem.Spec PyProof.Rows L2
section
variable {P:Program} {w:World} {K:PySem.W.Frag} {mg:Str→Option Value} {base:Heap}
theorem aJ {X:Cx}:Passes (dJ P w) X E0:=by
 intro pins σ H1 s1 e s' I hq
 obtain⟨x,C,T,dd,H',_,_,_,_,_,_,_,_,_,_,z⟩:=hq
 exact z.elim
theorem bp {H:Hp} {q:Addr} {xs:List V} {k:Int} {v:V} {Q:VK} (t:bC K H q xs) (e:nV xs k=some v) (h:Q v H):Bt K (.ref q) (.int k) H Q:=⟨q,xs,k,v,rfl,rfl,t,e,h⟩
theorem iO {x:V} {r:List V}:nV (x::r) 0=some x:=by
 unfold nV vH
 simp
def DY (row:PyData) (q:Int):Prop:=∃ ds es,row=.tuple (.tuple (.int q::ds)::es)
def B5 (rows:List PyData) (qs:List Int):Prop:=rows.length=qs.length∧∀(i:Nat) (row:PyData),rows[i]?=some row→∃ q,qs[i]?=some q∧DY row q
def cM (K:PySem.W.Frag):Sp:=fun vs H Q _=>∃ v rows qs,vs=[v]∧dv K H (.tuple rows) v∧B5 rows qs∧rows.length≤10^6∧∀ p H',aB H H'→H p=none→H' p=some (.lst (qs.map V.int))→Q (.ref p) H'
theorem iy:ay [("parts":Str)] [("parts":Str)] (ak (top 17)):=⟨rfl,rfl,rfl,by decide +kernel,rfl,by decide +kernel,by decide +kernel⟩
theorem oZ (D:av K mg "primes_in" (top 17)):Callee P w K mg base aK 1 "primes_in" [("parts":Str)] (cM K):=by
 refine aw D (fun _ _ _ _ _ _ us hl=>match us,hl with | [_],_=>rfl) iy (fun vs H Q E h=>by obtain⟨a,_,_,rfl,_⟩:=h;rfl) (fun f cdv A outer s H vs Q E hr h=>?_)
 obtain⟨v,rows,qs,rfl,hd,⟨hl,hq⟩,h6,q⟩:=h
 have nd:=iy.nd
 refine⟨_,(aj (aC (dW rfl (cm (N':=["row"]) (js:=[none]) rfl rfl (by decide +kernel) (by decide +kernel) (by repeat (first | exact True.intro | refine⟨rfl,?_⟩)) (by repeat (first | exact True.intro | refine⟨rfl,?_⟩ | refine⟨True.intro,?_⟩)) (by repeat (first | exact True.intro | refine⟨⟨rfl,rfl,.inl rfl,.inl rfl⟩,?_⟩))) (fO (pv 0)) (fun _ _ _ _=>(ax (i:=0) (show List.Nodup [("row":Str)] from by decide +kernel) rfl (Or.inl rfl) (.inr rfl))) (fun _ _ _ _=>bG) (fun _ _ _ _=>(aL (bK K rfl) (aL (bK K rfl) (pv 0) ah (fun _ _=>rfl)) ah (fun _ _=>rfl)))))),?_⟩
 show eY _ _ [some v] H
 obtain⟨p,xs,rfl,hS,ht⟩:=hd
 k_data
 have xl:=ht.length
 refine⟨⟨_,hS⟩,?_⟩
 refine dy (xs:=xs) (fun i zs H3=>H3=H∧zs=(qs.take i).map V.int) ⟨rfl,rfl⟩ (Nat.le_trans (by omega) (show 10^6≤sizeLine by decide)) (fun i zs H3 hi ⟨e1,e2⟩=>⟨by rw [e1];exact hS,by rw [e2];simp;omega⟩) ?_ ?_
 ·rintro i x zs H3 hx ⟨rfl,rfl⟩
  obtain⟨d,hd,hv⟩:=ht.get hx
  obtain⟨q',hq',ds,es,rfl⟩:=hq i d hd
  obtain⟨p1,x1,rfl,t1,u,r1,rfl,hv2,_⟩:=hv
  obtain⟨p2,x2,rfl,t2,u',r2,rfl,hv3,_⟩:=hv2
  cases hv3
  show cF 0 _ [none] _ _
  k_data
  refine⟨True.intro,bp t1 iO (bp t2 iO ⟨rfl,?_⟩)⟩
  rw [List.take_add_one,hq',List.map_append]
  rfl
 ·rintro zs H3 p3 ⟨rfl,rfl⟩ hp3
  rw [show xs.length=qs.length by omega,List.take_length]
  exact q p3 _ (ao hp3) hp3 ag
def BQ (n a e:Int) (qs:List Int):Prop:=a^e.toNat%n=1∧∀ q∈qs,a^(e/q).toNat%n≠1
def gw (K:PySem.W.Frag):Sp:=fun vs H Q _=>∃(n a e:Int) (p:Addr) (qs:List Int),vs=[.int n,.int a,.int e,.ref p]∧0<n∧n≤10^120∧0≤e∧e≤10^120∧aX K H p (qs.map V.int)∧(∀ q∈qs,0<q∧q≤10^120)∧qs.length≤10^6∧∀ b H',(b=true↔BQ n a e qs)→aB H H'→Q (.bl b) H'
theorem jj:ay [("n":Str),("a":Str),("e":Str),("primes":Str)] [("n":Str),("a":Str),("e":Str),("primes":Str)] (ak (top 21)):=⟨rfl,rfl,rfl,by decide +kernel,rfl,by decide +kernel,by decide +kernel⟩
theorem qQ {C:Addr} (D:av K mg "is_least" (top 21)) (c_power:Callee P w K mg base (dJ P w) 4 "power" ["n","a","e"] (c6 C)) (n_all:mg "all"=none):Callee P w K mg base aK 5 "is_least" [("n":Str),("a":Str),("e":Str),("primes":Str)] (gw K):=by
 refine aw D (fun _ _ _ _ _ _ us hl=>match us,hl with | [_,_,_,_],_=>rfl) jj (fun vs H Q E h=>by obtain⟨_,_,_,_,_,rfl,_⟩:=h;rfl) (fun f cdv A outer s H vs Q E hr h=>?_)
 obtain⟨n,a,e,p,qs,rfl,hn,hn1,he,he1,hS,hq,hl,q⟩:=h
 have nd:=jj.nd
 refine⟨_,(aj (aC (bP (bL bO (ai c_power (hr.mono (by decide)) rfl aJ (aa (pv 0) (aa (pv 1) (aa (pv 2) af)))) ah (aE _)) (cS (aG (nZ rfl) rfl n_all L2.boot_all (aa (dW rfl (cm (N':=["prime","n","a","e"]) (js:=[none,some 0,some 1,some 2]) rfl rfl (by decide +kernel) (by decide +kernel) (by repeat (first | exact True.intro | refine⟨rfl,?_⟩)) (by repeat (first | exact True.intro | refine⟨rfl,?_⟩ | refine⟨True.intro,?_⟩)) (by repeat (first | exact True.intro | refine⟨⟨rfl,rfl,.inl rfl,.inl rfl⟩,?_⟩))) (b9 (pv 3)) (fun _ _ _ _=>(ax (i:=0) (show List.Nodup [("prime":Str),("n":Str),("a":Str),("e":Str)] from by decide +kernel) rfl (Or.inl rfl) (.inr rfl))) (fun _ _ _ _=>bG) (fun _ _ _ _=>(bL jg (ai c_power (hr.mono (by decide)) rfl aJ (aa (pv 1) (aa (pv 2) (aa (au bA (pv 3) (pv 0)) af)))) ah (aE _)))) af)))))),?_⟩
 show eY _ _ [some (.int n),some (.int a),some (.int e),some (.ref p)] H
 k_data
 refine⟨n,a,e,rfl,hn,hn1,fun _ H1 s1=>?_,fun z=>absurd z (by omega)⟩
 have hS1:=hS.same s1
 k_data
 refine aP (fun c=>?_) (fun c=>?_)
 ·refine⟨⟨_,hS1⟩,?_⟩
  refine bR (xs:=qs.map V.int) (fun i zs H3=>aB H H3∧zs=((qs.take i).map fun q=>decide (a^(e/q).toNat%n≠1)).map V.bl) ⟨s1,rfl⟩ (by rw [List.length_map];exact Nat.le_trans hl (show 10^6≤sizeLine by decide)) (fun i zs H3 hi ⟨e1,e2⟩=>⟨hS.same e1,by rw [e2];simp;omega⟩) ?_ ?_
  ·rintro i x zs H3 hx ⟨s3,rfl⟩
   rw [List.getElem?_map] at hx
   obtain⟨y,hy,rfl⟩:=Option.map_eq_some_iff.mp hx
   have my:=hq y (List.mem_of_getElem? hy)
   show cF 0 _ [none,some (.int n),some (.int a),some (.int e)] _ _
   k_data
   refine⟨⟨rfl,rfl,rfl,True.intro⟩,my.1,Bd.of (by omega) (by omega),n,a,e/y,rfl,hn,hn1,fun _ H4 s4=>⟨iz,?_⟩,fun z=>absurd (Int.ediv_nonneg he (show 0≤y by omega)) (by omega)⟩
   refine⟨s3.trans s4,?_⟩
   rw [List.take_add_one,hy,List.map_append,List.map_append]
   simp
  ·rintro zs H3 p3 ⟨s3,rfl⟩ hp3
   rw [List.length_map,List.take_length]
   refine uP (bs:=qs.map fun q=>decide (a^(e/q).toNat%n≠1)) (aX.of ag) ?_
   refine q _ _ ?_ (s3.trans (ao hp3))
   rw [List.all_eq_true]
   constructor
   ·intro h
    refine⟨c,fun y hy=>?_⟩
    have:=h _ (List.mem_map.mpr ⟨y,hy,rfl⟩)
    simpa using this
   ·intro h b hb
    obtain⟨y,hy,rfl⟩:=List.mem_map.mp hb
    simpa using h.2 y hy
 ·exact q false _ ⟨fun z=>(by cases z),fun z=>absurd z.1 c⟩ s1
theorem bZ {n x:Int} (hn:2≤n):x%n=1↔Num.Al n x 1:=by
 constructor
 ·intro h
  refine⟨x/n,?_⟩
  have:=Int.emod_add_mul_ediv x n
  omega
 ·rintro⟨k,hk⟩
  rw [show x=1+n*k by omega,Int.add_mul_emod_self_left]
  exact Int.emod_eq_of_lt (by omega) (by omega)
theorem jF {n a e:Int} {ps:List (Int × Int)} (hn:2≤n) (h:Num.Part e ps) (he:1≤e):BQ n a e (ps.map (·.1))↔Num.Ord n a e.toNat:=by
 rw [← Num.wy h he]
 unfold BQ
 rw [bZ hn]
 constructor
 ·exact fun⟨h1,h2⟩=>⟨h1,fun q hq z=>h2 q hq ((bZ hn).mpr z)⟩
 ·exact fun⟨h1,h2⟩=>⟨h1,fun q hq z=>h2 q hq ((bZ hn).mp z)⟩
theorem fL (P:Int→Prop) {g:Int} (h1:1≤g) (h:P g):∃ m,1≤m∧m≤g∧P m∧∀ a,1≤a→a<m→¬P a:=by
 have:∀(k:Nat) (g:Int),g.toNat=k→1≤g→P g→∃ m,1≤m∧m≤g∧P m∧∀ a,1≤a→a<m→¬P a:=by
  intro k
  induction k using Nat.strongRecOn with
  | ind k ih =>
   intro g hk h1 hg
   by_cases c:∃ a,1≤a∧a<g∧P a
   ·obtain⟨a,a1,a2,a3⟩:=c
    obtain⟨m,m1,m2,m3,m4⟩:=ih a.toNat (by omega) a rfl a1 a3
    exact⟨m,m1,by omega,m3,m4⟩
   ·exact⟨g,h1,Int.le_refl _,hg,fun a a1 a2 a3=>c ⟨a,a1,a2,a3⟩⟩
 exact this _ g rfl h1 h
theorem Cm {p:Int} (hp:Num.Pm p):∃ g,Num.LF p g:=by
 obtain⟨g,g1,g2,g3⟩:=Num.yu hp
 obtain⟨m,m1,m2,m3,m4⟩:=fL (fun a=>Num.Ord p a (p-1).toNat) g1 g3
 exact⟨m,m1,by omega,m3,m4⟩
def gb (K:PySem.W.Frag):Sp:=fun vs H Q _=>∃(n:Int) (p:Addr) (ps:List (Int × Int)),vs=[.int n,.ref p]∧Num.Pm n∧n≤10^9∧Num.Part (n-1) ps∧ps.length≤29∧aX K H p (ps.map fun x=>V.int x.1)∧∀ g H',Num.LF n g→aB H H'→Q (.int g) H'
theorem jH {n:Int} {ps:List (Int × Int)} (h:Num.Part n ps) (hn:1≤n):∀ q∈ps.map (·.1),2≤q∧q≤n:=fun q hq=>by
 obtain⟨x,hx,rfl⟩:=List.mem_map.mp hq
 obtain⟨o1,o2,_⟩:=h.ok x hx
 have:=Num.cE hx o2
 rw [h.prod] at this
 exact⟨o1.two,Int.le_of_dvd (by omega) this⟩
theorem gJ:ay [("p":Str),("primes":Str),("full":Str)] [("p":Str),("primes":Str)] (ak (top 46)):=⟨rfl,rfl,rfl,by decide +kernel,rfl,by decide +kernel,by decide +kernel⟩
theorem mR (D:av K mg "least_full" (top 46)) (c_is_least:Callee P w K mg base aK 5 "is_least" ["n","a","e","primes"] (gw K)):Callee P w K mg base aK 6 "least_full" [("p":Str),("primes":Str)] (gb K):=by
 refine aw D (fun _ _ _ _ _ _ us hl=>match us,hl with | [_,_],_=>rfl) gJ (fun vs H Q E h=>by obtain⟨_,_,_,rfl,_⟩:=h;rfl) (fun f cdv A outer s H vs Q E hr h=>?_)
 obtain⟨n,p,ps,rfl,hp,hn,hP,hl,hS,q⟩:=h
 have n2:=hp.two
 obtain⟨g,G⟩:=Cm hp
 have g1:=G.one
 have g2:=G.lt
 have nd:=gJ.nd
 refine⟨_,(ae (ar (i:=2) nd rfl (Or.inl rfl) ah) (ae (aV PassesOwn.never (fk (a9 (ai c_is_least (hr.mono (by decide)) rfl aF (aa (pv 0) (aa (pv 2) (aa (au cq (pv 0) ah) (aa (pv 1) af))))) (fun _=>rfl))) (aj (cL (i:=2) nd rfl (Or.inl rfl) ah (dF gg)))) (aj (aC (pv 2))))),?_⟩
 show br _ _ _ [some (.int n),some (.ref p),none] H
 k_data
 refine aW (α:=Int) (fun x=>[some (.int n),some (.ref p),some (.int x)]) (fun x H1=>aB H H1∧1≤x∧x≤g) (fun x=>(g-x).toNat) 1 rfl ⟨aB.refl _,Int.le_refl _,g1⟩ ?_
 rintro x H1 ⟨s1,x1,x2⟩
 replace x1:1≤x:=x1
 replace x2:x≤g:=x2
 k_data
 refine⟨n,x,n-1,p,ps.map (·.1),rfl,by omega,by omega,by omega,by omega,?_,fun y hy=>?_,?_,fun b H2 hb s2=>?_⟩
 ·rw [List.map_map];exact hS.same s1
 ·have:=jH hP (by omega) y hy
  omega
 ·rw [List.length_map];exact Nat.le_trans hl (by decide)
 rw [jF n2 hP (by omega)] at hb
 refine⟨b,aU.mpr rfl,?_⟩
 cases b
 ·have nx:¬Num.Ord n x (n-1).toNat:=fun z=>by have:=hb.mpr z;cases this
  have ne:x≠g:=fun z=>nx (z▸G.ord)
  refine⟨_,fun _ _ z=>z,x+1,rfl,s1.trans s2,by omega,by omega,by omega⟩
 ·have hx:=hb.mp rfl
  have xg:x=g:=by
   rcases (by omega:x=g∨x<g) with z | z
   ·exact z
   ·exact absurd hx (G.no x x1 z)
  rw [xg]
  exact q g H2 G (s1.trans s2)
end
end K
namespace K
open PySem PySem.Spec PyProof.Rows L2
section
variable {P:Program} {w:World} {K:PySem.W.Frag} {mg:Str→Option Value} {base:Heap}
theorem pR {ps:List (Int × Int)} {p:Int × Int} {ds ds':Nat→PyData} (h:∀ j,j<ps.length→ds' j=ds j):Num.rowsOf (ps++[p]) ds'=Num.rowsOf ps ds++[.tuple [ds' ps.length,.int p.2]]:=by
 unfold Num.rowsOf
 rw [List.length_append,List.length_singleton,List.range_succ,List.map_append]
 congr 1
 ·refine List.map_congr_left fun j hj=>?_
  have:=List.mem_range.mp hj
  rw [h j this,List.getD_eq_getElem?_getD,List.getD_eq_getElem?_getD,List.getElem?_append_left this]
 ·simp
theorem hJ {ps:List (Int × Int)} {ds:Nat→PyData} (h:∀ i q k,ps[i]?=some (q,k)→Num.gA q (ds i)):B5 (Num.rowsOf ps ds) (ps.map (·.1)):=by
 refine⟨by rw [Num.bw,List.length_map],fun i row hi=>?_⟩
 have hl:=(List.getElem?_eq_some_iff.mp hi).1
 rw [Num.bw] at hl
 have hg:=List.getElem?_eq_getElem hl
 rw [Num.gU hg] at hi
 obtain⟨g,rows,e⟩:=(h i _ _ hg).head
 exact⟨ps[i].1,by rw [List.getElem?_map,hg];rfl,[.int g,.tuple rows],[.int ps[i].2],by rw [← Option.some.inj hi,e];rfl⟩
theorem iP {H:Hp} {q k:Int} {v:V} (h:dv K H (jI (q,k)) v):∃ p,v=.ref p∧bC K H p [.int q,.int k]:=by
 obtain⟨p,xs,rfl,h1,x,r,rfl,d1,y,r',rfl,d2,h4⟩:=h
 cases h4
 cases d1
 cases d2
 exact⟨p,rfl,h1⟩
def gy (K:PySem.W.Frag) (L:Nat):Sp:=fun vs H Q _=>∃ n:Int,vs=[.int n]∧Num.Pm n∧n≤10^9∧Num.Ht L n∧∀ d v H',Num.gA n d→aB H H'→dv K H' d v→Q v H'
def i5 (K:PySem.W.Frag) (L:Nat):Sp:=fun vs H Q _=>∃ n:Int,vs=[.int n]∧1≤n∧n≤10^9∧(∀ q,Num.Pm q→q∣n→Num.Ht L q)∧∀ ps ds v H',Num.Part n ps→ps.length≤29→(∀ i q k,ps[i]?=some (q,k)→Num.gA q (ds i))→aB H H'→dv K H' (.tuple (Num.rowsOf ps ds)) v→Q v H'
theorem dI:ay [("n":Str),("least":Str),("parts":Str)] [("n":Str)] (ak (top 44)):=⟨rfl,rfl,rfl,by decide +kernel,rfl,by decide +kernel,by decide +kernel⟩
theorem ug {L:Nat} {c1 c2 c3:Addr} (D:av K mg "prime_paper" (top 44)) (c_least_divisor:Callee P w K mg base (dJ P w) 3 "least_divisor" ["n"] (nG c1 c2)) (c_parting_paper:Callee P w K mg base aK (2*L+8) "parting_paper" ["n"] (i5 K L)) (c_least_full:Callee P w K mg base aK 6 "least_full" ["p","primes"] (gb K)) (c_primes_in:Callee P w K mg base aK 1 "primes_in" ["parts"] (cM K)) (x_NoPrime:nR P w K mg base "NoPrime" c3 "divisor"):Callee P w K mg base (dJ P w) (2*L+9) "prime_paper" [("n":Str)] (gy K (L+1)):=by
 refine cj D (fun _ _ _ _ _ _ us hl=>match us,hl with | [_],_=>rfl) dI (fun vs H Q E h=>by obtain⟨_,rfl,_⟩:=h;rfl) (fun f cdv A outer s H vs Q E hr h=>?_)
 obtain⟨n,rfl,hp,hn,hH,q⟩:=h
 have n2:=hp.two
 have nd:=dI.nd
 refine⟨_,(ae (ar (i:=1) nd rfl (Or.inl rfl) (ai c_least_divisor (hr.mono (by omega)) rfl aJ (aa (pv 0) af))) (ae (aY (aD dR (pv 1) (pv 0) (aE _)) (aj (cT (kA x_NoPrime (hr.mono (by omega)) rfl (aa (pv 1) af)))) aH) (iL.lR (ae (ar (i:=2) nd rfl (Or.inl rfl) (ai c_parting_paper (hr.mono (by omega)) rfl aF (aa (au cq (pv 0) ah) af))) (aj (aC (aN (aa (pv 0) (aa (ai c_least_full (hr.mono (by omega)) rfl aF (aa (pv 0) (aa (ai c_primes_in (hr.mono (by omega)) rfl aF (aa (pv 2) af)) af))) (aa (pv 2) af)))))))))),?_⟩
 show br _ _ _ [some (.int n),none,none] H
 k_data
 refine⟨n,rfl,fun z=>absurd z (by omega),fun z=>absurd z (by omega),fun _ _ r hL=>⟨r,rfl,?_⟩⟩
 have rn:r=n:=by
  have:=hL.le (by omega)
  rcases (by omega:r<n∨r=n) with z | z
  ·exact absurd hL.dv (hp.no r hL.two z)
  ·exact z
 rw [if_neg (by omega)]
 refine⟨n-1,rfl,by omega,by omega,hH,fun ps ds v H1 hP hl hds s1 hv=>?_⟩
 refine⟨v,Num.rowsOf ps ds,ps.map (·.1),rfl,hv,hJ hds,by rw [Num.bw];exact Nat.le_trans hl (by decide),fun p H2 s2 f2 h2=>?_⟩
 rw [List.map_map] at h2
 refine⟨n,p,ps,rfl,hp,hn,hP,hl,aX.of h2,fun g H3 hg s3=>⟨by show 3≤sizeLine;decide,fun p3 hp3=>?_⟩⟩
 have s4:=ao (o:=.tup [V.int n,V.int g,v]) hp3
 exact q _ _ _ (.mk n g ps ds hp hn hg hP hl hds) (((s1.trans s2).trans s3).trans s4) (dv.tup ag ⟨_,_,rfl,rfl,_,_,rfl,rfl,.one (dv.same ((s2.trans s3).trans s4) _ hv)⟩)
theorem eV:ay [("n":Str)] [("n":Str)] (ak (top 45)):=⟨rfl,rfl,rfl,by decide +kernel,rfl,by decide +kernel,by decide +kernel⟩
theorem jf {L:Nat} {c1 c2:Addr} (D:av K mg "parting_paper" (top 45)) (c_parted:Callee P w K mg base (dJ P w) 3 "parted" ["n"] (kR K c1 c2)) (c_prime_paper:Callee P w K mg base (dJ P w) (2*L+7) "prime_paper" ["n"] (gy K L)) (n_tuple:mg "tuple"=none):Callee P w K mg base aK (2*L+8) "parting_paper" [("n":Str)] (i5 K L):=by
 refine aw D (fun _ _ _ _ _ _ us hl=>match us,hl with | [_],_=>rfl) eV (fun vs H Q E h=>by obtain⟨_,rfl,_⟩:=h;rfl) (fun f cdv A outer s H vs Q E hr h=>?_)
 obtain⟨n,rfl,n1,n9,hH,q⟩:=h
 have nd:=eV.nd
 refine⟨_,(aj (aC (bW bI rfl n_tuple L2.boot_tuple (aa (dW rfl (cm (N':=["prime","many"]) (js:=[none,none]) rfl rfl (by decide +kernel) (by decide +kernel) (by repeat (first | exact True.intro | refine⟨rfl,?_⟩)) (by repeat (first | exact True.intro | refine⟨rfl,?_⟩ | refine⟨True.intro,?_⟩)) (by repeat (first | exact True.intro | refine⟨⟨rfl,rfl,.inl rfl,.inl rfl⟩,?_⟩))) (b9 (ai c_parted (hr.mono (by omega)) rfl aJ (aa (pv 0) af))) (fun _ _ _ _=>(fj K rfl (n:=2) rfl (aA (ax (i:=0) (show List.Nodup [("prime":Str),("many":Str)] from by decide +kernel) rfl (Or.inl rfl) (.inr rfl)) (aA (ax (i:=1) (show List.Nodup [("prime":Str),("many":Str)] from by decide +kernel) rfl (Or.inl rfl) (.inr rfl)) aT)))) (fun _ _ _ _=>bG) (fun _ _ _ _=>(aN (aa (ai c_prime_paper (hr.mono (by omega)) rfl aJ (aa (pv 0) af)) (aa (pv 1) af))))) af)))),?_⟩
 show eY _ _ [some (.int n)] H
 k_data
 refine⟨n,rfl,fun z=>absurd z (by omega),fun z=>absurd z (by omega),fun _ _ ps us p H1 hP hl s1 f1 h1 hd=>⟨p,rfl,⟨_,aX.of h1⟩,?_⟩⟩
 have ul:us.length=ps.length:=by rw [hd.length,List.length_map]
 refine bR (xs:=us) (fun i zs H3=>aB H1 H3∧∃ ds,(∀ j q k,(ps.take i)[j]?=some (q,k)→Num.gA q (ds j))∧aM K H3 (Num.rowsOf (ps.take i) ds) zs) ⟨aB.refl _,fun _=>.none,fun j q k z=>by simp at z,rfl⟩ (by rw [ul];exact Nat.le_trans hl (by decide)) (fun i zs H3 hi ⟨e1,ds,e2,e3⟩=>⟨aX.of (e1 _ _ h1),by rw [e3.length,Num.bw,List.length_take];omega⟩) ?_ ?_
 ·rintro i x zs H3 hx ⟨s3,ds,hds,hz⟩
  obtain⟨d,hd',hv⟩:=hd.get hx
  rw [List.getElem?_map] at hd'
  obtain⟨⟨q',k'⟩,hy,rfl⟩:=Option.map_eq_some_iff.mp hd'
  obtain⟨pt,rfl,tt⟩:=iP hv
  have hok:=hP.ok _ (List.mem_of_getElem? hy)
  have hdv:q'∣n:=by
   have:=Num.cE (List.mem_of_getElem? hy) hok.2.1
   rwa [hP.prod] at this
  have ql:q'≤n:=Int.le_of_dvd (by omega) hdv
  show qF K 2 _ _ [none,none] _ _
  refine⟨pt,_,rfl,tt.same s3,rfl,?_⟩
  k_data
  refine⟨True.intro,q',rfl,hok.1,by omega,hH q' hok.1 hdv,fun d v H4 hp4 s4 hv4=>⟨by show 2≤sizeLine;decide,fun p5 hp5=>?_⟩⟩
  have s5:=ao (o:=.tup [v,V.int k']) hp5
  have tk:ps.take (i+1)=ps.take i++[(q',k')]:=by rw [List.take_add_one,hy];rfl
  have il:i<ps.length:=(List.getElem?_eq_some_iff.mp hy).1
  have tl:(ps.take i).length=i:=by rw [List.length_take];omega
  refine⟨(s3.trans s4).trans s5,fun j=>if j=i then d else ds j,fun j q k hj=>?_,?_⟩
  ·rw [tk] at hj
   rcases (by omega:j<i∨j=i∨i<j) with z | z | z
   ·rw [List.getElem?_append_left (by omega)] at hj
    show Num.gA q (if j=i then d else ds j)
    rw [if_neg (by omega)]
    exact hds j q k hj
   ·subst z
    rw [List.getElem?_append_right (by omega),tl,Nat.sub_self] at hj
    show Num.gA q (if j=j then d else ds j)
    rw [if_pos rfl]
    cases hj
    exact hp4
   ·rw [List.getElem?_eq_none (by simp;omega)] at hj
    cases hj
  ·rw [tk,pR (ds:=ds) (fun j hj=>if_neg (by omega)),tl,if_pos rfl]
   exact aM.append (aM.same (s4.trans s5) _ hz) (.one (dv.tup ag ⟨_,_,rfl,dv.same s5 _ hv4,.one rfl⟩))
 ·rintro zs H3 p3 ⟨s3,ds,hds,hz⟩ hp3
  rw [ul,List.take_length] at hds hz
  have s4:=ao (o:=.lst zs) hp3
  refine⟨p3,rfl,zs,.inl ⟨aX.of ag,fun l hl'=>?_⟩⟩
  generalize upd H3 p3 _=H4 at *
  have s5:=ao (o:=.tup zs) hl'
  exact q ps ds _ _ hP hl hds (((s1.trans s3).trans s4).trans s5) (dv.tup ag (aM.same (s4.trans s5) _ hz))
theorem lS {L:Nat} (D:av K mg "prime_paper" (top 44)):Callee P w K mg base (dJ P w) 7 "prime_paper" [("n":Str)] (gy K 0):=by
 refine cj D (fun _ _ _ _ _ _ us hl=>match us,hl with | [_],_=>rfl) dI (fun vs H Q E h=>by obtain⟨_,rfl,_⟩:=h;rfl) (fun f cdv A outer s H vs Q E hr h=>?_)
 obtain⟨n,rfl,hp,hn,hH,q⟩:=h
 exact hH.elim
theorem lU {c1 c2 c3:Addr} (D1:av K mg "prime_paper" (top 44)) (D2:av K mg "parting_paper" (top 45)) (c_least_divisor:Callee P w K mg base (dJ P w) 3 "least_divisor" ["n"] (nG c1 c2)) (c_parted:Callee P w K mg base (dJ P w) 3 "parted" ["n"] (kR K c1 c2)) (c_least_full:Callee P w K mg base aK 6 "least_full" ["p","primes"] (gb K)) (c_primes_in:Callee P w K mg base aK 1 "primes_in" ["parts"] (cM K)) (x_NoPrime:nR P w K mg base "NoPrime" c3 "divisor") (n_tuple:mg "tuple"=none):∀ L:Nat,Callee P w K mg base (dJ P w) (2*L+7) "prime_paper" ["n"] (gy K L)∧Callee P w K mg base aK (2*L+8) "parting_paper" ["n"] (i5 K L)
 | 0=>⟨lS (L:=0) D1,jf (L:=0) D2 c_parted (lS (L:=0) D1) n_tuple⟩
 | L+1=>by
  have h:=lU D1 D2 c_least_divisor c_parted c_least_full c_primes_in x_NoPrime n_tuple L
  have a:=ug D1 c_least_divisor h.2 c_least_full c_primes_in x_NoPrime
  have a':Callee P w K mg base (dJ P w) (2*(L+1)+7) "prime_paper" ["n"] (gy K (L+1)):=a.mono (by omega)
  exact⟨a',jf D2 c_parted a' n_tuple⟩
def pX (K:PySem.W.Frag):Sp:=fun vs H Q _=>∃ n:Int,vs=[.int n]∧Num.Pm n∧n≤10^9∧∀ d v H',Num.gA n d→aB H H'→dv K H' d v→Q v H'
theorem Bg (h:Callee P w K mg base (dJ P w) (2*30+7) "prime_paper" ["n"] (gy K 30)):Callee P w K mg base (dJ P w) 67 "prime_paper" ["n"] (pX K) :=
 Callee.imp h fun vs H Q E z=>by
  obtain⟨n,h1,h2,h3,q⟩:=z
  exact⟨n,h1,h2,h3,Num.AE h2 h3,q⟩
end
end K
namespace K
open PySem PySem.Spec PyProof.Rows L2
section
variable {P:Program} {w:World} {K:PySem.W.Frag} {mg:Str→Option Value} {base:Heap}
theorem mV {n:Int} {d:PyData} (h:Num.gA n d):∃ g ps ds,d=.tuple [.int n,.int g,.tuple (Num.rowsOf ps ds)]∧Num.LF n g∧Num.Part (n-1) ps∧ps.length≤29∧∀ i q k,ps[i]?=some (q,k)→Num.gA q (ds i):=by
 cases h with
 | mk _ g ps ds h1 h2 h3 h4 h5 h6=>exact⟨g,ps,ds,rfl,h3,h4,h5,h6⟩
theorem lV {n:Int} {d:PyData} (h:Num.gA n d):Num.Pm n∧n≤10^9:=by
 cases h with
 | mk _ _ _ _ a b=>exact⟨a,b⟩
theorem jW {H:Hp} {d1 d2 d3:PyData} {v:V} (h:dv K H (.tuple [d1,d2,d3]) v):∃ p x1 x2 x3,v=.ref p∧bC K H p [x1,x2,x3]∧dv K H d1 x1∧dv K H d2 x2∧dv K H d3 x3:=by
 obtain⟨p,xs,rfl,h1,x1,r1,rfl,e1,x2,r2,rfl,e2,x3,r3,rfl,e3,z⟩:=h
 cases z
 exact⟨p,x1,x2,x3,rfl,h1,e1,e2,e3⟩
end
end K
namespace K
open PySem PySem.Spec PyProof.Rows L2
section
variable {P:Program} {w:World} {K:PySem.W.Frag} {mg:Str→Option Value} {base:Heap}
def By (K:PySem.W.Frag):Sp:=fun vs H Q _=>∃ d v,vs=[v]∧dv K H d v∧Q (.bl (vE d)) H
theorem jq:ay [("thing":Str)] [("thing":Str)] (ak (top 12)):=⟨rfl,rfl,rfl,by decide +kernel,rfl,by decide +kernel,by decide +kernel⟩
theorem Dw (D:av K mg "is_whole" (top 12)) (n_isinstance:mg "isinstance"=none) (n_int:mg "int"=none) (n_bool:mg "bool"=none):Callee P w K mg base aK 1 "is_whole" [("thing":Str)] (By K):=by
 refine aw D (fun _ _ _ _ _ _ us hl=>match us,hl with | [_],_=>rfl) jq (fun vs H Q E h=>by obtain⟨_,_,rfl,_⟩:=h;rfl) (fun f cdv A outer s H vs Q E hr h=>?_)
 obtain⟨d,v,rfl,hd,q⟩:=h
 have nd:=jq.nd
 refine⟨_,(aj (aC (bP (aG cO rfl n_isinstance PyProof.Rows.boot_isinstance (aa (pv 0) (aa (dU (v:=.ty "int") rfl n_int L2.boot_int rfl) af))) (cS (Bj (aG cO rfl n_isinstance PyProof.Rows.boot_isinstance (aa (pv 0) (aa (dU (v:=.ty "bool") rfl n_bool L2.boot_bool rfl) af)))))))),?_⟩
 show eY _ _ [some v] H
 k_data
 refine yy hd ?_
 k_data
 refine aP (fun c=>?_) (fun c=>?_)
 ·refine vF hd ?_
  k_data
  cases d<;>first | exact q | simp [vE,Dm] at c
 ·cases d<;>first | exact q | exact absurd rfl c
def j4:PyData→Nat→Bool
 | .tuple ds,m=>decide (ds.length=m)
 | _,_=>false
def qc (K:PySem.W.Frag):Sp:=fun vs H Q _=>∃ d v,∃ m:Nat,vs=[v,.int m]∧dv K H d v∧Q (.bl (j4 d m)) H
theorem fX:ay [("thing":Str),("many":Str)] [("thing":Str),("many":Str)] (ak (top 13)):=⟨rfl,rfl,rfl,by decide +kernel,rfl,by decide +kernel,by decide +kernel⟩
theorem A8 (D:av K mg "is_tuple_of" (top 13)) (n_isinstance:mg "isinstance"=none) (n_tuple:mg "tuple"=none) (n_len:mg "len"=none):Callee P w K mg base aK 1 "is_tuple_of" [("thing":Str),("many":Str)] (qc K):=by
 refine aw D (fun _ _ _ _ _ _ us hl=>match us,hl with | [_,_],_=>rfl) fX (fun vs H Q E h=>by obtain⟨_,_,_,rfl,_⟩:=h;rfl) (fun f cdv A outer s H vs Q E hr h=>?_)
 obtain⟨d,v,m,rfl,hd,q⟩:=h
 have nd:=fX.nd
 refine⟨_,(aj (aC (bP (aG cO rfl n_isinstance PyProof.Rows.boot_isinstance (aa (pv 0) (aa (dU (v:=.ty "tuple") rfl n_tuple L2.boot_tuple rfl) af))) (cS (bL bO (aG bN rfl n_len PySem.boot_len (aa (pv 0) af)) (pv 1) (aE _)))))),?_⟩
 show eY _ _ [some v,some (.int m)] H
 k_data
 refine fc hd ?_
 k_data
 refine aP (fun c=>?_) (fun c=>?_)
 ·cases d with
  | tuple ds =>
   obtain⟨p,xs,rfl,hS,ht⟩:=hd
   refine mM hS ⟨iz,?_⟩
   have:decide (V.int (xs.length:Int)=V.int (m:Int))=j4 (.tuple ds) m:=by
    show _=decide (ds.length=m)
    rw [ht.length]
    refine decide_eq_decide.mpr ⟨fun z=>?_,fun z=>by rw [z]⟩
    have:=V.int.inj z
    omega
   rw [this]
   exact q
  | _=>exact absurd c (by simp [Cj])
 ·cases d<;>first | exact q | exact absurd rfl c
theorem mJ {d:PyData} (h:vE d=true):∃ i,d=.int i:=by
 cases d<;>first | exact⟨_,rfl⟩ | cases h
theorem yx {d:PyData} (h:Cj d=true):∃ i,d=.tuple i:=by
 cases d<;>first | exact⟨_,rfl⟩ | cases h
def PF (d:PyData):Prop:=∃(p g:Int) (rows:List PyData),d=.tuple [.int p,.int g,.tuple rows]∧2≤p
def Bx (K:PySem.W.Frag):Sp:=fun vs H Q _=>∃ d v,vs=[v]∧dv K H d v∧∀ b:Bool,(b=true↔PF d)→Q (.bl b) H
theorem C2 {H:Hp} {d1 d2 d3:PyData} {v:V} (h:dv K H (.tuple [d1,d2,d3]) v):∃ p x1 x2 x3,v=.ref p∧bC K H p [x1,x2,x3]∧dv K H d1 x1∧dv K H d2 x2∧dv K H d3 x3:=by
 obtain⟨p,xs,rfl,h1,x1,r1,rfl,e1,x2,r2,rfl,e2,x3,r3,rfl,e3,z⟩:=h
 cases z
 exact⟨p,x1,x2,x3,rfl,h1,e1,e2,e3⟩
theorem Dr {ds:List PyData} (h:ds.length=3):∃ a b c,ds=[a,b,c]:=by
 match ds,h with
 | [a,b,c],_=>exact⟨a,b,c,rfl⟩
theorem eT:ay [("thing":Str),("p":Str),("full":Str),("parts":Str)] [("thing":Str)] (ak (top 27)):=⟨rfl,rfl,rfl,by decide +kernel,rfl,by decide +kernel,by decide +kernel⟩
theorem Cs (D:av K mg "is_paper_form" (top 27)) (c_is_whole:Callee P w K mg base aK 1 "is_whole" ["thing"] (By K)) (c_is_tuple_of:Callee P w K mg base aK 1 "is_tuple_of" ["thing","many"] (qc K)) (n_isinstance:mg "isinstance"=none) (n_tuple:mg "tuple"=none):Callee P w K mg base aK 2 "is_paper_form" [("thing":Str)] (Bx K):=by
 refine aw D (fun _ _ _ _ _ _ us hl=>match us,hl with | [_],_=>rfl) eT (fun vs H Q E h=>by obtain⟨_,_,rfl,_⟩:=h;rfl) (fun f cdv A outer s H vs Q E hr h=>?_)
 obtain⟨d,v,rfl,hd,q⟩:=h
 have nd:=eT.nd
 refine⟨_,(ae (aY (fk (a9 (ai c_is_tuple_of (hr.mono (by decide)) rfl aF (aa (pv 0) (aa ah af))) (fun _=>rfl))) (aj (aC dS)) aH) (ae (cK (pv 0) (bQ (n:=3) rfl (aA (ax (i:=1) nd rfl (Or.inl rfl) (.inr rfl)) (aA (ax (i:=2) nd rfl (Or.inl rfl) (.inr rfl)) (aA (ax (i:=3) nd rfl (Or.inl rfl) (.inr rfl)) aT))))) (aj (aC (bP (ai c_is_whole (hr.mono (by decide)) rfl aF (aa (pv 1) af)) (bP (bL zX (pv 1) ah (aE _)) (bP (ai c_is_whole (hr.mono (by decide)) rfl aF (aa (pv 2) af)) (cS (aG cO rfl n_isinstance PyProof.Rows.boot_isinstance (aa (pv 3) (aa (dU (v:=.ty "tuple") rfl n_tuple L2.boot_tuple rfl) af))))))))))),?_⟩
 show br _ _ _ [some v,none,none,none] H
 k_data
 refine⟨d,v,3,rfl,hd,j4 d 3,aU.mpr rfl,?_⟩
 refine aP (fun c=>?_) (fun c=>?_)
 ·refine q false ⟨fun z=>(by cases z),fun⟨p,g,rows,e,_⟩=>?_⟩
  rw [e] at c
  cases c
 ·cases d with
  | tuple ds =>
   obtain⟨d1,d2,d3,rfl⟩:=Dr (ds:=ds) (by simpa [j4] using c)
   obtain⟨p,x1,x2,x3,rfl,hS,e1,e2,e3⟩:=C2 hd
   refine⟨p,_,rfl,hS,rfl,?_⟩
   k_data
   refine⟨d1,x1,rfl,e1,vE d1,rfl,?_⟩
   refine aP (fun c1=>?_) (fun c1=>?_)
   ·obtain⟨i,rfl⟩:=mJ c1
    cases e1
    refine⟨i,rfl,?_⟩
    refine aP (fun c2=>?_) (fun c2=>?_)
    ·refine⟨d2,x2,rfl,e2,vE d2,rfl,?_⟩
     refine aP (fun c3=>?_) (fun c3=>?_)
     ·obtain⟨j,rfl⟩:=mJ c3
      refine fc e3 (q _ ⟨fun z=>?_,fun z=>?_⟩)
      ·obtain⟨rows,rfl⟩:=yx z
       exact⟨i,j,rows,rfl,c2⟩
      ·obtain⟨p,g,rows,e,_⟩:=z
       cases e
       rfl
     ·refine q false ⟨fun z=>(by cases z),fun⟨p,g,rows,e,_⟩=>?_⟩
      cases e
      exact absurd rfl c3
    ·refine q false ⟨fun z=>(by cases z),fun⟨p,g,rows,e,h2⟩=>?_⟩
     cases e
     exact absurd h2 c2
   ·refine q false ⟨fun z=>(by cases z),fun⟨p,g,rows,e,_⟩=>?_⟩
    cases e
    exact absurd rfl c1
  | _=>exact absurd rfl c
def RF (width:Nat) (d:PyData):Prop:=∃(pd:PyData) (k:Int) (more:List PyData),d=.tuple (pd::.int k::more)∧more.length+2=width∧PF pd∧1≤k
def CO (K:PySem.W.Frag):Sp:=fun vs H Q _=>∃ d v,∃ m:Nat,vs=[v,.int m]∧2≤m∧dv K H d v∧∀ b:Bool,(b=true↔RF m d)→Q (.bl b) H
theorem uQ {x y:V} {r:List V}:nV (x::y::r) 1=some y:=by
 unfold nV vH
 simp
 rw [if_pos (by omega)]
 rfl
theorem fW:ay [("thing":Str),("width":Str)] [("thing":Str),("width":Str)] (ak (top 29)):=⟨rfl,rfl,rfl,by decide +kernel,rfl,by decide +kernel,by decide +kernel⟩
theorem Cv (D:av K mg "is_row_form" (top 29)) (c_is_whole:Callee P w K mg base aK 1 "is_whole" ["thing"] (By K)) (c_is_tuple_of:Callee P w K mg base aK 1 "is_tuple_of" ["thing","many"] (qc K)) (c_is_paper_form:Callee P w K mg base aK 2 "is_paper_form" ["thing"] (Bx K)):Callee P w K mg base aK 3 "is_row_form" [("thing":Str),("width":Str)] (CO K):=by
 refine aw D (fun _ _ _ _ _ _ us hl=>match us,hl with | [_,_],_=>rfl) fW (fun vs H Q E h=>by obtain⟨_,_,_,rfl,_⟩:=h;rfl) (fun f cdv A outer s H vs Q E hr h=>?_)
 obtain⟨d,v,m,rfl,hm,hd,q⟩:=h
 have nd:=fW.nd
 refine⟨_,(aj (aC (bP (ai c_is_tuple_of (hr.mono (by decide)) rfl aF (aa (pv 0) (aa (pv 1) af))) (bP (ai c_is_paper_form (hr.mono (by decide)) rfl aF (aa (aL aR (pv 0) ah (fun _ _=>rfl)) af)) (bP (ai c_is_whole (hr.mono (by decide)) rfl aF (aa (aL aR (pv 0) ah (fun _ _=>rfl)) af)) (cS (bL zX (aL aR (pv 0) ah (fun _ _=>rfl)) ah (aE _)))))))),?_⟩
 show eY _ _ [some v,some (.int m)] H
 k_data
 refine⟨d,v,m,rfl,hd,j4 d m,rfl,?_⟩
 refine aP (fun c=>?_) (fun c=>?_)
 ·cases d with
  | tuple ds =>
   have hl:ds.length=m:=by simpa [j4] using c
   obtain⟨d1,d2,more,rfl⟩:∃ a b c,ds=a::b::c:=by
    match ds,hl with
    | [],h=>exact absurd h (by simp;omega)
    | [a],h=>exact absurd h (by simp;omega)
    | a::b::c,_=>exact⟨a,b,c,rfl⟩
   obtain⟨p,xs,rfl,hS,x1,r1,rfl,e1,x2,r2,rfl,e2,e3⟩:=hd
   refine bp hS iO ⟨d1,x1,rfl,e1,fun b hb=>⟨b,rfl,?_⟩⟩
   refine aP (fun c1=>?_) (fun c1=>?_)
   ·have hPF:=hb.mp c1
    refine bp hS uQ ⟨d2,x2,rfl,e2,vE d2,rfl,?_⟩
    refine aP (fun c2=>?_) (fun c2=>?_)
    ·obtain⟨k,rfl⟩:=mJ c2
     cases e2
     refine bp hS uQ ⟨k,rfl,?_⟩
     refine q _ ⟨fun z=>⟨d1,k,more,rfl,by simpa using hl,hPF,of_decide_eq_true z⟩,fun⟨pd,k',more',e,_,_,hk⟩=>?_⟩
     cases e
     exact decide_eq_true hk
    ·refine q false ⟨fun z=>(by cases z),fun⟨pd,k,more',e,_⟩=>?_⟩
     cases e
     exact absurd rfl c2
   ·refine q false ⟨fun z=>(by cases z),fun⟨pd,k,more',e,_,h3,_⟩=>?_⟩
    cases e
    exact absurd (hb.mpr h3) c1
  | _=>exact absurd c (by simp [j4])
 ·refine q false ⟨fun z=>(by cases z),fun⟨pd,k,more,e,h2,_⟩=>?_⟩
  rw [e] at c
  exact absurd (decide_eq_true (by simpa using h2)) c
def Wo (n q k r:Int):Prop:=(q^k.toNat∣n∧n=q^k.toNat*r)∨(¬q^k.toNat∣n∧r=0)
def CP:Sp:=fun vs H Q _=>∃ n q k:Int,vs=[.int n,.int q,.int k]∧1≤n∧n≤10^110∧2≤q∧q≤10^110∧1≤k∧∀ r,Wo n q k r→0≤r→r≤n→Q (.int r) H
theorem kP:ay [("whole":Str),("prime":Str),("many":Str),("left":Str),("missing":Str)] [("whole":Str),("prime":Str),("many":Str)] (ak (top 30)):=⟨rfl,rfl,rfl,by decide +kernel,rfl,by decide +kernel,by decide +kernel⟩
theorem Cw (D:av K mg "without" (top 30)):Callee P w K mg base aK 1 "without" [("whole":Str),("prime":Str),("many":Str)] CP:=by
 refine aw D (fun _ _ _ _ _ _ us hl=>match us,hl with | [_,_,_],_=>rfl) kP (fun vs H Q E h=>by obtain⟨_,_,_,rfl,_⟩:=h;rfl) (fun f cdv A outer s H vs Q E hr h=>?_)
 obtain⟨n,q,k,rfl,n1,n9,q2,q9,k1,Qr⟩:=h
 have nd:=kP.nd
 refine⟨_,(ae (ar (i:=3) nd rfl (Or.inl rfl) (pv 0)) (ae (ar (i:=4) nd rfl (Or.inl rfl) (pv 2)) (ae (aV PassesOwn.never (PW.pt (fm (aD cR (pv 4) ah (aE _)) (fu (aD bO (au aI (pv 3) (pv 1)) ah (aE _))))) (ae (cL (i:=3) nd rfl (Or.inl rfl) (pv 1) (dF eG)) (aj (cL (i:=4) nd rfl (Or.inl rfl) ah (dF yw))))) (aj (aC (fN (aD bO (pv 4) ah (aE _)) (pv 3) ah)))))),?_⟩
 show br _ _ _ [some (.int n),some (.int q),some (.int k),none,none] H
 k_data
 refine aW (α:=Int × Int) (fun x=>[some (.int n),some (.int q),some (.int k),some (.int x.1),some (.int x.2)]) (fun x H1=>H1=H∧1≤x.1∧x.1≤n∧0≤x.2∧x.2≤k∧n=q^(k-x.2).toNat*x.1) (fun x=>x.1.toNat) (n,k) rfl ⟨rfl,n1,Int.le_refl _,by show 0≤k;omega,Int.le_refl _,by show n=q^(k-k).toNat*n;rw [Int.sub_self];show n=q^0*n;rw [Int.pow_zero,Int.one_mul]⟩ ?_
 rintro⟨l,m⟩ H1 ⟨rfl,l1,l2,m0,m1,e⟩
 replace l1:1≤l:=l1
 replace l2:l≤n:=l2
 replace m0:0≤m:=m0
 replace m1:m≤k:=m1
 replace e:n=q^(k-m).toNat*l:=e
 k_data
 refine aP (fun c=>?_) (fun c=>?_)
 ·refine⟨by omega,?_⟩
  refine aP (fun c2=>?_) (fun c2=>?_)
  ·obtain⟨y,hy⟩:=Int.dvd_of_emod_eq_zero c2
   have ey:l/q=y:=by rw [hy];exact Int.mul_ediv_cancel_left _ (by omega)
   have y1:1≤y:=by
    rcases (by omega:y≤0∨1≤y) with z | z
    ·have:=Int.mul_nonpos_of_nonneg_of_nonpos (show 0≤q by omega) z
     omega
    ·exact z
   have yl:y<l:=by
    rw [hy]
    have:=Int.mul_le_mul_of_nonneg_right q2 (show 0≤y by omega)
    omega
   refine⟨_,fun _ _ z=>z,by omega,Bd.of (by omega) (by omega),(y,m-1),by rw [ey],rfl,y1,by show y≤n;omega,by show 0≤m-1;omega,by show m-1≤k;omega,?_,by show y.toNat<l.toNat;omega⟩
   show n=q^(k-(m-1)).toNat*y
   rw [show (k-(m-1)).toNat=(k-m).toNat+1 by omega,Int.pow_succ,Int.mul_assoc,← hy]
   exact e
  ·rw [if_neg (by omega)]
   refine Qr 0 (.inr ⟨fun z=>?_,rfl⟩) (Int.le_refl _) (by omega)
   have pp:=Num.bh (show 0<q by omega) (k-m).toNat
   obtain⟨t,ht⟩:=z
   have e3:q^k.toNat=q^(k-m).toNat*q^m.toNat:=by rw [← Pw.pow_add];congr 1;omega
   rw [e,e3,Int.mul_assoc] at ht
   have ht2:=Int.eq_of_mul_eq_mul_left (by omega) ht
   obtain⟨j,hj⟩:∃ j,m.toNat=j+1:=⟨m.toNat-1,by omega⟩
   rw [hj,Int.pow_succ,Int.mul_comm (q^j) q,Int.mul_assoc] at ht2
   exact c2 (Int.emod_eq_zero_of_dvd ⟨_,ht2⟩)
 ·have mz:m=0:=by omega
  rw [if_pos mz]
  rw [mz,Int.sub_zero] at e
  exact Qr l (.inl ⟨⟨l,e⟩,e⟩) (by omega) l2
def CT (width:Nat):Int→Int→List PyData→Prop
 | left,_,[]=>left=1
 | left,last,d::ds=>1≤left∧∃(p g k:Int) (rows more:List PyData),d=.tuple (.tuple [.int p,.int g,.tuple rows]::.int k::more)∧more.length+2=width∧2≤p∧1≤k∧last<p∧∃ r,Wo left p k r∧CT width r p ds
def CJ (K:PySem.W.Frag):Sp:=fun vs H Q _=>∃(n:Int) (rows:List PyData) (v:V) (m:Nat),vs=[.int n,v,.int m]∧2≤m∧n≤10^110∧dv K H (.tuple rows) v∧(∀(p g k:Int) (rs more:List PyData),.tuple (.tuple [.int p,.int g,.tuple rs]::.int k::more)∈rows→p≤10^110)∧∀ b:Bool,(b=true↔CT m n 1 rows)→Q (.bl b) H
theorem Wo.one {n q k r r':Int} (h2:2≤q) (h:Wo n q k r) (h':Wo n q k r'):r=r':=by
 have pp:=Num.bh (show 0<q by omega) k.toNat
 rcases h with⟨h1,h2⟩|⟨h1,h2⟩<;>rcases h' with⟨h3,h4⟩|⟨h3,h4⟩
 ·exact Int.eq_of_mul_eq_mul_left (by omega) (h2.symm.trans h4)
 ·exact absurd h1 h3
 ·exact absurd h3 h1
 ·rw [h2,h4]
theorem kL:ay [("n":Str),("rows":Str),("width":Str),("left":Str),("last":Str),("row":Str)] [("n":Str),("rows":Str),("width":Str)] (ak (top 28)):=⟨rfl,rfl,rfl,by decide +kernel,rfl,by decide +kernel,by decide +kernel⟩
theorem Cr (D:av K mg "come_to" (top 28)) (c_is_row_form:Callee P w K mg base aK 3 "is_row_form" ["thing","width"] (CO K)) (c_without:Callee P w K mg base aK 1 "without" ["whole","prime","many"] CP):Callee P w K mg base aK 4 "come_to" [("n":Str),("rows":Str),("width":Str)] (CJ K):=by
 refine aw D (fun _ _ _ _ _ _ us hl=>match us,hl with | [_,_,_],_=>rfl) kL (fun vs H Q E h=>by obtain⟨_,_,_,_,rfl,_⟩:=h;rfl) (fun f cdv A outer s H vs Q E hr h=>?_)
 obtain⟨n,rows,v,m,rfl,hm,n9,hd,hb9,q⟩:=h
 obtain⟨p,xs,rfl,hS,ht⟩:=hd
 have nd:=kL.nd
 refine⟨_,(ae (ar (i:=3) nd rfl (Or.inl rfl) (pv 0)) (ae (ar (i:=4) nd rfl (Or.inl rfl) ah) (ae (cZ PassesOwn.never rfl (fO (pv 1)) (ax (i:=5) nd rfl (Or.inl rfl) (.inr rfl)) (ae (aY (PW.pt (pN (aD dR (pv 3) ah (aE _)) (pN (fk (a9 (ai c_is_row_form (hr.mono (by decide)) rfl aF (aa (pv 5) (aa (pv 2) af))) (fun _=>rfl))) (nc (aD pA (aL aR (aL aR (pv 5) ah (fun _ _=>rfl)) ah (fun _ _=>rfl)) (pv 4) (aE _)))))) (aj (aC dS)) aH) (ae (ar (i:=4) nd rfl (Or.inl rfl) (aL aR (aL aR (pv 5) ah (fun _ _=>rfl)) ah (fun _ _=>rfl))) (aj (ar (i:=3) nd rfl (Or.inl rfl) (ai c_without (hr.mono (by decide)) rfl aF (aa (pv 3) (aa (pv 4) (aa (aL aR (pv 5) ah (fun _ _=>rfl)) af))))))))) (aj (aC (bL bO (pv 3) ah (aE _))))))),?_⟩
 show br _ _ _ [some (.int n),some (.ref p),some (.int m),none,none,none] H
 k_data
 refine⟨⟨_,hS⟩,?_⟩
 refine oS (xs:=xs) (fun i σ' H'=>H'=H∧∃(l t:Int) (o:Option V),σ'=[some (.int n),some (.ref p),some (.int m),some (.int l),some (.int t),o]∧l≤10^110∧(CT m n 1 rows↔CT m l t (rows.drop i))) ⟨rfl,n,1,none,rfl,n9,by rw [List.drop_zero]⟩ (fun i σ' H' _ h=>by rw [h.1];exact hS) ?_ ?_
 ·rintro i x σ' H' hx ⟨rfl,l,t,o,rfl,l9,hc⟩
  obtain⟨d,hd,hv⟩:=ht.get hx
  have dr:rows.drop i=d::rows.drop (i+1):=by
   obtain⟨hi,e⟩:=List.getElem?_eq_some_iff.mp hd
   rw [List.drop_eq_getElem_cons hi,e]
  rw [dr] at hc
  k_data
  refine aP (fun c=>?_) (fun c=>?_)
  ·exact q false ⟨fun z=>(by cases z),fun z=>absurd (hc.mp z).1 (by omega)⟩
  refine⟨d,x,m,rfl,hm,hv,fun b hb=>⟨b,aU.mpr rfl,?_⟩⟩
  refine aP (fun c1=>?_) (fun c1=>?_)
  ·refine q false ⟨fun z=>(by cases z),fun z=>?_⟩
   obtain⟨_,p',g',k',rs',more',e1,e2,e3,e4,_⟩:=hc.mp z
   have:=hb.mpr ⟨_,k',more',e1,e2,⟨p',g',rs',rfl,e3⟩,e4⟩
   rw [c1] at this
   cases this
  ·obtain⟨pd,k,more,rfl,f2,⟨p',g,rs,rfl,f3⟩,f4⟩:=hb.mp (by simpa using c1)
   obtain⟨a1,y1,rfl,t1,u1,r1,rfl,hv2,u2,r2,rfl,hk,hmr⟩:=hv
   obtain⟨a2,x1,x2,x3,rfl,t2,w1,w2,w3⟩:=C2 hv2
   cases w1
   cases hk
   refine bp t1 iO (bp t2 iO ⟨p',rfl,?_⟩)
   refine aP (fun c2=>?_) (fun c2=>?_)
   ·refine q false ⟨fun z=>(by cases z),fun z=>?_⟩
    obtain⟨_,p2,g2,k2,rs2,more2,e1,e2,e3,e4,e5,_⟩:=hc.mp z
    cases e1
    omega
   ·have p9:=hb9 p' g k rs more (List.mem_of_getElem? hd)
    refine bp t1 iO (bp t2 iO (bp t1 uQ ⟨l,p',k,rfl,by omega,l9,f3,p9,f4,fun r hr' r0 r1=>⟨rfl,r,rfl,p',rfl,by omega,?_⟩⟩))
    rw [hc]
    constructor
    ·rintro⟨_,p2,g2,k2,rs2,more2,e1,e2,e3,e4,e5,r',e6,e7⟩
     cases e1
     rw [hr'.one f3 e6]
     exact e7
    ·intro z
     exact⟨by omega,p',g,k,rs,more,rfl,f2,f3,f4,by omega,r,hr',z⟩
 ·rintro σ' H' ⟨rfl,l,t,o,rfl,l9,hc⟩
  k_data
  rw [ht.length,List.drop_length] at hc
  refine q _ ?_
  rw [hc]
  exact decide_eq_true_iff
end
end K
namespace K
open PySem PySem.Spec PyProof.Rows L2
mutual
def pV:PyData→Prop
 | .int i=>i≤10^110
 | .tuple ds=>fI ds
 | .list ds=>fI ds
 | _=>True
def fI:List PyData→Prop
 | []=>True
 | d::ds=>pV d∧fI ds
end
mutual
def gN:PyData→Nat
 | .tuple ds=>1+bT ds
 | .list ds=>1+bT ds
 | _=>1
def bT:List PyData→Nat
 | []=>0
 | d::ds=>gN d+bT ds
end
theorem eX:∀{ds:List PyData} {d:PyData},fI ds→d∈ds→pV d
 | a::r,d,⟨h1,h2⟩,h=>by
  rcases List.mem_cons.mp h with z | z
  ·rw [z];exact h1
  ·exact eX h2 z
theorem nA:∀{ds:List PyData},(∀ d∈ds,pV d)→fI ds
 | [],_=>True.intro
 | a::r,h=>⟨h a (by simp),nA fun d hd=>h d (List.mem_cons_of_mem _ hd)⟩
theorem iF:∀(xs ys:List PyData),bT (xs++ys)=bT xs+bT ys
 | [],ys=>by simp [bT]
 | a::r,ys=>by
  show gN a+bT (r++ys)=gN a+bT r+bT ys
  rw [iF r ys]
  omega
theorem nK:∀ d:PyData,1≤gN d
 | .tuple _=>by simp [gN]
 | .list _=>by simp [gN]
 | .none=>Nat.le_refl _
 | .bool _=>Nat.le_refl _
 | .int _=>Nat.le_refl _
 | .str _=>Nat.le_refl _
 | .dict _=>by simp [gN]
theorem iG:∀ ds:List PyData,ds.length≤bT ds
 | []=>Nat.le_refl _
 | a::r=>by
  have:=nK a
  have:=iG r
  show r.length+1≤gN a+bT r
  omega
def la:PyData→PyData
 | .tuple (x::_)=>x
 | _=>.none
def qD:PyData→Int
 | .tuple (.tuple (.int q::_)::_)=>q
 | _=>0
def RA (d:PyData):Prop:=∃(p g:Int) (rows:List PyData),d=.tuple [.int p,.int g,.tuple rows]∧2≤p∧1≤g∧g<p∧CT 2 (p-1) 1 rows∧BQ p g (p-1) (rows.map qD)
inductive PP:PyData→Prop
 | mk (p g:Int) (rows:List PyData):RA (.tuple [.int p,.int g,.tuple rows])→(∀ r∈rows,PP (la r))→PP (.tuple [.int p,.int g,.tuple rows])
theorem gZ {w:Nat}:∀{rows:List PyData} {l t:Int},CT w l t rows→∀ r∈rows,∃(p g k:Int) (rs more:List PyData),r=.tuple (.tuple [.int p,.int g,.tuple rs]::.int k::more)∧2≤p∧1≤k∧more.length+2=w
 | d::ds,l,t,⟨_,p,g,k,rs,more,e1,e2,e3,e4,e5,r',e6,e7⟩,r,hr=>by
  rcases List.mem_cons.mp hr with z | z
  ·rw [z];exact⟨p,g,k,rs,more,e1,e3,e4,e2⟩
  ·exact gZ e7 r z
theorem Ay {w:Nat} {rows:List PyData} {l t:Int} (h:CT w l t rows):B5 rows (rows.map qD):=by
 refine⟨by rw [List.length_map],fun i row hi=>?_⟩
 obtain⟨p,g,k,rs,more,e,_⟩:=gZ h row (List.mem_of_getElem? hi)
 exact⟨p,by rw [List.getElem?_map,hi,e];rfl,[.int g,.tuple rs],.int k::more,e⟩
section
variable {P:Program} {w:World} {K:PySem.W.Frag} {mg:Str→Option Value} {base:Heap}
def CM (K:PySem.W.Frag):Sp:=fun vs H Q _=>∃ d v,vs=[v]∧dv K H d v∧pV d∧gN d≤10^6∧∀ b H',(b=true↔RA d)→aB H H'→Q (.bl b) H'
theorem d7:ay [("thing":Str),("p":Str),("full":Str),("parts":Str)] [("thing":Str)] (ak (top 26)):=⟨rfl,rfl,rfl,by decide +kernel,rfl,by decide +kernel,by decide +kernel⟩
theorem Cu (D:av K mg "is_right_above" (top 26)) (c_is_paper_form:Callee P w K mg base aK 2 "is_paper_form" ["thing"] (Bx K)) (c_come_to:Callee P w K mg base aK 4 "come_to" ["n","rows","width"] (CJ K)) (c_is_least:Callee P w K mg base aK 5 "is_least" ["n","a","e","primes"] (gw K)) (c_primes_in:Callee P w K mg base aK 1 "primes_in" ["parts"] (cM K)):Callee P w K mg base aK 6 "is_right_above" [("thing":Str)] (CM K):=by
 refine aw D (fun _ _ _ _ _ _ us hl=>match us,hl with | [_],_=>rfl) d7 (fun vs H Q E h=>by obtain⟨_,_,rfl,_⟩:=h;rfl) (fun f cdv A outer s H vs Q E hr h=>?_)
 obtain⟨d,v,rfl,hd,hs,hz,q⟩:=h
 have nd:=d7.nd
 refine⟨_,(ae (aY (fk (a9 (ai c_is_paper_form (hr.mono (by decide)) rfl aF (aa (pv 0) af)) (fun _=>rfl))) (aj (aC dS)) aH) (ae (cK (pv 0) (bQ (n:=3) rfl (aA (ax (i:=1) nd rfl (Or.inl rfl) (.inr rfl)) (aA (ax (i:=2) nd rfl (Or.inl rfl) (.inr rfl)) (aA (ax (i:=3) nd rfl (Or.inl rfl) (.inr rfl)) aT))))) (aj (aC (bP (pG pA dR ah (pv 2) (pv 1)) (bP (ai c_come_to (hr.mono (by decide)) rfl aF (aa (au cq (pv 1) ah) (aa (pv 3) (aa ah af)))) (cS (ai c_is_least (hr.mono (by decide)) rfl aF (aa (pv 1) (aa (pv 2) (aa (au cq (pv 1) ah) (aa (ai c_primes_in (hr.mono (by decide)) rfl aF (aa (pv 3) af)) af)))))))))))),?_⟩
 show br _ _ _ [some v,none,none,none] H
 k_data
 refine⟨d,v,rfl,hd,fun b hb=>⟨b,aU.mpr rfl,?_⟩⟩
 refine aP (fun c=>?_) (fun c=>?_)
 ·refine q false _ ⟨fun z=>(by cases z),fun⟨p,g,rows,e,p2,_⟩=>?_⟩ (aB.refl _)
  have:=hb.mpr ⟨p,g,rows,e,p2⟩
  rw [c] at this
  cases this
 ·obtain⟨p,g,rows,rfl,p2⟩:=hb.mp (by simpa using c)
  obtain⟨pa,x1,x2,x3,rfl,hS,e1,e2,e3⟩:=C2 hd
  cases e1
  cases e2
  refine⟨pa,_,rfl,hS,rfl,?_⟩
  k_data
  simp only [rB,xQ,tC,uB,List.getElem?_cons_zero,List.getElem?_cons_succ,Option.some.injEq,exists_eq_left',V.int.injEq,exists_and_left,V.bl.injEq]
  obtain⟨hp9,hrows⟩:p≤10^110∧fI rows:=by
   simp only [pV,fI,and_true] at hs
   exact⟨hs.1,hs.2.2⟩
  have hzr:bT rows≤10^6:=by
   simp only [gN,bT] at hz
   omega
  have no:∀{b:Bool},b=false→¬RA (.tuple [.int p,.int g,.tuple rows])→(b=true↔RA (.tuple [.int p,.int g,.tuple rows])):=fun e n=>⟨fun z=>(by rw [e] at z;cases z),fun z=>absurd z n⟩
  refine aP (fun c1=>?_) (fun c1=>?_)
  ·refine aP (fun c2=>?_) (fun c2=>?_)
   ·have g1:1≤g:=of_decide_eq_true c1
    have g2:g<p:=of_decide_eq_true c2
    refine⟨p-1,rows,x3,2,rfl,by decide,by omega,e3,fun p' g' k' rs more hm=>?_,fun b1 hb1=>⟨b1,rfl,?_⟩⟩
    ·have:=eX hrows hm
     simp only [pV,fI] at this
     exact this.1.1
    refine aP (fun c3=>?_) (fun c3=>?_)
    ·have hct:=hb1.mp c3
     have hh:=Ay hct
     have rl:rows.length≤10^6:=Nat.le_trans (iG rows) hzr
     refine⟨x3,rows,rows.map qD,rfl,e3,hh,rl,fun pq H1 s1 f1 h1=>?_⟩
     refine⟨p,g,p-1,pq,rows.map qD,rfl,by omega,by omega,by omega,by omega,aX.of h1,fun y hy=>?_,by rw [List.length_map];exact rl,fun b2 H2 hb2 s2=>?_⟩
     ·obtain⟨r,hr',rfl⟩:=List.mem_map.mp hy
      obtain⟨p',g',k',rs,more,e,h2,_⟩:=gZ hct r hr'
      have:=eX hrows hr'
      rw [e] at this ⊢
      simp only [pV,fI] at this
      show 0<p'∧p'≤_
      omega
     ·refine q b2 H2 (hb2.trans ⟨fun z=>⟨p,g,rows,rfl,p2,g1,g2,hct,z⟩,fun⟨p',g',rows',e,_,_,_,_,z⟩=>?_⟩) (s1.trans s2)
      cases e
      exact z
    ·refine q false _ (no rfl fun⟨p',g',rows',e,_,_,_,z,_⟩=>?_) (aB.refl _)
     cases e
     exact c3 (hb1.mpr z)
   ·refine q false _ (no rfl fun⟨p',g',rows',e,_,_,z,_⟩=>?_) (aB.refl _)
    cases e
    exact c2 (decide_eq_true z)
  ·refine q false _ (no rfl fun⟨p',g',rows',e,_,z,_⟩=>?_) (aB.refl _)
   cases e
   exact c1 (decide_eq_true z)
theorem oG {H:Hp}:∀{ds:List PyData} {us:List V},aM K H ds us→ds≠[]→∃ ds' d us' u,ds=ds'++[d]∧us=us'++[u]∧aM K H ds' us'∧dv K H d u
 | [d],us,⟨x,r,e,h,t⟩,_=>by
  cases t
  exact⟨[],d,[],x,rfl,e,rfl,h⟩
 | d::d2::ds,us,⟨x,r,e,h,t⟩,_=>by
  obtain⟨ds',d',us',u,e1,e2,h1,h2⟩:=oG t (by simp)
  exact⟨d::ds',d',x::us',u,by rw [e1];rfl,by rw [e,e2];rfl,⟨x,us',rfl,h,h1⟩,h2⟩
theorem kT:∀ rows:List PyData,bT (rows.map la)≤bT rows
 | []=>Nat.le_refl _
 | a::r=>by
  have h1:=kT r
  have h2:gN (la a)≤gN a:=by
   match a with
   | .tuple (x::xs) =>
    show gN x≤1+(gN x+bT xs)
    omega
   | .tuple []=>exact Nat.le_refl _
   | .list ds=>exact nK (.list ds)
   | .none=>exact Nat.le_refl _
   | .bool _=>exact Nat.le_refl _
   | .int _=>exact Nat.le_refl _
   | .str _=>exact Nat.le_refl _
   | .dict ds=>exact nK (.dict ds)
  show gN (la a)+bT (r.map la)≤gN a+bT r
  omega
def Aa (K:PySem.W.Frag):Sp:=fun vs H Q _=>∃(p:Addr) (ds:List PyData) (us:List V),vs=[.ref p]∧(aX K H p us∨bC K H p us)∧aM K H ds us∧fI ds∧bT ds≤10^6∧∀ b H',(b=true↔∀ d∈ds,PP d)→aB H H'→Q (.bl b) H'
theorem df:ay [("things":Str),("waiting":Str),("paper":Str)] [("things":Str)] (ak (top 25)):=⟨rfl,rfl,rfl,by decide +kernel,rfl,by decide +kernel,by decide +kernel⟩
theorem A6 (D:av K mg "are_prime_papers" (top 25)) (c_is_right_above:Callee P w K mg base aK 6 "is_right_above" ["thing"] (CM K)) (n_list:mg "list"=none):Callee P w K mg base aK 7 "are_prime_papers" [("things":Str)] (Aa K):=by
 refine aw D (fun _ _ _ _ _ _ us hl=>match us,hl with | [_],_=>rfl) df (fun vs H Q E h=>by obtain⟨_,_,_,rfl,_⟩:=h;rfl) (fun f cdv A outer s H vs Q E hr h=>?_)
 obtain⟨p,ds0,us0,rfl,hS,hd0,hsm0,hsz0,q⟩:=h
 have nd:=df.nd
 refine⟨_,(ae (ar (i:=1) nd rfl (Or.inl rfl) (bW mC rfl n_list L2.boot_list (aa (pv 0) af))) (ae (aV PassesOwn.never (a9 (pv 1) (fun _=>rfl)) (ae (ar (i:=2) nd rfl (Or.inl rfl) (Bi PySem.F.plainAttrs_list PySem.F.slot_list_pop PySem.F.type_list_pop AW (pv 1))) (ae (aY (fk (a9 (ai c_is_right_above (hr.mono (by decide)) rfl aF (aa (pv 2) af)) (fun _=>rfl))) (aj (aC dS)) aH) (aj (c5 (kq PySem.F.plainAttrs_list PySem.F.slot_list_extend PySem.F.type_list_extend ub (pv 1) (aa (dW rfl (cm (N':=["row"]) (js:=[none]) rfl rfl (by decide +kernel) (by decide +kernel) (by repeat (first | exact True.intro | refine⟨rfl,?_⟩)) (by repeat (first | exact True.intro | refine⟨rfl,?_⟩ | refine⟨True.intro,?_⟩)) (by repeat (first | exact True.intro | refine⟨⟨rfl,rfl,.inl rfl,.inl rfl⟩,?_⟩))) (fO (aL aR (pv 2) ah (fun _ _=>rfl))) (fun _ _ _ _=>(ax (i:=0) (show List.Nodup [("row":Str)] from by decide +kernel) rfl (Or.inl rfl) (.inr rfl))) (fun _ _ _ _=>bG) (fun _ _ _ _=>(aL (bK K rfl) (pv 0) ah (fun _ _=>rfl)))) af))))))) (aj (aC dS)))),?_⟩
 show br _ _ _ [some (.ref p),none,none] H
 k_data
 refine⟨us0,hS,fun pw hpw=>?_⟩
 refine aW (α:=List PyData × List V × Option V) (fun x=>[some (.ref p),some (.ref pw),x.2.2]) (fun x H1=>aB H H1∧H1 pw=some (.lst x.2.1)∧aM K H x.1 x.2.1∧fI x.1∧bT x.1≤10^6∧((∀ d∈ds0,PP d)↔∀ d∈x.1,PP d)) (fun x=>bT x.1) (ds0,us0,none) rfl ⟨ao hpw,ag,hd0,hsm0,hsz0,Iff.rfl⟩ ?_
 rintro⟨ds,us,o⟩ H1 ⟨s1,h1,hd,hsm,hsz,hPP⟩
 replace h1:H1 pw=some (.lst us):=h1
 replace hd:aM K H ds us:=hd
 replace hsm:fI ds:=hsm
 replace hsz:bT ds≤10^6:=hsz
 replace hPP:(∀ d∈ds0,PP d)↔∀ d∈ds,PP d:=hPP
 k_data
 refine⟨!us.isEmpty,.inl ⟨us,aX.of h1,rfl⟩,?_⟩
 by_cases hne:ds=[]
 ·subst hne
  have hu:us=[]:=hd
  subst hu
  rw [if_neg (by simp)]
  exact q true H1 ⟨fun _=>hPP.mpr fun d z=>by simp at z,fun _=>rfl⟩ s1
 obtain⟨ds',d,us',u,rfl,rfl,hd',hdu⟩:=oG hd hne
 rw [if_pos (by simp)]
 have smd:pV d:=eX hsm (by simp)
 have szd:bT (ds'++[d])=bT ds'+gN d:=by
  rw [iF]
  show bT ds'+(gN d+0)=_
  omega
 refine⟨_,fun _ _ z=>z,.inl ⟨rfl,_,aX.of h1⟩,pw,us'++[u],u,rfl,rfl,h1,by simp,?_⟩
 rw [List.dropLast_concat]
 have S2:=s1.upd (o:=.lst us') hpw
 have e2:upd H1 pw (.lst us') pw=some (.lst us'):=ag
 generalize upd H1 pw _=H2 at *
 refine⟨d,u,rfl,dv.same S2 _ hdu,smd,by omega,fun b H3 hb s3=>⟨b,aU.mpr rfl,?_⟩⟩
 have S3:=S2.trans s3
 have e3:=s3 _ _ e2
 refine aP (fun c=>?_) (fun c=>?_)
 ·refine q false H3 ⟨fun z=>(by cases z),fun z=>?_⟩ S3
  have hp:=hPP.mp z d (by simp)
  cases hp with
  | mk _ _ _ hra _ =>
   have:=hb.mpr hra
   rw [c] at this
   cases this
 ·have hra:=hb.mp (by simpa using c)
  obtain⟨p',g,rows,rfl,p2,g1,g2,hct,hlst⟩:=hra
  have hra:=hb.mp (by simpa using c)
  obtain⟨pa,x1,x2,x3,rfl,hSu,f1,f2,f3⟩:=C2 hdu
  obtain⟨pr,xs,rfl,hSr,hdr⟩:=f3
  have xl:=hdr.length
  have szr:bT rows<gN (.tuple [.int p',.int g,.tuple rows]):=by
   simp only [gN,bT]
   omega
  have rl:=iG rows
  refine⟨.inl ⟨rfl,_,aX.of e3⟩,bp (hSu.same S3) rfl ⟨pr,rfl,⟨_,hSr.same S3⟩,?_⟩⟩
  refine dy (xs:=xs) (fun i zs H4=>H4=H3∧aM K H ((rows.take i).map la) zs) ⟨rfl,rfl⟩ (Nat.le_trans (show xs.length≤10^6 by omega) (by decide)) (fun i zs H4 hi ⟨z1,z2⟩=>⟨by rw [z1];exact hSr.same S3,by rw [z2.length,List.length_map,List.length_take];omega⟩) ?_ ?_
  ·rintro i x zs H4 hx ⟨rfl,hz⟩
   obtain⟨r,hr',hv⟩:=hdr.get hx
   obtain⟨p4,g4,k4,rs,more,rfl,_⟩:=gZ hct r (List.mem_of_getElem? hr')
   obtain⟨a1,y1,rfl,t1,u1,r1,rfl,hv2,_⟩:=hv
   show cF 0 _ [none] _ _
   k_data
   refine⟨True.intro,bp (t1.same S3) iO ⟨rfl,?_⟩⟩
   rw [List.take_add_one,hr',List.map_append]
   exact aM.append hz (.one hv2)
  ·rintro zs H4 p4 ⟨rfl,hz⟩ hp4
   rw [show xs.length=rows.length by omega,List.take_length] at hz
   have zl:zs.length=rows.length:=by rw [hz.length,List.length_map]
   have s5:=ao (o:=.lst zs) hp4
   have e5:upd H4 p4 (.lst zs) p4=some (.lst zs):=ag
   have e6:=s5 _ _ e3
   have S5:=S3.trans s5
   generalize upd H4 p4 _=H5 at *
   have ul:=hd'.length
   have dl:=iG ds'
   refine⟨pw,p4,us',zs,rfl,rfl,e6,e5,Nat.le_trans (show us'.length+zs.length≤10^6 by omega) (by decide),(ds'++rows.map la,us'++zs,some (.ref pa)),rfl,S5.upd hpw,ag,aM.append hd' hz,?_,?_,?_,?_⟩
   ·refine nA fun x hx=>?_
    rcases List.mem_append.mp hx with z | z
    ·exact eX hsm (List.mem_append.mpr (.inl z))
    ·obtain⟨r,hr',rfl⟩:=List.mem_map.mp z
     obtain⟨p4,g4,k4,rs,more,rfl,_⟩:=gZ hct r hr'
     simp only [pV,fI] at smd
     have:=eX smd.2.2.1 hr'
     simp only [pV,fI] at this
     simp only [la,pV,fI]
     exact this.1
   ·show bT (ds'++rows.map la)≤_
    rw [iF]
    have:=kT rows
    omega
   ·rw [hPP]
    constructor
    ·intro z x hx
     rcases List.mem_append.mp hx with y | y
     ·exact z x (List.mem_append.mpr (.inl y))
     ·obtain⟨r,hr',rfl⟩:=List.mem_map.mp y
      have hp:=z (.tuple [.int p',.int g,.tuple rows]) (by simp)
      cases hp with
      | mk _ _ _ _ h=>exact h r hr'
    ·intro z x hx
     rcases List.mem_append.mp hx with y | y
     ·exact z x (List.mem_append.mpr (.inl y))
     ·rw [List.mem_singleton.mp y]
      exact .mk p' g rows hra fun r hr'=>z _ (List.mem_append.mpr (.inr (List.mem_map.mpr ⟨r,hr',rfl⟩)))
   ·show bT (ds'++rows.map la)<_
    rw [iF,szd]
    have:=kT rows
    omega
def CK (K:PySem.W.Frag):Sp:=fun vs H Q _=>∃ d v,vs=[v]∧dv K H d v∧pV d∧gN d≤10^6∧∀ b H',(b=true↔PP d)→aB H H'→Q (.bl b) H'
theorem d6:ay [("thing":Str)] [("thing":Str)] (ak (top 23)):=⟨rfl,rfl,rfl,by decide +kernel,rfl,by decide +kernel,by decide +kernel⟩
theorem Ct (D:av K mg "is_prime_paper" (top 23)) (c_are_prime_papers:Callee P w K mg base aK 7 "are_prime_papers" ["things"] (Aa K)):Callee P w K mg base aK 8 "is_prime_paper" [("thing":Str)] (CK K):=by
 refine aw D (fun _ _ _ _ _ _ us hl=>match us,hl with | [_],_=>rfl) d6 (fun vs H Q E h=>by obtain⟨_,_,rfl,_⟩:=h;rfl) (fun f cdv A outer s H vs Q E hr h=>?_)
 obtain⟨d,v,rfl,hd,hs,hz,q⟩:=h
 have nd:=d6.nd
 refine⟨_,(aj (aC (ai c_are_prime_papers (hr.mono (by decide)) rfl aF (aa (dG (aa (pv 0) af)) af)))),?_⟩
 show eY _ _ [some v] H
 k_data
 refine⟨by show 1≤sizeLine;decide,fun pl hpl=>?_⟩
 have s1:=ao (o:=.lst [v]) hpl
 refine⟨pl,[d],[v],rfl,.inl (aX.of ag),.one (dv.same s1 _ hd),⟨hs,True.intro⟩,by show gN d+0≤_;omega,fun b H' hb s2=>?_⟩
 exact q b H' (hb.trans ⟨fun z=>z d (by simp),fun z x hx=>by rw [List.mem_singleton.mp hx];exact z⟩) (s1.trans s2)
end
end K
namespace K
open PySem PySem.Spec PyProof.Rows L2
theorem dX {p:Int × Int} {ps:List (Int × Int)} {ds:Nat→PyData}:Num.rowsOf (p::ps) ds=.tuple [ds 0,.int p.2]::Num.rowsOf ps (fun i=>ds (i+1)):=by
 unfold Num.rowsOf
 rw [List.length_cons,List.range_succ_eq_map,List.map_cons,List.map_map]
 rfl
theorem pJ:∀{ps:List (Int × Int)},(∀ p∈ps,2≤p.1)→1≤Num.bH ps
 | [],_=>Int.le_refl _
 | p::ps,h=>by
  have h1:=pJ (ps:=ps) fun q hq=>h q (List.mem_cons_of_mem _ hq)
  have h2:=Num.bh (show 0<p.1 by have:=h p (by simp);omega) p.2.toNat
  have:=Int.mul_pos h2 (show 0<Num.bH ps by omega)
  show 1≤p.1^p.2.toNat*Num.bH ps
  omega
theorem zM:∀{ps:List (Int × Int)} {ds:Nat→PyData} {t:Int},(∀ p∈ps,2≤p.1∧1≤p.2∧t<p.1)→ps.Pairwise (fun a b=>a.1<b.1)→(∀ i q k,ps[i]?=some (q,k)→∃ g rows,ds i=.tuple [.int q,.int g,.tuple rows])→CT 2 (Num.bH ps) t (Num.rowsOf ps ds)
 | [],_,_,_,_,_=>rfl
 | p::ps,ds,t,h,hw,hd=>by
  rw [dX]
  obtain⟨g,rows,e⟩:=hd 0 p.1 p.2 rfl
  obtain⟨p2,k1,tp⟩:=h p (by simp)
  obtain⟨w1,w2⟩:=List.pairwise_cons.mp hw
  refine⟨pJ fun q hq=>(h q hq).1,p.1,g,p.2,rows,[],by rw [e],rfl,p2,k1,tp,Num.bH ps,.inl ⟨⟨_,rfl⟩,rfl⟩,?_⟩
  exact zM (fun q hq=>⟨(h q (List.mem_cons_of_mem _ hq)).1,(h q (List.mem_cons_of_mem _ hq)).2.1,w1 q hq⟩) w2 fun i q k hi=>hd (i+1) q k (by simpa using hi)
theorem yY {n:Int} {ps:List (Int × Int)} {ds:Nat→PyData} (h:Num.Part n ps) (hd:∀ i q k,ps[i]?=some (q,k)→Num.gA q (ds i)):CT 2 n 1 (Num.rowsOf ps ds):=by
 have:=zM (t:=1) (ds:=ds) (fun p hp=>⟨(h.ok p hp).1.two,(h.ok p hp).2.1,by have:=(h.ok p hp).1.two;omega⟩) h.rise fun i q k hi=>(hd i q k hi).head
 rwa [h.prod] at this
theorem wV:∀{ps:List (Int × Int)} {ds:Nat→PyData},(∀ i q k,ps[i]?=some (q,k)→∃ g rows,ds i=.tuple [.int q,.int g,.tuple rows])→(Num.rowsOf ps ds).map qD=ps.map (·.1)
 | [],_,_=>rfl
 | p::ps,ds,hd=>by
  rw [dX]
  obtain⟨g,rows,e⟩:=hd 0 p.1 p.2 rfl
  rw [List.map_cons,List.map_cons,wV fun i q k hi=>hd (i+1) q k (by simpa using hi),e]
  rfl
theorem fR {ps:List (Int × Int)} {ds:Nat→PyData} {r:PyData} (h:r∈Num.rowsOf ps ds):∃ i q k,ps[i]?=some (q,k)∧r=.tuple [ds i,.int k]:=by
 unfold Num.rowsOf at h
 obtain⟨i,hi,e⟩:=List.mem_map.mp h
 have hi':=List.mem_range.mp hi
 have g:=List.getElem?_eq_getElem hi'
 refine⟨i,ps[i].1,ps[i].2,g,?_⟩
 rw [← e,List.getD_eq_getElem?_getD,g]
 rfl
theorem wQ {n a:Int} {ps:List (Int × Int)} {ds:Nat→PyData} (n2:2≤n) (h:Num.Part (n-1) ps) (hd:∀ i q k,ps[i]?=some (q,k)→Num.gA q (ds i)):RA (.tuple [.int n,.int a,.tuple (Num.rowsOf ps ds)])↔1≤a∧a<n∧Num.Ord n a (n-1).toNat:=by
 have hq:=wV (ps:=ps) (ds:=ds) fun i q k hi=>(hd i q k hi).head
 constructor
 ·rintro⟨p,g,rows,e,p2,g1,g2,c,l⟩
  cases e
  rw [hq,jF n2 h (by omega)] at l
  exact⟨g1,g2,l⟩
 ·rintro⟨a1,a2,o⟩
  exact⟨n,a,_,rfl,n2,a1,a2,yY h hd,by rw [hq,jF n2 h (by omega)];exact o⟩
theorem Bc {n:Int} {d:PyData} (h:Num.gA n d):PP d:=by
 induction h with
 | mk p g ps ds hp h9 hl hP hn hds ih =>
  refine .mk p g _ ((wQ hp.two hP hds).mpr ⟨hl.one,hl.lt,hl.ord⟩) fun r hr=>?_
  obtain⟨i,q,k,hi,rfl⟩:=fR hr
  exact ih i q k hi
theorem Bo {n a:Int} {ps:List (Int × Int)} {ds:Nat→PyData} (n2:2≤n) (h:Num.Part (n-1) ps) (hd:∀ i q k,ps[i]?=some (q,k)→Num.gA q (ds i)):PP (.tuple [.int n,.int a,.tuple (Num.rowsOf ps ds)])↔1≤a∧a<n∧Num.Ord n a (n-1).toNat:=by
 rw [← wQ n2 h hd]
 constructor
 ·intro z
  cases z with
  | mk _ _ _ h1 _=>exact h1
 ·intro z
  refine .mk n a _ z fun r hr=>?_
  obtain⟨i,q,k,hi,rfl⟩:=fR hr
  exact Bc (hd i q k hi)
theorem Be {n:Int} {d:PyData} (h:Num.gA n d):pV d:=by
 induction h with
 | mk p g ps ds hp h9 hl hP hn hds ih =>
  have:=hl.lt
  simp only [pV,fI,and_true]
  refine⟨by omega,by omega,nA fun r hr=>?_⟩
  obtain⟨i,q,k,hi,rfl⟩:=fR hr
  have hk:=(hP.ok _ (List.mem_of_getElem? hi)).2.2
  simp only [pV,fI,and_true]
  exact⟨ih i q k hi,by show k≤_;have:k≤30:=hk;omega⟩
theorem sA:∀{ps:List (Int × Int)} {ds:Nat→PyData},(∀ p∈ps,2≤p.1∧1≤p.2)→(∀ i q k,ps[i]?=some (q,k)→2^(gN (ds i)+2)≤q.natAbs^12)→2^bT (Num.rowsOf ps ds)≤(Num.bH ps).natAbs^12
 | [],_,_,_=>by show 2^0≤1^12;decide
 | p::ps,ds,h,hd=>by
  rw [dX]
  have h1:=hd 0 p.1 p.2 rfl
  have h2:=sA (ps:=ps) (ds:=fun i=>ds (i+1)) (fun q hq=>h q (List.mem_cons_of_mem _ hq)) fun i q k hi=>hd (i+1) q k (by simpa using hi)
  obtain⟨p2,k1⟩:=h p (by simp)
  have e:bT (.tuple [ds 0,.int p.2]::Num.rowsOf ps (fun i=>ds (i+1)))=(gN (ds 0)+2)+bT (Num.rowsOf ps (fun i=>ds (i+1))):=by
   simp only [bT,gN]
   omega
  rw [e,Nat.pow_add]
  have h3:=Nat.mul_le_mul h1 h2
  rw [← Nat.mul_pow] at h3
  refine Nat.le_trans h3 (Nat.pow_le_pow_left ?_ 12)
  show _≤(p.1^p.2.toNat*Num.bH ps).natAbs
  rw [Int.natAbs_mul,Int.natAbs_pow]
  exact Nat.mul_le_mul_right _ (Nat.le_self_pow (by omega) _)
theorem Bf {n:Int} {d:PyData} (h:Num.gA n d):2^(gN d+2)≤n.natAbs^12∧(n=2→gN d=4):=by
 induction h with
 | mk p g ps ds hp h9 hl hP hn hds ih =>
  have p2:=hp.two
  have esz:gN (.tuple [.int p,.int g,.tuple (Num.rowsOf ps ds)])=4+bT (Num.rowsOf ps ds):=by
   simp only [gN,bT]
   omega
  have nil2:p=2→ps=[]:=fun e=>by
   cases ps with
   | nil=>rfl
   | cons x r =>
    exfalso
    obtain⟨o1,o2,_⟩:=hP.ok x (by simp)
    have:=Num.cE (ps:=x::r) (p:=x) (by simp) o2
    rw [hP.prod,e] at this
    have:=Int.le_of_dvd (by decide) this
    have:=o1.two
    omega
  refine⟨?_,fun e=>by rw [esz,nil2 e];rfl⟩
  rw [esz]
  by_cases c:p=2
  ·rw [nil2 c,c]
   show 2^(4+0+2)≤2^12
   decide
  ·have podd:p%2=1:=by
    rcases (by omega:p%2=1∨p%2=0) with z | z
    ·exact z
    ·exact absurd (Int.dvd_of_emod_eq_zero z) (hp.no 2 (by decide) (by omega))
   have pm2:Num.Pm 2:=⟨by decide,fun d d2 dn=>by omega⟩
   obtain⟨x,hx,ex⟩:=Num.cG pm2 (fun x z=>(hP.ok x z).1) (by rw [hP.prod];exact⟨(p-1)/2,by omega⟩)
   cases ps with
   | nil=>simp at hx
   | cons y r =>
    have ey:y.1=2:=by
     have:=(hP.ok y (by simp)).1.two
     rcases List.mem_cons.mp hx with z | z
     ·rw [← z];exact ex
     ·have:=(List.pairwise_cons.mp hP.rise).1 x z
      omega
    have s0:=(ih 0 y.1 y.2 rfl).2 ey
    have hr:=sA (ps:=r) (ds:=fun i=>ds (i+1)) (fun q hq=>⟨(hP.ok q (List.mem_cons_of_mem _ hq)).1.two,(hP.ok q (List.mem_cons_of_mem _ hq)).2.1⟩) fun i q k hi=>(ih (i+1) q k (by simpa using hi)).1
    rw [dX]
    have e:4+bT (.tuple [ds 0,.int y.2]::Num.rowsOf r (fun i=>ds (i+1)))+2=12+bT (Num.rowsOf r (fun i=>ds (i+1))):=by
     simp only [bT,gN,s0]
     omega
    rw [e,Nat.pow_add]
    have h3:=Nat.mul_le_mul_left (2^12) hr
    rw [← Nat.mul_pow] at h3
    refine Nat.le_trans h3 (Nat.pow_le_pow_left ?_ 12)
    have hpr:Num.bH (y::r)=p-1:=hP.prod
    have k1:=(hP.ok y (by simp)).2.1
    have:(Num.bH (y::r)).natAbs=2^y.2.toNat*(Num.bH r).natAbs:=by
     show (y.1^y.2.toNat*Num.bH r).natAbs=_
     rw [Int.natAbs_mul,Int.natAbs_pow,ey]
     rfl
    rw [hpr] at this
    have h5:2*(Num.bH r).natAbs≤2^y.2.toNat*(Num.bH r).natAbs:=Nat.mul_le_mul_right _ (Nat.le_self_pow (by omega) _)
    omega
theorem uq {n:Int} {d:PyData} (h:Num.gA n d):gN d≤358:=by
 have h1:=(Bf h).1
 have h9:n≤10^9∧2≤n:=by
  cases h with
  | mk _ _ _ _ a b=>exact⟨b,a.two⟩
 have e30:(2:Nat)^30=1073741824:=by decide
 have h2:n.natAbs^12≤(2^30)^12:=Nat.pow_le_pow_left (show n.natAbs≤2^30 by omega) 12
 rw [← Nat.pow_mul] at h2
 have:=(Nat.pow_le_pow_iff_right (by decide:1<2)).mp (Nat.le_trans h1 h2)
 omega
end K
namespace K
open PySem PySem.Spec PyProof.Rows L2
section
variable {P:Program} {w:World} {K:PySem.W.Frag} {mg:Str→Option Value} {base:Heap}
theorem yb {p a:Int} {e:Nat} (hp:Num.Pm p) (h:Num.Ord p a e):e∣(p-1).toNat:=by
 refine h.dv _ (Num.gP hp fun z=>?_)
 have h0:Num.Al p (a^e) 0:=by
  obtain⟨k,hk⟩:∃ k,e=k+1:=⟨e-1,by have:=h.pos;omega⟩
  rw [hk,Int.pow_succ]
  show p∣a^k*a-0
  rw [Int.sub_zero]
  exact Int.dvd_mul_of_dvd_right z
 exact hp.rZ (h0.symm.trans h.one)
theorem vK {p a e:Int} {ps:List (Int × Int)} (hp:Num.Pm p) (h:Num.Part (p-1) ps) (he:1≤e) (hd:e∣p-1):BQ p a e ((ps.map (·.1)).filter fun q=>decide (e%q=0))↔Num.Ord p a e.toNat:=by
 have p2:=hp.two
 constructor
 ·rintro⟨h1,h2⟩
  refine Num.wx (by omega) ((bZ p2).mp h1) fun q hq hq' z=>?_
  have hd':(q:Int)∣e:=by
   have:=Int.natCast_dvd_natCast.mpr hq'
   rwa [show (e.toNat:Int)=e by omega] at this
  obtain⟨x,hx,ex⟩:=Num.cG (Num.zY hq) (fun x z=>(h.ok x z).1) (by rw [h.prod];exact Int.dvd_trans hd' hd)
  refine h2 q (List.mem_filter.mpr ⟨List.mem_map.mpr ⟨x,hx,ex⟩,decide_eq_true (Int.emod_eq_zero_of_dvd hd')⟩) ((bZ p2).mpr ?_)
  rwa [show (e/(q:Int)).toNat=e.toNat/q by
   have:e/(q:Int)=((e.toNat/q:Nat):Int):=by rw [Int.natCast_ediv];congr 1;omega
   rw [this,Int.toNat_natCast]]
 ·intro h1
  refine⟨(bZ p2).mpr h1.one,fun q hq z=>?_⟩
  obtain⟨m1,m2⟩:=List.mem_filter.mp hq
  obtain⟨x,hx,rfl⟩:=List.mem_map.mp m1
  obtain⟨o1,o2,_⟩:=h.ok x hx
  have d:x.1∣e:=Int.dvd_of_emod_eq_zero (of_decide_eq_true m2)
  have t:=o1.two
  refine h1.DO (Num.oW o1) (by
   have:(x.1.toNat:Int)∣(e.toNat:Int):=by rw [show (x.1.toNat:Int)=x.1 by omega,show (e.toNat:Int)=e by omega];exact d
   exact Int.natCast_dvd_natCast.mp this) ?_
  rw [show e.toNat/x.1.toNat=(e/x.1).toNat by
   have:e/x.1=((e.toNat/x.1.toNat:Nat):Int):=by rw [Int.natCast_ediv];congr 1<;>omega
   rw [this,Int.toNat_natCast]]
  exact (bZ p2).mp z
def i3 (K:PySem.W.Frag):Sp:=fun vs H Q _=>∃(v:V) (p a e:Int) (g:PyData) (rows:List PyData) (ps:List (Int × Int)),vs=[v,.int a,.int e]∧dv K H (.tuple [.int p,g,.tuple rows]) v∧B5 rows (ps.map (·.1))∧Num.Pm p∧Num.Part (p-1) ps∧p≤10^100∧ps.length≤10^5 ∧ -(10^100)≤e∧e≤10^100∧∀ b H',(b=true↔1≤e∧Num.Ord p a e.toNat)→aB H H'→Q (.bl b) H'
theorem jk:ay [("paper":Str),("a":Str),("e":Str),("p":Str),("full":Str),("parts":Str)] [("paper":Str),("a":Str),("e":Str)] (ak (top 24)):=⟨rfl,rfl,rfl,by decide +kernel,rfl,by decide +kernel,by decide +kernel⟩
theorem qR (D:av K mg "is_order" (top 24)) (c_is_least:Callee P w K mg base aK 5 "is_least" ["n","a","e","primes"] (gw K)) (c_primes_in:Callee P w K mg base aK 1 "primes_in" ["parts"] (cM K)):Callee P w K mg base aK 6 "is_order" [("paper":Str),("a":Str),("e":Str)] (i3 K):=by
 refine aw D (fun _ _ _ _ _ _ us hl=>match us,hl with | [_,_,_],_=>rfl) jk (fun vs H Q E h=>by obtain⟨_,_,_,_,_,_,_,rfl,_⟩:=h;rfl) (fun f cdv A outer s H vs Q E hr h=>?_)
 obtain⟨v,p,a,e,g,rows,ps,rfl,hd,hq,hp,hP,p1,hl,e0,e1,q⟩:=h
 have p2:=hp.two
 obtain⟨pa,xs,rfl,hS,x0,r0,rfl,d0,vg,r1,rfl,dg,vr,r2,rfl,dr,z⟩:=hd
 cases z
 cases d0
 have nd:=jk.nd
 refine⟨_,(ae (cK (pv 0) (bQ (n:=3) rfl (aA (ax (i:=3) nd rfl (Or.inl rfl) (.inr rfl)) (aA (ax (i:=4) nd rfl (Or.inl rfl) (.inr rfl)) (aA (ax (i:=5) nd rfl (Or.inl rfl) (.inr rfl)) aT))))) (ae (aY (PW.pt (pN (aD dR (pv 2) ah (aE _)) (nc (aD jg (au aI (au cq (pv 3) ah) (pv 2)) ah (aE _))))) (aj (aC dS)) aH) (aj (aC (ai c_is_least (hr.mono (by decide)) rfl aF (aa (pv 3) (aa (pv 1) (aa (pv 2) (aa (dW rfl (cm (N':=["prime","e"]) (js:=[none,some 2]) rfl rfl (by decide +kernel) (by decide +kernel) (by repeat (first | exact True.intro | refine⟨rfl,?_⟩)) (by repeat (first | exact True.intro | refine⟨rfl,?_⟩ | refine⟨True.intro,?_⟩)) (by repeat (first | exact True.intro | refine⟨⟨rfl,rfl,.inl rfl,.inl rfl⟩,?_⟩))) (b9 (ai c_primes_in (hr.mono (by decide)) rfl aF (aa (pv 5) af))) (fun _ _ _ _=>(ax (i:=0) (show List.Nodup [("prime":Str),("e":Str)] from by decide +kernel) rfl (Or.inl rfl) (.inr rfl))) (fun _ _ _ _=>(kB (aD bO (au aI (pv 1) (pv 0)) ah (aE _)))) (fun _ _ _ _=>(pv 0))) af))))))))),?_⟩
 show br _ _ _ [some (.ref pa),some (.int a),some (.int e),none,none,none] H
 k_data
 refine⟨pa,_,rfl,hS,rfl,?_⟩
 k_data
 refine aP (fun c=>?_) (fun c=>?_)
 ·exact q false _ ⟨fun z=>(by cases z),fun z=>absurd z.1 (by omega)⟩ (aB.refl _)
 refine⟨by omega,?_⟩
 refine aP (fun c2=>?_) (fun c2=>?_)
 ·refine q false _ ⟨fun z=>(by cases z),fun z=>?_⟩ (aB.refl _)
  have h1:=Int.natCast_dvd_natCast.mpr (yb hp z.2)
  rw [show (e.toNat:Int)=e by omega,show ((p-1).toNat:Int)=p-1 by omega] at h1
  exact absurd (Int.emod_eq_zero_of_dvd h1) (by simpa using c2)
 refine⟨vr,rows,ps.map (·.1),rfl,dr,hq,by rw [hq.1,List.length_map];omega,fun pq H1 s1 f1 h1=>⟨pq,rfl,⟨_,aX.of h1⟩,?_⟩⟩
 have d0:e∣p-1:=Int.dvd_of_emod_eq_zero (by simpa using c2)
 refine bR (xs:=(ps.map (·.1)).map V.int) (fun i zs H3=>H3=H1∧zs=(((ps.map (·.1)).take i).filter fun q=>decide (e%q=0)).map V.int) ⟨rfl,rfl⟩ (by rw [List.length_map,List.length_map];exact Nat.le_trans hl (by decide)) (fun i zs H3 hi ⟨z1,z2⟩=>⟨by rw [z1];exact aX.of h1,by rw [z2,List.length_map];exact Nat.le_trans (List.length_filter_le _ _) (by rw [List.length_take];omega)⟩) ?_ ?_
 ·rintro i x zs H3 hx ⟨rfl,rfl⟩
  rw [List.getElem?_map] at hx
  obtain⟨y,hy,rfl⟩:=Option.map_eq_some_iff.mp hx
  have my:=jH hP (by omega) y (List.mem_of_getElem? hy)
  show cF 0 _ [none,some (.int e)] _ _
  k_data
  refine⟨⟨rfl,True.intro⟩,by omega,?_⟩
  rw [List.take_add_one,hy,List.filter_append]
  refine aP (fun c3=>?_) (fun c3=>?_)
  ·simp [c3]
  ·simp [c3]
 ·rintro zs H3 p3 ⟨rfl,rfl⟩ hp3
  rw [List.length_map,List.take_length]
  refine⟨p,a,e,p3,_,rfl,by omega,by omega,by omega,by omega,aX.of ag,fun y hy=>?_,?_,fun b H4 hb s4=>?_⟩
  ·have:=jH hP (by omega) y (List.mem_filter.mp hy).1
   omega
  ·exact Nat.le_trans (List.length_filter_le _ _) (by rw [List.length_map];omega)
  ·rw [vK hp hP (by omega) d0] at hb
   exact q b H4 (hb.trans ⟨fun z=>⟨by omega,z⟩,fun z=>z.2⟩) ((s1.trans (ao hp3)).trans s4)
end
end K
namespace K
open PySem PySem.Spec PyProof.Rows L2
section
variable {P:Program} {w:World} {K:PySem.W.Frag} {mg:Str→Option Value} {base:Heap}
mutual
def rD:Nat→PyData→Prop
 | 0,_=>False
 | _+1,.int _=>True
 | _+1,.str x=>PyData.canLay0 (.str x)=true
 | L+1,.list ds=>ds.length≤10^6∧rm L ds
 | L+1,.tuple ds=>ds.length≤10^6∧rm L ds
 | _+1,_=>False
def rm:Nat→List PyData→Prop
 | _,[]=>True
 | L,d::ds=>rD L d∧rm L ds
end
theorem wM:∀{L:Nat} {ds:List PyData} {i:Nat} {d:PyData},rm L ds→ds[i]?=some d→rD L d
 | L,[],i,d,_,h=>by simp at h
 | L,e::ds,0,d,h,z=>by
  simp only [rm] at h
  cases z
  exact h.1
 | L,e::ds,i+1,d,h,z=>by
  simp only [rm] at h
  exact wM h.2 (by simpa using z)
theorem lE:∀{ds:List PyData} {i:Nat} {d:PyData},PyData.canLayAll0 ds=true→ds[i]?=some d→d.canLay0=true
 | [],i,d,_,h=>by simp at h
 | e::ds,0,d,h,z=>by
  cases z
  have h':e.canLay0=true∧PyData.canLayAll0 ds=true:=by simpa [PyData.canLayAll0] using h
  exact h'.1
 | e::ds,i+1,d,h,z=>by
  have h':e.canLay0=true∧PyData.canLayAll0 ds=true:=by simpa [PyData.canLayAll0] using h
  exact lE h'.2 (by simpa using z)
def i4 (K:PySem.W.Frag) (L:Nat):Sp:=fun vs H Q _=>∃(u v:V) (d r:PyData),vs=[u,v]∧dv K H d u∧dv K H r v∧d.canLay0=true∧rD L r∧∀ b H',(b=true↔d=r)→aB H H'→Q (.bl b) H'
def sN (K:PySem.W.Frag) (L:Nat):Sp:=fun vs H Q _=>∃(k:Sd) (a c:Addr) (us vs':List V) (ds rs:List PyData),vs=[.ref a,.ref c]∧mw k K H a us∧mw k K H c vs'∧aM K H ds us∧aM K H rs vs'∧PyData.canLayAll0 ds=true∧rm L rs∧rs.length≤10^6∧∀ b H',(b=true↔ds=rs)→aB H H'→Q (.bl b) H'
theorem lr {k:Sd} {H H':Hp} {a:Addr} {xs:List V} (h:mw k K H a xs) (s:aB H H'):mw k K H' a xs:=by
 cases k
 ·exact aX.same h s
 ·exact bC.same h s
theorem Ck {k:Sd} {H:Hp} {a:Addr} {xs:List V} {Q:VK} (h:mw k K H a xs) (q:Q (.int xs.length) H):wN K [.ref a] H Q:=by
 cases k
 ·exact dQ h q
 ·exact mM h q
theorem ji:ay [("things":Str),("rights":Str)] [("things":Str),("rights":Str)] (ak (top 16)):=⟨rfl,rfl,rfl,by decide +kernel,rfl,by decide +kernel,by decide +kernel⟩
theorem v3 {L:Nat} (D:av K mg "are_just" (top 16)) (c_is_just:Callee P w K mg base aK (2*L+1) "is_just" ["thing","right"] (i4 K L)) (n_len:mg "len"=none) (n_zip:mg "zip"=none) (n_all:mg "all"=none):Callee P w K mg base aK (2*L+2) "are_just" [("things":Str),("rights":Str)] (sN K L):=by
 refine aw D (fun _ _ _ _ _ _ us hl=>match us,hl with | [_,_],_=>rfl) ji (fun vs H Q E h=>by obtain⟨_,_,_,_,_,_,_,rfl,_⟩:=h;rfl) (fun f cdv A outer s H vs Q E hr h=>?_)
 obtain⟨k,a,c,us,vs',ds,rs,rfl,hS,hR,dd,dr,cl,hr',hl,q⟩:=h
 have nd:=ji.nd
 refine⟨_,(aj (aC (bP (bL bO (aG bN rfl n_len PySem.boot_len (aa (pv 0) af)) (aG bN rfl n_len PySem.boot_len (aa (pv 1) af)) (aE _)) (cS (aG (nZ rfl) rfl n_all L2.boot_all (aa (dW rfl (cm (N':=["thing","right"]) (js:=[none,none]) rfl rfl (by decide +kernel) (by decide +kernel) (by repeat (first | exact True.intro | refine⟨rfl,?_⟩)) (by repeat (first | exact True.intro | refine⟨rfl,?_⟩ | refine⟨True.intro,?_⟩)) (by repeat (first | exact True.intro | refine⟨⟨rfl,rfl,.inl rfl,.inl rfl⟩,?_⟩))) (y9 rfl n_zip (aa (pv 0) (aa (pv 1) af))) (fun _ _ _ _=>(fj K rfl (n:=2) rfl (aA (ax (i:=0) (show List.Nodup [("thing":Str),("right":Str)] from by decide +kernel) rfl (Or.inl rfl) (.inr rfl)) (aA (ax (i:=1) (show List.Nodup [("thing":Str),("right":Str)] from by decide +kernel) rfl (Or.inl rfl) (.inr rfl)) aT)))) (fun _ _ _ _=>bG) (fun _ _ _ _=>(ai c_is_just (hr.mono (by omega)) rfl aF (aa (pv 0) (aa (pv 1) af))))) af)))))),?_⟩
 show eY _ _ [some (.ref a),some (.ref c)] H
 have ul:=dd.length
 have vl:=dr.length
 k_data
 refine Ck hS (Ck hR ⟨iz,?_⟩)
 by_cases ln:us.length=vs'.length
 ·rw [if_pos (by rw [ln])]
  refine⟨k,⟨_,hS⟩,k,⟨_,hR⟩,?_⟩
  refine lF (xs:=us) (ys:=vs') (fun i zs H3=>aB H H3∧∃ bs:List Bool,zs=bs.map V.bl∧bs.length=i∧(bs.all id=true↔ds.take i=rs.take i)) ⟨aB.refl _,[],rfl,rfl,by simp⟩ (by omega) (Nat.le_trans (by omega) (show 10^6≤sizeLine by decide)) (fun i zs H3 hi ⟨z1,bs,z2,z3,_⟩=>⟨lr hS z1,lr hR z1,by rw [z2,List.length_map,z3];exact Nat.le_refl _⟩) ?_ ?_
  ·rintro i x y zs H3 p3 hx hy ⟨s3,bs,rfl,bl,hb⟩ hp3
   obtain⟨d1,e1,v1⟩:=dd.get hx
   obtain⟨r1,e2,v2⟩:=dr.get hy
   have s4:=ao (o:=.tup [x,y]) hp3
   show qF K 2 _ _ [none,none] _ _
   refine⟨p3,_,rfl,bC.of ag,rfl,?_⟩
   generalize upd H3 p3 _=H4 at *
   k_data
   refine⟨True.intro,x,y,d1,r1,rfl,dv.same (s3.trans s4) _ v1,dv.same (s3.trans s4) _ v2,lE cl e1,wM hr' e2,fun b H5 hb1 s5=>⟨(s3.trans s4).trans s5,bs++[b],by rw [List.map_append];rfl,by rw [List.length_append,bl];rfl,?_⟩⟩
   rw [List.all_append,Bool.and_eq_true,hb,List.take_add_one,List.take_add_one,e1,e2]
   have l1:(ds.take i).length=(rs.take i).length:=by
    have:=(List.getElem?_eq_some_iff.mp e1).1
    have:=(List.getElem?_eq_some_iff.mp e2).1
    rw [List.length_take,List.length_take]
    omega
   constructor
   ·rintro⟨h1,h2⟩
    have:b=true:=by simpa using h2
    rw [h1,hb1.mp this]
   ·intro h
    obtain⟨h1,h2⟩:=List.append_inj h l1
    have:d1=r1:=by simpa using h2
    exact⟨h1,by simp [hb1.mpr this]⟩
  ·rintro zs H3 p3 ⟨s3,bs,rfl,bl,hb⟩ hp3
   refine uP (bs:=bs) (aX.of ag) ?_
   rw [show us.length=ds.length from ul,List.take_length,show ds.length=rs.length by omega,List.take_length] at hb
   exact q _ _ hb (s3.trans (ao hp3))
 ·rw [if_neg (by intro z;have:=V.int.inj z;omega)]
  exact q false H ⟨(fun z=>by cases z),fun z=>by rw [z] at ul;omega⟩ (aB.refl _)
theorem lI {d:PyData} {i:Int}:(PyData.eqv d (.int i)=true∧vE d=true)↔d=.int i:=by
 constructor
 ·rintro⟨h1,h2⟩
  cases d with
  | int j =>
   have:j=i:=by simpa [PyData.eqv] using h1
   rw [this]
  | _=>simp [vE] at h2
 ·rintro rfl
  exact⟨by simp [PyData.eqv],rfl⟩
theorem gW:ay [("thing":Str),("right":Str)] [("thing":Str),("right":Str)] (ak (top 15)):=⟨rfl,rfl,rfl,by decide +kernel,rfl,by decide +kernel,by decide +kernel⟩
theorem vY (D:av K mg "is_just" (top 15)):Callee P w K mg base aK 1 "is_just" [("thing":Str),("right":Str)] (i4 K 0):=by
 refine aw D (fun _ _ _ _ _ _ us hl=>match us,hl with | [_,_],_=>rfl) gW (fun vs H Q E h=>by obtain⟨_,_,_,_,rfl,_⟩:=h;rfl) (fun f cdv A outer s H vs Q E hr h=>?_)
 obtain⟨u,v,d,r,rfl,hu,hv,cl,hs,q⟩:=h
 simp only [rD] at hs
theorem vZ {L:Nat} (D:av K mg "is_just" (top 15)) (c_are_just:Callee P w K mg base aK (2*L+2) "are_just" ["things","rights"] (sN K L)) (c_is_whole:Callee P w K mg base aK 1 "is_whole" ["thing"] (By K)) (n_isinstance:mg "isinstance"=none) (n_list:mg "list"=none) (n_tuple:mg "tuple"=none):Callee P w K mg base aK (2*L+3) "is_just" [("thing":Str),("right":Str)] (i4 K (L+1)):=by
 refine aw D (fun _ _ _ _ _ _ us hl=>match us,hl with | [_,_],_=>rfl) gW (fun vs H Q E h=>by obtain⟨_,_,_,_,rfl,_⟩:=h;rfl) (fun f cdv A outer s H vs Q E hr h=>?_)
 obtain⟨u,v,d,r,rfl,hu,hv,cl,hs,q⟩:=h
 have nd:=gW.nd
 refine⟨_,(ae (aY (a9 (aG cO rfl n_isinstance PyProof.Rows.boot_isinstance (aa (pv 1) (aa (dU (v:=.ty "tuple") rfl n_tuple L2.boot_tuple rfl) af))) (fun _=>rfl)) (aj (aC (bP (aG cO rfl n_isinstance PyProof.Rows.boot_isinstance (aa (pv 0) (aa (dU (v:=.ty "tuple") rfl n_tuple L2.boot_tuple rfl) af))) (cS (ai c_are_just (hr.mono (by omega)) rfl aF (aa (pv 0) (aa (pv 1) af))))))) aH) (ae (aY (a9 (aG cO rfl n_isinstance PyProof.Rows.boot_isinstance (aa (pv 1) (aa (dU (v:=.ty "list") rfl n_list L2.boot_list rfl) af))) (fun _=>rfl)) (aj (aC (bP (aG cO rfl n_isinstance PyProof.Rows.boot_isinstance (aa (pv 0) (aa (dU (v:=.ty "list") rfl n_list L2.boot_list rfl) af))) (cS (ai c_are_just (hr.mono (by omega)) rfl aF (aa (pv 0) (aa (pv 1) af))))))) aH) (aj (aC (bP (bL (Ba hr.units) (pv 0) (pv 1) (aE _)) (cS (bL bO (ai c_is_whole (hr.mono (by omega)) rfl aF (aa (pv 0) af)) (ai c_is_whole (hr.mono (by omega)) rfl aF (aa (pv 1) af)) (aE _)))))))),?_⟩
 show br _ _ _ [some u,some v] H
 k_data
 cases r with
 | tuple rs =>
  simp only [rD] at hs
  refine fc hv ⟨true,aU.mpr rfl,?_⟩
  rw [if_pos rfl]
  refine fc hu ⟨_,rfl,?_⟩
  cases d with
  | tuple ds =>
   rw [if_pos (show Cj (.tuple ds)=true from rfl)]
   obtain⟨a,us,rfl,hS,dd⟩:=hu
   obtain⟨c,vs',rfl,hR,dr⟩:=hv
   exact⟨.t,a,c,us,vs',ds,rs,rfl,hS,hR,dd,dr,cl,hs.2,hs.1,fun b H' hb s'=>q b H' (hb.trans (by rw [PyData.tuple.injEq])) s'⟩
  | _ =>
   rw [if_neg (by simp [Cj])]
   exact q false H ⟨(fun z=>by cases z),fun z=>by cases z⟩ (aB.refl _)
 | list rs =>
  simp only [rD] at hs
  refine fc hv ⟨false,aU.mpr rfl,?_⟩
  rw [if_neg (by decide)]
  refine jE hv ⟨true,aU.mpr rfl,?_⟩
  rw [if_pos rfl]
  refine jE hu ⟨_,rfl,?_⟩
  cases d with
  | list ds =>
   rw [if_pos (show Dp (.list ds)=true from rfl)]
   obtain⟨a,us,rfl,hS,dd⟩:=hu
   obtain⟨c,vs',rfl,hR,dr⟩:=hv
   exact⟨.l,a,c,us,vs',ds,rs,rfl,hS,hR,dd,dr,cl,hs.2,hs.1,fun b H' hb s'=>q b H' (hb.trans (by rw [PyData.list.injEq])) s'⟩
  | _ =>
   rw [if_neg (by simp [Dp])]
   exact q false H ⟨(fun z=>by cases z),fun z=>by cases z⟩ (aB.refl _)
 | int i =>
  refine fc hv ⟨false,aU.mpr rfl,?_⟩
  rw [if_neg (by decide)]
  refine jE hv ⟨false,aU.mpr rfl,?_⟩
  rw [if_neg (by decide)]
  refine⟨d,.int i,hu,hv,cl,rfl,by simp [PyData.depth],⟨_,rfl,?_⟩⟩
  refine aP (fun c=>?_) (fun c=>?_)
  ·refine⟨d,u,rfl,hu,⟨.int i,v,rfl,hv,⟨rfl,?_⟩⟩⟩
   refine q _ H ?_ (aB.refl _)
   rw [← lI]
   have c':PyData.eqv d (.int i)=true:=by simpa using c
   rw [c']
   cases hw:vE d<;>simp [vE]
  ·refine q false H ⟨(fun z=>by cases z),fun z=>?_⟩ (aB.refl _)
   have:=(lI.mpr z).1
   exact absurd this (by simpa using c)
 | str z =>
  refine fc hv ⟨false,aU.mpr rfl,?_⟩
  rw [if_neg (by decide)]
  refine jE hv ⟨false,aU.mpr rfl,?_⟩
  rw [if_neg (by decide)]
  simp only [rD] at hs
  refine⟨d,.str z,hu,hv,cl,hs,by simp [PyData.depth],⟨_,rfl,?_⟩⟩
  have es:PyData.eqv d (.str z)=true↔d=.str z:=by cases d<;>simp [PyData.eqv]
  refine aP (fun c=>?_) (fun c=>?_)
  ·refine⟨d,u,rfl,hu,⟨.str z,v,rfl,hv,⟨rfl,?_⟩⟩⟩
   refine q _ H ?_ (aB.refl _)
   have c':d=.str z:=es.mp (by simpa using c)
   rw [c']
   simp
  ·exact q false H ⟨(fun z=>by cases z),fun z=>absurd (es.mpr z) (by simpa using c)⟩ (aB.refl _)
 | _=>simp only [rD] at hs
theorem sg {fi:Addr} (D:av K mg "is_just" (top 15)) (D2:av K mg "are_just" (top 16)) (c_is_whole:Callee P w K mg base aK 1 "is_whole" ["thing"] (By K)) (n_isinstance:mg "isinstance"=none) (n_list:mg "list"=none) (n_tuple:mg "tuple"=none) (n_len:mg "len"=none) (n_zip:mg "zip"=none) (n_all:mg "all"=none):∀ L:Nat,Callee P w K mg base aK (2*L+1) "is_just" ["thing","right"] (i4 K L)
 | 0=>vY D
 | L+1=>vZ D (v3 D2 (sg (fi:=fi) D D2 c_is_whole n_isinstance n_list n_tuple n_len n_zip n_all L) n_len n_zip n_all) c_is_whole n_isinstance n_list n_tuple
end
end K
namespace K
open PySem PySem.Spec PyProof.Rows L2
section
variable {P:Program} {w:World} {K:PySem.W.Frag} {mg:Str→Option Value} {base:Heap}
def DX (row:PyData) (y:Int × Int):Prop:=∃ ds,row=.tuple [.tuple (.int y.1::ds),.int y.2]
def x8 (rows:List PyData) (ps:List (Int × Int)):Prop:=rows.length=ps.length∧∀(i:Nat) (row:PyData),rows[i]?=some row→∃ y,ps[i]?=some y∧DX row y
def sT (K:PySem.W.Frag):Sp:=fun vs H Q _=>∃(v:V) (rows:List PyData) (ps:List (Int × Int)),vs=[v]∧dv K H (.tuple rows) v∧x8 rows ps∧rows.length≤10^6∧∀ p us H',aB H H'→H p=none→H' p=some (.lst us)→aM K H' (ps.map jI) us→Q (.ref p) H'
theorem vw {H:Hp} {rows:List PyData} {ps:List (Int × Int)} {xs:List V} (hd:aM K H rows xs) (h:x8 rows ps) {i:Nat} {x:V} (hx:xs[i]?=some x):∃ q k pt pq r,ps[i]?=some (q,k)∧x=.ref pt∧bC K H pt [.ref pq,.int k]∧bC K H pq (.int q::r):=by
 obtain⟨d,hd',hv⟩:=hd.get hx
 obtain⟨⟨q,k⟩,hy,ds,rfl⟩:=h.2 i d hd'
 obtain⟨pt,ys,rfl,h1,x1,r1,rfl,e1,x2,r2,rfl,e2,z⟩:=hv
 cases z
 obtain⟨pq,zs,rfl,h2,y1,r3,rfl,f1,f2⟩:=e1
 cases f1
 cases e2
 exact⟨q,k,pt,pq,r3,hy,rfl,h1,h2⟩
theorem bX:ay [("parts":Str)] [("parts":Str)] (ak (top 18)):=⟨rfl,rfl,rfl,by decide +kernel,rfl,by decide +kernel,by decide +kernel⟩
theorem wd (D:av K mg "parting_in" (top 18)):Callee P w K mg base aK 1 "parting_in" [("parts":Str)] (sT K):=by
 refine aw D (fun _ _ _ _ _ _ us hl=>match us,hl with | [_],_=>rfl) bX (fun vs H Q E h=>by obtain⟨a,_,_,rfl,_⟩:=h;rfl) (fun f cdv A outer s H vs Q E hr h=>?_)
 obtain⟨v,rows,ps,rfl,hd,hh,h6,q⟩:=h
 have nd:=bX.nd
 refine⟨_,(aj (aC (dW rfl (cm (N':=["row"]) (js:=[none]) rfl rfl (by decide +kernel) (by decide +kernel) (by repeat (first | exact True.intro | refine⟨rfl,?_⟩)) (by repeat (first | exact True.intro | refine⟨rfl,?_⟩ | refine⟨True.intro,?_⟩)) (by repeat (first | exact True.intro | refine⟨⟨rfl,rfl,.inl rfl,.inl rfl⟩,?_⟩))) (fO (pv 0)) (fun _ _ _ _=>(ax (i:=0) (show List.Nodup [("row":Str)] from by decide +kernel) rfl (Or.inl rfl) (.inr rfl))) (fun _ _ _ _=>bG) (fun _ _ _ _=>(aN (aa (aL (bK K rfl) (aL (bK K rfl) (pv 0) ah (fun _ _=>rfl)) ah (fun _ _=>rfl)) (aa (aL (bK K rfl) (pv 0) ah (fun _ _=>rfl)) af))))))),?_⟩
 show eY _ _ [some v] H
 obtain⟨p,xs,rfl,hS,ht⟩:=hd
 have xl:=ht.length
 have rl:=hh.1
 k_data
 refine⟨⟨_,hS⟩,?_⟩
 refine dy (xs:=xs) (fun i zs H3=>aB H H3∧aM K H3 ((ps.take i).map jI) zs) ⟨aB.refl _,rfl⟩ (Nat.le_trans (by omega) (show 10^6≤sizeLine by decide)) (fun i zs H3 hi ⟨e1,e2⟩=>⟨hS.same e1,by rw [e2.length,List.length_map,List.length_take];omega⟩) ?_ ?_
 ·rintro i x zs H3 hx ⟨s3,hz⟩
  obtain⟨q',k',pt,pq,r,hy,rfl,t1,t2⟩:=vw ht hh hx
  show cF 0 _ [none] _ _
  k_data
  refine⟨True.intro,bp (t1.same s3) iO (bp (t2.same s3) iO (bp (t1.same s3) rfl ⟨by show 2≤sizeLine;decide,fun p4 hp4=>?_⟩))⟩
  have s4:=ao (o:=.tup [V.int q',V.int k']) hp4
  refine⟨s3.trans s4,?_⟩
  rw [List.take_add_one,hy,List.map_append]
  exact aM.append (aM.same s4 _ hz) (.one (dv.tup ag ⟨_,_,rfl,rfl,.one rfl⟩))
 ·rintro zs H3 p3 ⟨s3,hz⟩ hp3
  rw [show xs.length=ps.length by omega,List.take_length] at hz
  exact q p3 zs _ (s3.trans (ao hp3)) (s3.free hp3) ag (aM.same (ao hp3) _ hz)
def xj:Sp:=fun vs H Q _=>∃ n q:Int,vs=[.int n,.int q]∧0≤n∧n≤10^50∧2≤q∧q≤10^50∧∀ t:Nat,n≤q^(t+1)→Q (.int t) H
theorem gK:ay [("n":Str),("prime":Str),("times":Str),("product":Str)] [("n":Str),("prime":Str)] (ak (top 52)):=⟨rfl,rfl,rfl,by decide +kernel,rfl,by decide +kernel,by decide +kernel⟩
theorem yN (D:av K mg "most_times" (top 52)):Callee P w K mg base aK 1 "most_times" [("n":Str),("prime":Str)] xj:=by
 refine aw D (fun _ _ _ _ _ _ us hl=>match us,hl with | [_,_],_=>rfl) gK (fun vs H Q E h=>by obtain⟨_,_,rfl,_⟩:=h;rfl) (fun f cdv A outer s H vs Q E hr h=>?_)
 obtain⟨n,q',rfl,n0,n9,q2,q9,q⟩:=h
 have nd:=gK.nd
 refine⟨_,(ae (ar (i:=2) nd rfl (Or.inl rfl) ah) (ae (ar (i:=3) nd rfl (Or.inl rfl) (pv 1)) (ae (aV PassesOwn.never (aD dR (pv 3) (pv 0) (aE _)) (ae (cL (i:=3) nd rfl (Or.inl rfl) (pv 1) (dF oP)) (aj (cL (i:=2) nd rfl (Or.inl rfl) ah (dF gg))))) (aj (aC (pv 2)))))),?_⟩
 show br _ _ _ [some (.int n),some (.int q'),none,none] H
 k_data
 refine aW (α:=Nat) (fun t=>[some (.int n),some (.int q'),some (.int (t:Int)),some (.int (q'^(t+1)))]) (fun t H1=>H1=H∧(t=0∨q'^t<n)) (fun t=>(n-q'^(t+1)).toNat) 0 (by rw [Int.pow_succ,Int.pow_zero,Int.one_mul];rfl) ⟨rfl,.inl rfl⟩ ?_
 rintro t H1 ⟨rfl,ht⟩
 replace ht:t=0∨q'^t<n:=ht
 have p0:0<q'^(t+1):=Num.bh (by omega) _
 k_data
 refine aP (fun c=>?_) (fun c=>?_)
 ·have up:q'^(t+1)*2≤q'^(t+1)*q':=Int.mul_le_mul_of_nonneg_left q2 (by omega)
  refine⟨_,fun _ _ z=>z,Bd.of (by omega) (by omega),Bd.of (by omega) (by omega),t+1,?_,rfl,.inr c,?_⟩
  ·rw [Int.pow_succ q' (t+1)];rfl
  ·show (n-q'^(t+1+1)).toNat<(n-q'^(t+1)).toNat
   rw [Int.pow_succ q' (t+1)]
   omega
 ·exact q t (by omega)
def iC (K:PySem.W.Frag):Sp:=fun vs H Q _=>∃(n a:Int) (p:Addr) (us:List V) (ps:List (Int × Int)),vs=[.int n,.int a,.ref p]∧0<n∧n≤10^60∧0≤a∧a<n∧H p=some (.lst us)∧aM K H (ps.map jI) us∧(∀ y∈ps,2≤y.1∧0≤y.2∧y.2≤10^6)∧∀ H',aB H H'→Q (.int (a^Num.eN ps%n)) H'
theorem jB (ps:List (Int × Int)) (q k:Int):Num.eN (ps++[(q,k)])=Num.eN ps*q.toNat^k.toNat:=by
 rw [Num.cP]
 show Num.eN ps*(q.toNat^k.toNat*1)=_
 rw [Nat.mul_one]
theorem vf:∀{ps:List (Int × Int)},(∀ y∈ps,2≤y.1)→Num.eN ps≠0
 | [],_=>by decide
 | p::r,h=>by
  have:=h p (List.mem_cons_self ..)
  exact Nat.mul_ne_zero (Nat.ne_of_gt (Nat.pow_pos (by omega))) (vf fun y z=>h y (List.mem_cons_of_mem _ z))
theorem pow_step {n a q:Int} {M j:Nat} (n0:0<n):(a^(M*q.toNat^j)%n)^q.toNat%n=a^(M*q.toNat^(j+1))%n:=by
 rw [Num.Al.iff.mp ((Num.Al.rest n (a^(M*q.toNat^j))).pow q.toNat),Num.bS,Nat.pow_succ,Nat.mul_assoc]
theorem lZ:ay [("n":Str),("a":Str),("parting":Str),("rest":Str),("prime":Str),("many":Str),("turn":Str)] [("n":Str),("a":Str),("parting":Str)] (ak (top 53)):=⟨rfl,rfl,rfl,by decide +kernel,rfl,by decide +kernel,by decide +kernel⟩
theorem uj {C:Addr} (D:av K mg "raised" (top 53)) (c_power:Callee P w K mg base (dJ P w) 4 "power" ["n","a","e"] (c6 C)) (n_range:mg "range"=none):Callee P w K mg base aK 5 "raised" [("n":Str),("a":Str),("parting":Str)] (iC K):=by
 refine aw D (fun _ _ _ _ _ _ us hl=>match us,hl with | [_,_,_],_=>rfl) lZ (fun vs H Q E h=>by obtain⟨_,_,_,_,_,rfl,_⟩:=h;rfl) (fun f cdv A outer s H vs Q E hr h=>?_)
 obtain⟨n,a,p,us,ps,rfl,n0,n9,a0,a1,hp,hd,hok,q⟩:=h
 have nd:=lZ.nd
 refine⟨_,(ae (ar (i:=3) nd rfl (Or.inl rfl) (pv 1)) (ae (cZ PassesOwn.never rfl (b9 (pv 2)) (bQ (n:=2) rfl (aA (ax (i:=4) nd rfl (Or.inl rfl) (.inr rfl)) (aA (ax (i:=5) nd rfl (Or.inl rfl) (.inr rfl)) aT))) (aj (cZ PassesOwn.never rfl (gk rfl n_range (aa (pv 5) af)) (ax (i:=6) nd rfl (Or.inl rfl) (.inr rfl)) (aj (ar (i:=3) nd rfl (Or.inl rfl) (ai c_power (hr.mono (by decide)) rfl aJ (aa (pv 0) (aa (pv 3) (aa (pv 4) af))))))))) (aj (aC (pv 3))))),?_⟩
 show br _ _ _ [some (.int n),some (.int a),some (.ref p),none,none,none,none] H
 have ul:us.length=ps.length:=by rw [hd.length,List.length_map]
 k_data
 refine⟨⟨_,aX.of hp⟩,?_⟩
 refine eJ (xs:=us) (fun i σ' H'=>aB H H'∧∃ o4 o5 o6,σ'=[some (.int n),some (.int a),some (.ref p),some (.int (a^Num.eN (ps.take i)%n)),o4,o5,o6]) ⟨aB.refl _,none,none,none,?_⟩ (fun i σ' H' _ h=>aX.of (h.1 _ _ hp)) ?_ ?_
 ·show _=[_,_,_,some (V.int (a^1%n)),none,none,none]
  rw [Int.pow_one,Int.emod_eq_of_lt a0 a1]
 ·rintro i x σ' H' hx ⟨s',o4,o5,o6,rfl⟩
  obtain⟨d,hd',hv⟩:=hd.get hx
  rw [List.getElem?_map] at hd'
  obtain⟨⟨q',k'⟩,hy,rfl⟩:=Option.map_eq_some_iff.mp hd'
  obtain⟨q2,k0,k6⟩:=hok _ (List.mem_of_getElem? hy)
  replace q2:2≤q':=q2
  replace k0:0≤k':=k0
  replace k6:k'≤10^6:=k6
  obtain⟨pt,rfl,tt⟩:=iP hv
  refine⟨pt,_,rfl,tt.same s',rfl,?_⟩
  k_data
  refine⟨by omega,by omega,?_⟩
  refine fe (fun j σ2 H2=>aB H H2∧∃ o6,σ2=[some (.int n),some (.int a),some (.ref p),some (.int (a^(Num.eN (ps.take i)*q'.toNat^j)%n)),some (.int q'),some (.int k'),o6]) ⟨s',o6,by rw [Nat.pow_zero,Nat.mul_one]⟩ ?_ ?_
  ·rintro j σ2 H2 hj ⟨s2,o6,rfl⟩
   k_data
   refine⟨n,_,q',rfl,n0,by omega,fun _ H3 s3=>⟨s2.trans s3,?_⟩,fun z=>absurd z (by omega)⟩
   rw [pow_step n0]
  ·rintro σ2 H2 ⟨s2,o6,rfl⟩
   refine⟨s2,some (.int q'),some (.int k'),o6,?_⟩
   rw [List.take_add_one,hy]
   show _=[_,_,_,some (V.int (a^Num.eN (ps.take i++[(q',k')])%n)),_,_,_]
   rw [jB]
 ·rintro σ' H' ⟨s',o4,o5,o6,rfl⟩
  rw [ul,List.take_length]
  k_data
  exact q H' s'
def nH:Sp:=fun vs H Q _=>∃(n a q:Int) (k:Nat),vs=[.int n,.int a,.int q]∧2≤n∧n≤10^60∧0≤a∧a<n∧2≤q∧a^q.toNat^k%n=1∧∀(t:Nat) H',t≤k→a^q.toNat^t%n=1→(∀ j,j<t→a^q.toNat^j%n≠1)→aB H H'→Q (.int t) H'
theorem fE:ay [("n":Str),("a":Str),("prime":Str),("times":Str),("rest":Str)] [("n":Str),("a":Str),("prime":Str)] (ak (top 55)):=⟨rfl,rfl,rfl,by decide +kernel,rfl,by decide +kernel,by decide +kernel⟩
theorem wk {C:Addr} (D:av K mg "times_to_one" (top 55)) (c_power:Callee P w K mg base (dJ P w) 4 "power" ["n","a","e"] (c6 C)):Callee P w K mg base aK 5 "times_to_one" [("n":Str),("a":Str),("prime":Str)] nH:=by
 refine aw D (fun _ _ _ _ _ _ us hl=>match us,hl with | [_,_,_],_=>rfl) fE (fun vs H Q E h=>by obtain⟨_,_,_,_,rfl,_⟩:=h;rfl) (fun f cdv A outer s H vs Q E hr h=>?_)
 obtain⟨n,a,q',k,rfl,n2,n9,a0,a1,q2,hk,q⟩:=h
 have nd:=fE.nd
 refine⟨_,(ae (ar (i:=3) nd rfl (Or.inl rfl) ah) (ae (ar (i:=4) nd rfl (Or.inl rfl) (pv 1)) (ae (aV PassesOwn.never (aD jg (pv 4) ah (aE _)) (ae (ar (i:=4) nd rfl (Or.inl rfl) (ai c_power (hr.mono (by decide)) rfl aJ (aa (pv 0) (aa (pv 4) (aa (pv 2) af))))) (aj (cL (i:=3) nd rfl (Or.inl rfl) ah (dF gg))))) (aj (aC (pv 3)))))),?_⟩
 show br _ _ _ [some (.int n),some (.int a),some (.int q'),none,none] H
 k_data
 refine aW (α:=Nat) (fun t=>[some (.int n),some (.int a),some (.int q'),some (.int (t:Int)),some (.int (a^q'.toNat^t%n))]) (fun t H1=>aB H H1∧t≤k∧∀ j,j<t→a^q'.toNat^j%n≠1) (fun t=>k-t) 0 (by rw [Nat.pow_zero,Int.pow_one,Int.emod_eq_of_lt a0 a1];rfl) ⟨aB.refl _,Nat.zero_le _,fun j hj=>absurd hj (Nat.not_lt_zero _)⟩ ?_
 rintro t H1 ⟨s1,tk,no⟩
 replace tk:t≤k:=tk
 replace no:∀ j,j<t→a^q'.toNat^j%n≠1:=no
 k_data
 refine aP (fun c=>?_) (fun c=>?_)
 ·have tk':t≠k:=fun z=>c (z▸hk)
  refine⟨_,fun _ _ z=>z,n,_,q',rfl,by omega,by omega,fun _ H2 s2=>⟨t+1,?_,s1.trans s2,by omega,fun j hj=>?_,?_⟩,fun z=>absurd z (by omega)⟩
  ·have:=pow_step (n:=n) (a:=a) (M:=1) (q:=q') (j:=t) (by omega)
   rw [Nat.one_mul,Nat.one_mul] at this
   rw [this]
   rfl
  ·rcases (by omega:j<t∨j=t) with z | z
   ·exact no j z
   ·rw [z];exact c
  ·show k-(t+1)<k-t
   omega
 ·exact q t H1 tk (by simpa using c) no s1
def nJ (K:PySem.W.Frag):Sp:=fun vs H Q _=>∃(p:Addr) (us:List V) (ps:List (Int × Int)),vs=[.ref p]∧H p=some (.lst us)∧aM K H (ps.map jI) us∧(∀ y∈ps,2≤y.1∧0≤y.2∧y.2≤10^6)∧Num.eN ps≤10^100∧∀ H',aB H H'→Q (.int (Num.eN ps)) H'
theorem vd {ps:List (Int × Int)} (h:∀ y∈ps,2≤y.1) {i:Nat} {q k:Int} (hy:ps[i]?=some (q,k)) {j:Nat} (hj:j≤k.toNat):Num.eN (ps.take i)*q.toNat^j≤Num.eN ps∧q.toNat≤Num.eN (ps.take i)*q.toNat^k.toNat*Num.eN (ps.drop (i+1))*q.toNat:=by
 have pos:∀ l:List (Int × Int),(∀ y∈l,2≤y.1)→0<Num.eN l:=by
  intro l
  induction l with
  | nil=>intro _;exact Nat.one_pos
  | cons p r ih =>
   intro hl
   have:=hl p (List.mem_cons_self ..)
   exact Nat.mul_pos (Nat.pow_pos (by omega)) (ih fun y z=>hl y (List.mem_cons_of_mem _ z))
 have q2:2≤q:=h _ (List.mem_of_getElem? hy)
 have e:ps=ps.take i++[(q,k)]++ps.drop (i+1):=by
  have h1:ps.take (i+1)=ps.take i++[(q,k)]:=by rw [List.take_add_one,hy];rfl
  rw [← h1,List.take_append_drop]
 have p1:=pos (ps.take i) fun y z=>h y (List.mem_of_mem_take z)
 have p2:=pos (ps.drop (i+1)) fun y z=>h y (List.mem_of_mem_drop z)
 have e2:Num.eN ps=Num.eN (ps.take i)*q.toNat^k.toNat*Num.eN (ps.drop (i+1)):=by
  have:Num.eN ps=Num.eN (ps.take i++[(q,k)]++ps.drop (i+1)):=congrArg _ e
  rw [this,Num.cP,jB]
 have p3:0<q.toNat^k.toNat:=Nat.pow_pos (by omega)
 constructor
 ·rw [e2]
  refine Nat.le_trans (Nat.mul_le_mul_left _ (Nat.pow_le_pow_right (by omega) hj)) ?_
  exact Nat.le_mul_of_pos_right _ p2
 ·exact Nat.le_mul_of_pos_left _ (Nat.mul_pos (Nat.mul_pos p1 p3) p2)
theorem jt:ay [("parting":Str),("whole":Str),("prime":Str),("many":Str),("turn":Str)] [("parting":Str)] (ak (top 42)):=⟨rfl,rfl,rfl,by decide +kernel,rfl,by decide +kernel,by decide +kernel⟩
theorem wq (D:av K mg "whole_of" (top 42)) (n_range:mg "range"=none):Callee P w K mg base aK 1 "whole_of" [("parting":Str)] (nJ K):=by
 refine aw D (fun _ _ _ _ _ _ us hl=>match us,hl with | [_],_=>rfl) jt (fun vs H Q E h=>by obtain⟨_,_,_,rfl,_⟩:=h;rfl) (fun f cdv A outer s H vs Q E hr h=>?_)
 obtain⟨p,us,ps,rfl,hp,hd,hok,h100,q⟩:=h
 have nd:=jt.nd
 refine⟨_,(ae (ar (i:=1) nd rfl (Or.inl rfl) ah) (ae (cZ PassesOwn.never rfl (b9 (pv 0)) (bQ (n:=2) rfl (aA (ax (i:=2) nd rfl (Or.inl rfl) (.inr rfl)) (aA (ax (i:=3) nd rfl (Or.inl rfl) (.inr rfl)) aT))) (aj (cZ PassesOwn.never rfl (gk rfl n_range (aa (pv 3) af)) (ax (i:=4) nd rfl (Or.inl rfl) (.inr rfl)) (aj (cL (i:=1) nd rfl (Or.inl rfl) (pv 2) (dF oP)))))) (aj (aC (pv 1))))),?_⟩
 show br _ _ _ [some (.ref p),none,none,none,none] H
 have ul:us.length=ps.length:=by rw [hd.length,List.length_map]
 k_data
 refine⟨⟨_,aX.of hp⟩,?_⟩
 refine eJ (xs:=us) (fun i σ' H'=>aB H H'∧∃ o4 o5 o6,σ'=[some (.ref p),some (.int (Num.eN (ps.take i))),o4,o5,o6]) ⟨aB.refl _,none,none,none,rfl⟩ (fun i σ' H' _ h=>aX.of (h.1 _ _ hp)) ?_ ?_
 ·rintro i x σ' H' hx ⟨s',o4,o5,o6,rfl⟩
  obtain⟨d,hd',hv⟩:=hd.get hx
  rw [List.getElem?_map] at hd'
  obtain⟨⟨q',k'⟩,hy,rfl⟩:=Option.map_eq_some_iff.mp hd'
  obtain⟨q2,k0,k6⟩:=hok _ (List.mem_of_getElem? hy)
  replace q2:2≤q':=q2
  replace k0:0≤k':=k0
  replace k6:k'≤10^6:=k6
  obtain⟨pt,rfl,tt⟩:=iP hv
  refine⟨pt,_,rfl,tt.same s',rfl,?_⟩
  k_data
  refine⟨by omega,by omega,?_⟩
  refine fe (fun j σ2 H2=>H2=H'∧∃ o6,σ2=[some (.ref p),some (.int ((Num.eN (ps.take i)*q'.toNat^j:Nat):Int)),some (.int q'),some (.int k'),o6]) ⟨rfl,o6,by rw [Nat.pow_zero,Nat.mul_one]⟩ ?_ ?_
  ·rintro j σ2 H2 hj ⟨rfl,o6,rfl⟩
   have g1:=(vd (fun y z=>(hok y z).1) hy (j:=j) (by omega)).1
   have g2:=(vd (fun y z=>(hok y z).1) hy (j:=1) (by omega)).1
   have qb:q'.toNat≤10^100:=by
    rw [Nat.pow_one] at g2
    have:0<Num.eN (ps.take i):=by
     rcases Nat.eq_zero_or_pos (Num.eN (ps.take i)) with z | z
     ·exact absurd z (vf fun y z=>(hok y (List.mem_of_mem_take z)).1)
     ·exact z
    have:=Nat.le_mul_of_pos_left q'.toNat this
    omega
   k_data
   refine⟨Bd.of (by omega) (by omega),Bd.of (by omega) (by omega),?_⟩
   rw [Nat.pow_succ,← Nat.mul_assoc,Int.natCast_mul _ q'.toNat,show (q'.toNat:Int)=q' by omega]
  ·rintro σ2 H2 ⟨rfl,o6,rfl⟩
   refine⟨s',some (.int q'),some (.int k'),o6,?_⟩
   rw [List.take_add_one,hy]
   show _=[_,some (V.int (Num.eN (ps.take i++[(q',k')]):Nat)),_,_,_]
   rw [jB]
 ·rintro σ' H' ⟨s',o4,o5,o6,rfl⟩
  rw [ul,List.take_length]
  k_data
  exact q H' s'
end
end K
namespace K
open PySem PySem.Spec PyProof.Rows L2
section
variable {P:Program} {w:World} {K:PySem.W.Frag} {mg:Str→Option Value} {base:Heap}
theorem aM.Af {H:Hp}:∀(m:Nat) {ds:List PyData} {us:List V},aM K H ds us→aM K H (ds.take m) (us.take m)∧aM K H (ds.drop m) (us.drop m)
 | 0,ds,us,h=>⟨by simp only [List.take_zero];exact rfl,by simpa using h⟩
 | m+1,[],us,h=>by cases h;exact⟨rfl,rfl⟩
 | m+1,d::ds,us,h=>by
  obtain⟨x,r,rfl,h1,h2⟩:=h
  have ih:=Af m h2
  exact⟨⟨x,_,rfl,h1,ih.1⟩,ih.2⟩
theorem uY {us:List V} {m:Nat} (h:m≤us.length):jU us none (some (m:Int))=us.take m:=by
 unfold jU
 have e1:HT.lg us.length 0 none=0:=rfl
 have e2:HT.lg us.length us.length (some (m:Int))=m:=by
  simp only [HT.lg]
  split<;>omega
 rw [e1,e2,List.drop_zero,Nat.sub_zero]
theorem uW {us:List V} {m:Nat} (h:m≤us.length):jU us (some (m:Int)) none=us.drop m:=by
 unfold jU
 have e1:HT.lg us.length us.length none=us.length:=rfl
 have e2:HT.lg us.length 0 (some (m:Int))=m:=by
  simp only [HT.lg]
  split<;>omega
 rw [e1,e2]
 exact List.take_of_length_le (by rw [List.length_drop];omega)
def iD (K:PySem.W.Frag) (L:Nat):Sp:=fun vs H Q _=>∃(n a:Int) (p:Addr) (us:List V) (ps:List (Int × Int)),vs=[.int n,.int a,.ref p]∧(1≤L∧ps.length≤2^(L-1))∧ps.length≤10^6∧2≤n∧n≤10^60∧0≤a∧a<n∧H p=some (.lst us)∧aM K H (ps.map jI) us∧(∀ y∈ps,Num.Pm y.1∧0≤y.2∧y.2≤10^6)∧ps.Pairwise (fun x y=>y.1≠x.1)∧a^Num.eN ps%n=1 ∧
 ∀ pt ts H',Num.TO n a ps ts→aB H H'→H pt=none→H' pt=some (.lst (ts.map V.int))→Q (.ref pt) H'
theorem cU:ay [("n":Str),("a":Str),("parting":Str),("half":Str),("ahead":Str),("behind":Str)] [("n":Str),("a":Str),("parting":Str)] (ak (top 54)):=⟨rfl,rfl,rfl,by decide +kernel,rfl,by decide +kernel,by decide +kernel⟩
theorem um (D:av K mg "times_in_order" (top 54)):Callee P w K mg base aK 6 "times_in_order" [("n":Str),("a":Str),("parting":Str)] (iD K 0):=by
 refine aw D (fun _ _ _ _ _ _ us hl=>match us,hl with | [_,_,_],_=>rfl) cU (fun vs H Q E h=>by obtain⟨_,_,_,_,_,rfl,_⟩:=h;rfl) (fun f cdv A outer s H vs Q E hr h=>?_)
 obtain⟨n,a,p,us,ps,rfl,hL,_⟩:=h
 exact absurd hL.1 (by decide)
theorem uo {L:Nat} (D:av K mg "times_in_order" (top 54)) (c_raised:Callee P w K mg base aK 5 "raised" ["n","a","parting"] (iC K)) (c_times_to_one:Callee P w K mg base aK 5 "times_to_one" ["n","a","prime"] nH) (c_times_in_order:Callee P w K mg base aK (L+6) "times_in_order" ["n","a","parting"] (iD K L)) (n_len:mg "len"=none):Callee P w K mg base aK (L+7) "times_in_order" [("n":Str),("a":Str),("parting":Str)] (iD K (L+1)):=by
 refine aw D (fun _ _ _ _ _ _ us hl=>match us,hl with | [_,_,_],_=>rfl) cU (fun vs H Q E h=>by obtain⟨_,_,_,_,_,rfl,_⟩:=h;rfl) (fun f cdv A outer s H vs Q E hr h=>?_)
 obtain⟨n,a,p,us,ps,rfl,hL,h6,n2,n9,a0,a1,hp,hd,hok,pw,h1,q⟩:=h
 have nd:=cU.nd
 refine⟨_,(ae (aY (aD bO (aG bN rfl n_len PySem.boot_len (aa (pv 2) af)) ah (aE _)) (aj (aC (dG af))) aH) (ae (aY (aD bO (aG bN rfl n_len PySem.boot_len (aa (pv 2) af)) ah (aE _)) (aj (aC (dG (aa (ai c_times_to_one (hr.mono (by omega)) rfl aF (aa (pv 0) (aa (pv 1) (aa (aL aR (aL gi (pv 2) ah (fun _ _=>rfl)) ah (fun _ _=>rfl)) af)))) af)))) aH) (ae (ar (i:=3) nd rfl (Or.inl rfl) (au bA (aG bN rfl n_len PySem.boot_len (aa (pv 2) af)) ah)) (ae (ar (i:=4) nd rfl (Or.inl rfl) (kx nr (pv 2) m7 (ic (pv 3)))) (ae (ar (i:=5) nd rfl (Or.inl rfl) (kx nr (pv 2) (ic (pv 3)) m7)) (aj (aC (au A9 (ai c_times_in_order (hr.mono (by omega)) rfl aF (aa (pv 0) (aa (ai c_raised (hr.mono (by omega)) rfl aF (aa (pv 0) (aa (pv 1) (aa (pv 5) af)))) (aa (pv 4) af)))) (ai c_times_in_order (hr.mono (by omega)) rfl aF (aa (pv 0) (aa (ai c_raised (hr.mono (by omega)) rfl aF (aa (pv 0) (aa (pv 1) (aa (pv 4) af)))) (aa (pv 5) af)))))))))))),?_⟩
 show br _ _ _ [some (.int n),some (.int a),some (.ref p),none,none,none] H
 have ul:us.length=ps.length:=by rw [hd.length,List.length_map]
 k_data
 refine dQ (aX.of hp) ⟨rfl,?_⟩
 refine aP (fun c=>?_) (fun c=>?_)
 ·have e0:ps=[]:=List.eq_nil_of_length_eq_zero (by injection c;omega)
  subst e0
  refine⟨by show 0≤sizeLine;decide,fun p1 hp1=>q p1 [] _ (.none ?_) (ao hp1) hp1 ag⟩
  have:a^1%n=1:=h1
  rw [Int.pow_one] at this
  exact Num.Al.iff.mpr (by rw [this];exact (Int.emod_eq_of_lt (by omega) (by omega)).symm)
 refine dQ (aX.of hp) ⟨rfl,?_⟩
 refine aP (fun c1=>?_) (fun c1=>?_)
 ·have l1:ps.length=1:=by injection c1;omega
  obtain⟨⟨q',k'⟩,rfl⟩:∃ y,ps=[y]:=by
   cases ps with
   | nil=>cases l1
   | cons y r=>cases r with
    | nil=>exact⟨y,rfl⟩
    | cons _ _=>simp at l1
  obtain⟨pq,k0,k6⟩:=hok (q',k') (List.mem_singleton.mpr rfl)
  replace pq:Num.Pm q':=pq
  obtain⟨u,r,rfl,hv,z⟩:=hd
  cases z
  obtain⟨pt,rfl,tt⟩:=iP hv
  refine mK (aX.of hp) (by omega) (by show (0:Int)<1;decide) fun v hv=>?_
  have ev:v=V.ref pt:=List.mem_singleton.mp hv
  subst ev
  have h1':a^q'.toNat^k'.toNat%n=1:=by
   have:a^(q'.toNat^k'.toNat*1)%n=1:=h1
   rwa [Nat.mul_one] at this
  refine bp tt iO ⟨n,a,q',k'.toNat,rfl,n2,n9,a0,a1,pq.two,h1',fun t H1 _ t1 t2 s1=>⟨by show 1≤sizeLine;decide,fun p2 hp2=>?_⟩⟩
  refine q p2 [(t:Int)] _ (.one pq ((bZ n2).mp t1) fun j hj z=>t2 j hj ((bZ n2).mpr z)) (s1.trans (ao hp2)) (s1.free hp2) ag
 have l2:2≤ps.length:=by
  have h0:us.length≠0:=fun z=>c (by rw [z];rfl)
  have h1:us.length≠1:=fun z=>c1 (by rw [z];rfl)
  omega
 refine dQ (aX.of hp) ⟨_,rfl,Bd.of (by omega) (by omega),?_⟩
 obtain⟨m,em,m1,m2⟩:∃ m:Nat,(us.length:Int)/2=m∧1≤m∧m=ps.length/2:=⟨us.length/2,by omega,by omega,by omega⟩
 rw [em]
 refine⟨p,us,rfl,aX.of hp,fun pa hpa=>?_⟩
 rw [uY (by omega)]
 have s1:=ao (o:=.lst (us.take m)) hpa
 have ea:upd H pa (.lst (us.take m)) pa=some (.lst (us.take m)):=ag
 generalize upd H pa _=H1 at *
 refine⟨p,us,rfl,aX.of (s1 _ _ hp),fun pb hpb=>?_⟩
 rw [uW (by omega)]
 have s2:=ao (o:=.lst (us.drop m)) hpb
 have eb:upd H1 pb (.lst (us.drop m)) pb=some (.lst (us.drop m)):=ag
 generalize upd H1 pb _=H2 at *
 have S2:=s1.trans s2
 have hT:=aM.Af m (aM.same S2 _ hd)
 rw [← List.map_take,← List.map_drop] at hT
 have okA:∀ y∈ps.take m,Num.Pm y.1∧0≤y.2∧y.2≤10^6:=fun y z=>hok y (List.mem_of_mem_take z)
 have okB:∀ y∈ps.drop m,Num.Pm y.1∧0≤y.2∧y.2≤10^6:=fun y z=>hok y (List.mem_of_mem_drop z)
 have ne:∀ x∈ps.take m,∀ y∈ps.drop m,y.1≠x.1:=by
  rw [← List.take_append_drop m ps,List.pairwise_append] at pw
  exact pw.2.2
 have pwA:(ps.take m).Pairwise (fun x y=>y.1≠x.1):=pw.sublist (List.take_sublist ..)
 have pwB:(ps.drop m).Pairwise (fun x y=>y.1≠x.1):=pw.sublist (List.drop_sublist ..)
 have h1A:Num.Al n (a^(Num.eN (ps.take m)*Num.eN (ps.drop m))) 1:=by
  rw [← Num.cP,List.take_append_drop]
  exact (bZ n2).mp h1
 have lA:(ps.take m).length≤2^(L-1)∧(ps.drop m).length≤2^(L-1)∧1≤L:=by
  have hL2:ps.length≤2^L:=hL.2
  have L1:1≤L:=by
   rcases Nat.eq_zero_or_pos L with z | z
   ·subst z;simp at hL2;omega
   ·exact z
  obtain⟨L',rfl⟩:∃ L',L=L'+1:=⟨L-1,by omega⟩
  rw [Nat.pow_succ] at hL2
  rw [List.length_take,List.length_drop]
  refine⟨?_,?_,by omega⟩<;>(simp only [Nat.add_sub_cancel];omega)
 have md:∀ e:Nat,0≤a^e%n∧a^e%n<n:=fun e=>⟨Int.emod_nonneg _ (by omega),Int.emod_lt_of_pos _ (by omega)⟩
 have p1:∀ e E:Nat,Num.Al n (a^(e*E)) 1→(a^e%n)^E%n=1:=fun e E z=>by
  rw [Num.Al.iff.mp ((Num.Al.rest n (a^e)).pow E),Num.bS]
  exact (bZ n2).mpr z
 refine⟨n,a,pb,_,ps.drop m,rfl,by omega,n9,a0,a1,eb,hT.2,fun y z=>⟨(okB y z).1.two,(okB y z).2⟩,fun H3 s3=>?_⟩
 refine⟨n,_,pa,_,ps.take m,rfl,⟨lA.2.2,lA.1⟩,by rw [List.length_take];omega,n2,n9,(md _).1,(md _).2,s3 _ _ (s2 _ _ ea),aM.same s3 _ hT.1,okA,pwA,p1 _ _ (by rw [Nat.mul_comm];exact h1A),fun pt ts H4 hTO s4 f4 e4=>?_⟩
 have S4:=s3.trans s4
 refine⟨n,a,pa,_,ps.take m,rfl,by omega,n9,a0,a1,S4 _ _ (s2 _ _ ea),aM.same S4 _ hT.1,fun y z=>⟨(okA y z).1.two,(okA y z).2⟩,fun H5 s5=>?_⟩
 refine⟨n,_,pb,_,ps.drop m,rfl,⟨lA.2.2,lA.2.1⟩,by rw [List.length_drop];omega,n2,n9,(md _).1,(md _).2,s5 _ _ (S4 _ _ eb),aM.same (S4.trans s5) _ hT.2,okB,pwB,p1 _ _ h1A,fun pt2 ts2 H6 hTO2 s6 f6 e6=>?_⟩
 have tl:(ts.map V.int).length+(ts2.map V.int).length≤10^6:=by
  rw [List.length_map,List.length_map,hTO.len,hTO2.len,List.length_take,List.length_drop]
  omega
 refine⟨pt,pt2,_,_,rfl,rfl,s6 _ _ (s5 _ _ e4),e6,Nat.le_trans tl (by decide),fun pl hpl=>?_⟩
 have S6:=((S2.trans S4).trans s5).trans s6
 have:=Num.TO.two (fun y z=>(okA y z).1) (fun y z=>(okB y z).1) ne (by rw [Num.cP];exact h1A) (hTO.al (Num.Al.rest n _)) (hTO2.al (Num.Al.rest n _))
 rw [List.take_append_drop] at this
 refine q pl (ts++ts2) _ this (S6.trans (ao hpl)) (S6.free hpl) ?_
 rw [List.map_append]
 exact ag
theorem ph (D:av K mg "times_in_order" (top 54)) (c_raised:Callee P w K mg base aK 5 "raised" ["n","a","parting"] (iC K)) (c_times_to_one:Callee P w K mg base aK 5 "times_to_one" ["n","a","prime"] nH) (n_len:mg "len"=none):∀ L:Nat,Callee P w K mg base aK (L+6) "times_in_order" ["n","a","parting"] (iD K L)
 | 0=>um D
 | L+1=>uo D c_raised c_times_to_one (ph D c_raised c_times_to_one n_len L) n_len
end
end K
namespace K
open PySem PySem.Spec PyProof.Rows L2
section
variable {P:Program} {w:World} {K:PySem.W.Frag} {mg:Str→Option Value} {base:Heap}
def sS (K:PySem.W.Frag):Sp:=fun vs H Q _=>∃(p:Addr) (xs:List V) (rows:List PyData) (ps:List (Int × Int)),vs=[.ref p]∧H p=some (.lst xs)∧aM K H rows xs∧x8 rows ps∧rows.length≤10^6∧∀ p us H',aB H H'→H p=none→H' p=some (.lst us)→aM K H' (ps.map jI) us→Q (.ref p) H'
theorem wc (D:av K mg "parting_in" (top 18)):Callee P w K mg base aK 1 "parting_in" [("parts":Str)] (sS K):=by
 refine aw D (fun _ _ _ _ _ _ us hl=>match us,hl with | [_],_=>rfl) bX (fun vs H Q E h=>by obtain⟨a,_,_,_,rfl,_⟩:=h;rfl) (fun f cdv A outer s H vs Q E hr h=>?_)
 obtain⟨p,xs,rows,ps,rfl,hS,ht,hh,h6,q⟩:=h
 have nd:=bX.nd
 refine⟨_,(aj (aC (dW rfl (cm (N':=["row"]) (js:=[none]) rfl rfl (by decide +kernel) (by decide +kernel) (by repeat (first | exact True.intro | refine⟨rfl,?_⟩)) (by repeat (first | exact True.intro | refine⟨rfl,?_⟩ | refine⟨True.intro,?_⟩)) (by repeat (first | exact True.intro | refine⟨⟨rfl,rfl,.inl rfl,.inl rfl⟩,?_⟩))) (b9 (pv 0)) (fun _ _ _ _=>(ax (i:=0) (show List.Nodup [("row":Str)] from by decide +kernel) rfl (Or.inl rfl) (.inr rfl))) (fun _ _ _ _=>bG) (fun _ _ _ _=>(aN (aa (aL (bK K rfl) (aL (bK K rfl) (pv 0) ah (fun _ _=>rfl)) ah (fun _ _=>rfl)) (aa (aL (bK K rfl) (pv 0) ah (fun _ _=>rfl)) af))))))),?_⟩
 show eY _ _ [some (.ref p)] H
 have xl:=ht.length
 have rl:=hh.1
 k_data
 refine⟨⟨_,aX.of hS⟩,?_⟩
 refine bR (xs:=xs) (fun i zs H3=>aB H H3∧aM K H3 ((ps.take i).map jI) zs) ⟨aB.refl _,rfl⟩ (Nat.le_trans (by omega) (show 10^6≤sizeLine by decide)) (fun i zs H3 hi ⟨e1,e2⟩=>⟨aX.of (e1 _ _ hS),by rw [e2.length,List.length_map,List.length_take];omega⟩) ?_ ?_
 ·rintro i x zs H3 hx ⟨s3,hz⟩
  obtain⟨q',k',pt,pq,r,hy,rfl,t1,t2⟩:=vw ht hh hx
  show cF 0 _ [none] _ _
  k_data
  refine⟨True.intro,bp (t1.same s3) iO (bp (t2.same s3) iO (bp (t1.same s3) rfl ⟨by show 2≤sizeLine;decide,fun p4 hp4=>?_⟩))⟩
  have s4:=ao (o:=.tup [V.int q',V.int k']) hp4
  refine⟨s3.trans s4,?_⟩
  rw [List.take_add_one,hy,List.map_append]
  exact aM.append (aM.same s4 _ hz) (.one (dv.tup ag ⟨_,_,rfl,rfl,.one rfl⟩))
 ·rintro zs H3 p3 ⟨s3,hz⟩ hp3
  rw [show xs.length=ps.length by omega,List.take_length] at hz
  exact q p3 zs _ (s3.trans (ao hp3)) (s3.free hp3) ag (aM.same (ao hp3) _ hz)
def gS (p a e:Int) (y:PyData × Int × Int):PyData:=.tuple [y.1,.int y.2.2,.int (a^(e/y.2.1).toNat%p)]
def kf (ps:List (Int × Int)) (ds:Nat→PyData) (ts:List Int) (i:Nat):Option (PyData × Int × Int):=match ps[i]?,ts[i]? with
 | some y,some t=>if 0<t then some (ds i,y.1,t) else none
 | _,_=>none
def b7 (ps:List (Int × Int)) (ds:Nat→PyData) (ts:List Int) (n:Nat):List (PyData × Int × Int):=(List.range n).filterMap (kf ps ds ts)
def c8 (ps:List (Int × Int)) (ds:Nat→PyData) (ts:List Int):List (PyData × Int × Int):=b7 ps ds ts ps.length
theorem fK {ps:List (Int × Int)} {ds:Nat→PyData} {ts:List Int} {i:Nat} {q k t:Int} (hp:ps[i]?=some (q,k)) (ht:ts[i]?=some t):b7 ps ds ts (i+1)=b7 ps ds ts i++(if 0<t then [(ds i,q,t)] else []):=by
 unfold b7
 rw [List.range_succ,List.filterMap_append]
 congr 1
 have:kf ps ds ts i=if 0<t then some (ds i,q,t) else none:=by unfold kf;rw [hp,ht]
 by_cases c:0<t
 ·rw [if_pos c] at this ⊢
  simp [this]
 ·rw [if_neg c] at this ⊢
  simp [this]
theorem gQ {ps:List (Int × Int)} {ds:Nat→PyData} {ts:List Int} {n:Nat} {y:PyData × Int × Int} (h:y∈b7 ps ds ts n):∃ i k,ps[i]?=some (y.2.1,k)∧ts[i]?=some y.2.2∧0<y.2.2∧y.1=ds i:=by
 unfold b7 at h
 obtain⟨i,_,e⟩:=List.mem_filterMap.mp h
 unfold kf at e
 cases hp:ps[i]? with
 | none=>rw [hp] at e;cases e
 | some z =>
  cases ht:ts[i]? with
  | none=>rw [hp,ht] at e;cases e
  | some t =>
   rw [hp,ht] at e
   by_cases c:0<t
   ·have e':(if 0<t then some (ds i,z.1,t) else none)=some y:=e
    rw [if_pos c] at e'
    cases e'
    exact⟨i,z.2,hp,ht,c,rfl⟩
   ·have e':(if 0<t then some (ds i,z.1,t) else none)=some y:=e
    rw [if_neg c] at e'
    cases e'
theorem j5 {ps:List (Int × Int)} {ds:Nat→PyData} {ts:List Int} {n:Nat}:(b7 ps ds ts n).length≤n:=by
 unfold b7
 exact Nat.le_trans (List.length_filterMap_le ..) (by rw [List.length_range];exact Nat.le_refl _)
def kp (y:PyData × Int × Int):Int × Int:=(y.2.1,y.2.2)
def kD (y:PyData × Int × Int):PyData:=.tuple [y.1,.int y.2.2]
theorem iU {ps:List (Int × Int)} {ds:Nat→PyData} {ts:List Int} (hl:ts.length=ps.length) (h0:∀ t∈ts,0≤t):∀ n,n≤ps.length→Num.eN ((b7 ps ds ts n).map kp)=Num.eN (((ps.map (·.1)).zip ts).take n)
 | 0,_=>rfl
 | n+1,h=>by
  have ih:=iU (ds:=ds) hl h0 n (by omega)
  have hp:ps[n]?=some (ps[n].1,ps[n].2):=List.getElem?_eq_getElem (by omega)
  have ht:ts[n]?=some ts[n]:=List.getElem?_eq_getElem (by omega)
  have hz:((ps.map (·.1)).zip ts)[n]?=some (ps[n].1,ts[n]):=by
   rw [List.getElem?_zip_eq_some]
   exact⟨by rw [List.getElem?_map,hp];rfl,ht⟩
  rw [fK hp ht,List.take_add_one,hz,List.map_append,Num.cP,ih]
  show _=Num.eN (((ps.map (·.1)).zip ts).take n++[(ps[n].1,ts[n])])
  rw [jB]
  have t0:=h0 ts[n] (List.getElem_mem _)
  by_cases c:0<ts[n]
  ·rw [if_pos c]
   show _*(ps[n].1.toNat^ts[n].toNat*1)=_
   rw [Nat.mul_one]
  ·rw [if_neg c,show ts[n].toNat=0 by omega,Nat.pow_zero]
   rfl
theorem Cg {ps:List (Int × Int)} {ds:Nat→PyData} (h:∀ i q k,ps[i]?=some (q,k)→Num.gA q (ds i)):x8 (Num.rowsOf ps ds) ps:=by
 refine⟨Num.bw,fun i row hr=>?_⟩
 have hi:=(List.getElem?_eq_some_iff.mp hr).1
 rw [Num.bw] at hi
 have hg:ps[i]?=some (ps[i].1,ps[i].2):=List.getElem?_eq_getElem hi
 rw [Num.gU hg] at hr
 cases hr
 obtain⟨g,rows,e⟩:=(h i _ _ hg).head
 exact⟨_,hg,_,by rw [e]⟩
theorem sy {H:Hp} {ps:List (Int × Int)} {ds:Nat→PyData} {xs:List V} (hd:aM K H (Num.rowsOf ps ds) xs) {i:Nat} {x:V} (hx:xs[i]?=some x):∃ q k pt u,ps[i]?=some (q,k)∧x=.ref pt∧bC K H pt [u,.int k]∧dv K H (ds i) u:=by
 obtain⟨d,hd',hv⟩:=hd.get hx
 have hi:=(List.getElem?_eq_some_iff.mp hd').1
 rw [Num.bw] at hi
 have hg:=List.getElem?_eq_getElem hi
 rw [Num.gU hg] at hd'
 cases hd'
 obtain⟨pt,ys,rfl,h1,x1,r1,rfl,e1,x2,r2,rfl,e2,z⟩:=hv
 cases z
 cases e2
 exact⟨ps[i].1,ps[i].2,pt,x1,hg,rfl,h1,e1⟩
def xr (K:PySem.W.Frag):Sp:=fun vs H Q _=>∃(v:V) (p a g:Int) (ps:List (Int × Int)) (ds:Nat→PyData),vs=[.int p,.int a,v]∧dv K H (.tuple (Num.rowsOf ps ds)) v∧Num.gA p (.tuple [.int p,.int g,.tuple (Num.rowsOf ps ds)])∧Num.Part (p-1) ps∧ps.length≤29∧(∀ i q k,ps[i]?=some (q,k)→Num.gA q (ds i))∧¬p∣a ∧ -(10^60)≤a∧a≤10^60 ∧
 ∀(e:Int) (ts:List Int) (u:V) (H':Hp),1≤e→e<p→Num.Ord p a e.toNat→Num.TO p a ps ts→aB H H'→dv K H' (.tuple [.int e,.tuple ((c8 ps ds ts).map (gS p a e))]) u→Q u H'
theorem gL:ay [("n":Str),("a":Str),("parts":Str),("parting":Str),("times":Str),("kept":Str),("e":Str)] [("n":Str),("a":Str),("parts":Str)] (ak (top 51)):=⟨rfl,rfl,rfl,by decide +kernel,rfl,by decide +kernel,by decide +kernel⟩
theorem mS {C:Addr} (D:av K mg "order_from" (top 51)) (c_parting_in:Callee P w K mg base aK 1 "parting_in" ["parts"] (sT K)) (c_parting_inL:Callee P w K mg base aK 1 "parting_in" ["parts"] (sS K)) (c_most_times:Callee P w K mg base aK 1 "most_times" ["n","prime"] xj) (c_raised:Callee P w K mg base aK 5 "raised" ["n","a","parting"] (iC K)) (c_times_in_order:Callee P w K mg base aK 12 "times_in_order" ["n","a","parting"] (iD K 6)) (c_whole_of:Callee P w K mg base aK 1 "whole_of" ["parting"] (nJ K)) (c_power:Callee P w K mg base (dJ P w) 4 "power" ["n","a","e"] (c6 C)) (n_min:mg "min"=none) (n_zip:mg "zip"=none) (n_tuple:mg "tuple"=none):Callee P w K mg base aK 13 "order_from" [("n":Str),("a":Str),("parts":Str)] (xr K):=by
 refine aw D (fun _ _ _ _ _ _ us hl=>match us,hl with | [_,_,_],_=>rfl) gL (fun vs H Q E h=>by obtain⟨_,_,_,_,_,_,rfl,_⟩:=h;rfl) (fun f cdv A outer s H vs Q E hr h=>?_)
 obtain⟨v,p,a,g,ps,ds,rfl,hd,hp,hP,hl29,hds,na,a0,a1,q⟩:=h
 obtain⟨pm,p9⟩:=lV hp
 have p2:=pm.two
 have nd:=gL.nd
 refine⟨_,(ae (m8 (i0:=3) nd rfl (Or.inl rfl) rfl (cm (N':=["prime","many","n"]) (js:=[none,none,some 0]) rfl rfl (by decide +kernel) (by decide +kernel) (by repeat (first | exact True.intro | refine⟨rfl,?_⟩)) (by repeat (first | exact True.intro | refine⟨rfl,?_⟩ | refine⟨True.intro,?_⟩)) (by repeat (first | exact True.intro | refine⟨⟨rfl,rfl,.inl rfl,.inl rfl⟩,?_⟩))) (b9 (ai c_parting_in (hr.mono (by decide)) rfl aF (aa (pv 2) af))) (fun _ _ _ _=>(fj K rfl (n:=2) rfl (aA (ax (i:=0) (show List.Nodup [("prime":Str),("many":Str),("n":Str)] from by decide +kernel) rfl (Or.inl rfl) (.inr rfl)) (aA (ax (i:=1) (show List.Nodup [("prime":Str),("many":Str),("n":Str)] from by decide +kernel) rfl (Or.inl rfl) (.inr rfl)) aT)))) (fun _ _ _ _=>bG) (fun _ _ _ _=>(aN (aa (pv 0) (aa (aG (tH rfl) rfl n_min L2.boot_min (aa (pv 1) (aa (ai c_most_times (hr.mono (by decide)) rfl aF (aa (pv 2) (aa (pv 0) af))) af))) af)))) (by rfl) (by first | exact .inl rfl | exact .inr rfl)) (ae (aY (aD jg (ai c_raised (hr.mono (by decide)) rfl aF (aa (pv 0) (aa (au aI (pv 1) (pv 0)) (aa (pv 3) af)))) ah (aE _)) wJ aH) (iL.lR (ae (ar (i:=4) nd rfl (Or.inl rfl) (ai c_times_in_order (hr.mono (by decide)) rfl aF (aa (pv 0) (aa (au aI (pv 1) (pv 0)) (aa (pv 3) af))))) (ae (m8 (i0:=5) nd rfl (Or.inl rfl) rfl (cm (N':=["row","many"]) (js:=[none,none]) rfl rfl (by decide +kernel) (by decide +kernel) (by repeat (first | exact True.intro | refine⟨rfl,?_⟩)) (by repeat (first | exact True.intro | refine⟨rfl,?_⟩ | refine⟨True.intro,?_⟩)) (by repeat (first | exact True.intro | refine⟨⟨rfl,rfl,.inl rfl,.inl rfl⟩,?_⟩))) (Bl .t .l rfl n_zip (aa (pv 2) (aa (pv 4) af))) (fun _ _ _ _=>(fj K rfl (n:=2) rfl (aA (ax (i:=0) (show List.Nodup [("row":Str),("many":Str)] from by decide +kernel) rfl (Or.inl rfl) (.inr rfl)) (aA (ax (i:=1) (show List.Nodup [("row":Str),("many":Str)] from by decide +kernel) rfl (Or.inl rfl) (.inr rfl)) aT)))) (fun _ _ _ _=>(kB (aD cR (pv 1) ah (aE _)))) (fun _ _ _ _=>(aN (aa (aL (bK K rfl) (pv 0) ah (fun _ _=>rfl)) (aa (pv 1) af)))) (by rfl) (by first | exact .inl rfl | exact .inr rfl)) (ae (ar (i:=6) nd rfl (Or.inr rfl) (ai c_whole_of (hr.mono (by decide)) rfl aF (aa (ai c_parting_inL (hr.mono (by decide)) rfl aF (aa (pv 5) af)) af))) (aj (aC (aN (aa (pv 6) (aa (bW bI rfl n_tuple L2.boot_tuple (aa (dW rfl (cm (N':=["paper","many","n","a","e"]) (js:=[none,none,some 0,some 1,some 6]) rfl rfl (by decide +kernel) (by decide +kernel) (by repeat (first | exact True.intro | refine⟨rfl,?_⟩)) (by repeat (first | exact True.intro | refine⟨rfl,?_⟩ | refine⟨True.intro,?_⟩)) (by repeat (first | exact True.intro | refine⟨⟨rfl,rfl,.inl rfl,.inl rfl⟩,?_⟩))) (b9 (pv 5)) (fun _ _ _ _=>(fj K rfl (n:=2) rfl (aA (ax (i:=0) (show List.Nodup [("paper":Str),("many":Str),("n":Str),("a":Str),("e":Str)] from by decide +kernel) rfl (Or.inl rfl) (.inr rfl)) (aA (ax (i:=1) (show List.Nodup [("paper":Str),("many":Str),("n":Str),("a":Str),("e":Str)] from by decide +kernel) rfl (Or.inl rfl) (.inr rfl)) aT)))) (fun _ _ _ _=>bG) (fun _ _ _ _=>(aN (aa (pv 0) (aa (pv 1) (aa (ai c_power (hr.mono (by decide)) rfl aJ (aa (pv 2) (aa (pv 3) (aa (au bA (pv 4) (aL (bK K rfl) (pv 0) ah (fun _ _=>rfl))) af)))) af)))))) af)) af))))))))))),?_⟩
 show br _ _ _ [some (.int p),some (.int a),some v,none,none,none,none] H
 obtain⟨pr,xs,rfl,hSr,hdr⟩:=hd
 have xl:xs.length=ps.length:=by rw [hdr.length,Num.bw]
 have eE:Num.eN ps=(p-1).toNat:=by
  have:=Num.dP ps fun y z=>(hP.ok y z).1
  rw [hP.prod] at this
  omega
 have big:∀{zs:List (Int × Int)},(∀ y∈zs,2≤y.1)→Num.eN zs≤(p-1).toNat→∀{i:Nat} {q k:Int},zs[i]?=some (q,k)→q.toNat^k.toNat≤(p-1).toNat∧k≤29:=by
  intro zs h2 hz i q k hy
  have g1:=(vd h2 hy (j:=k.toNat) (Nat.le_refl _)).1
  have e0:Num.eN (zs.take i)≠0:=vf fun y z=>h2 y (List.mem_of_mem_take z)
  have g2:q.toNat^k.toNat≤(p-1).toNat:=Nat.le_trans (Nat.le_mul_of_pos_left _ (Nat.pos_of_ne_zero e0)) (Nat.le_trans g1 hz)
  have q2:2≤q:=h2 _ (List.mem_of_getElem? hy)
  have g3:(2:Int)^k.toNat≤q^k.toNat:=Num.two_pow_le q2 _
  have g4:q^k.toNat=((q.toNat^k.toNat:Nat):Int):=by rw [Int.natCast_pow,show (q.toNat:Int)=q by omega]
  have g5:k.toNat≤29:=Num.two_le (by omega)
  exact⟨g2,by omega⟩
 have okP:∀ y∈ps,Num.Pm y.1∧0≤y.2∧y.2≤10^6:=fun y hy=>by
  obtain⟨o1,o2,_⟩:=hP.ok y hy
  obtain⟨i,hi⟩:=List.mem_iff_getElem?.mp hy
  have:=(big (fun y z=>(hP.ok y z).1.two) (Nat.le_of_eq eE) hi).2
  exact⟨o1,by omega,by omega⟩
 have pwP:ps.Pairwise (fun x y=>y.1≠x.1):=hP.rise.imp fun h=>by omega
 k_data
 refine⟨.ref pr,_,ps,rfl,⟨pr,xs,rfl,hSr,hdr⟩,Cg hds,by rw [Num.bw];omega,fun p1 us1 H1 s1 f1 e1 d1=>?_⟩
 refine⟨p1,rfl,⟨_,aX.of e1⟩,?_⟩
 have ul:us1.length=ps.length:=by rw [d1.length,List.length_map]
 refine bR (xs:=us1) (fun i zs H3=>aB H1 H3∧aM K H3 ((ps.take i).map jI) zs) ⟨aB.refl _,rfl⟩ (by rw [ul];exact Nat.le_trans hl29 (by decide)) (fun i zs H3 hi ⟨z1,z2⟩=>⟨aX.of (z1 _ _ e1),by rw [z2.length,List.length_map,List.length_take];omega⟩) ?_ ?_
 ·rintro i x zs H3 hx ⟨s3,hz⟩
  obtain⟨d,hd',hv⟩:=d1.get hx
  rw [List.getElem?_map] at hd'
  obtain⟨⟨q',k'⟩,hy,rfl⟩:=Option.map_eq_some_iff.mp hd'
  obtain⟨pq,k0,k6⟩:=okP _ (List.mem_of_getElem? hy)
  replace pq:Num.Pm q':=pq
  replace k0:0≤k':=k0
  have q2:=pq.two
  obtain⟨pt,rfl,tt⟩:=iP hv
  have qb:=(big (fun y z=>(okP y z).1.two) (Nat.le_of_eq eE) hy).1
  have q9:q'≤10^9:=by
   have:=(jH hP (by omega) q' (List.mem_map.mpr ⟨_,List.mem_of_getElem? hy,rfl⟩)).2
   omega
  show qF K 2 _ _ [none,none,some (.int p)] _ _
  refine⟨pt,_,rfl,tt.same s3,rfl,?_⟩
  k_data
  refine⟨⟨rfl,True.intro⟩,p,q',rfl,by omega,by omega,q2,by omega,fun t ht=>⟨(t:Int),rfl,by show 2≤sizeLine;decide,fun p4 hp4=>?_⟩⟩
  have em:(if (t:Int)<k' then (t:Int) else k')=k':=by
   rw [if_neg]
   intro z
   have g4:q'^(t+1)=((q'.toNat^(t+1):Nat):Int):=by rw [Int.natCast_pow,show (q'.toNat:Int)=q' by omega]
   have g5:q'.toNat^(t+1)≤q'.toNat^k'.toNat:=Nat.pow_le_pow_right (by omega) (by omega)
   omega
  rw [em]
  have s4:=ao (o:=.tup [V.int q',V.int k']) hp4
  refine⟨s3.trans s4,?_⟩
  rw [List.take_add_one,hy,List.map_append]
  exact aM.append (aM.same s4 _ hz) (.one (dv.tup ag ⟨_,_,rfl,rfl,.one rfl⟩))
 ·rintro zs H3 p3 ⟨s3,hz⟩ hp3
  rw [ul,List.take_length] at hz
  have s4:=ao (o:=.lst zs) hp3
  have e4:upd H3 p3 (.lst zs) p3=some (.lst zs):=ag
  generalize upd H3 p3 _=H4 at *
  have S4:=(s1.trans s3).trans s4
  have d4:=aM.same s4 _ hz
  have r0:=Int.emod_nonneg a (show p≠0 by omega)
  have r1:=Int.emod_lt_of_pos a (show 0<p by omega)
  have one:(a%p)^Num.eN ps%p=1:=by
   rw [eE]
   exact (bZ p2).mpr (((Num.Al.rest p a).pow _).trans (Num.gP pm na))
  refine⟨by omega,p,a%p,p3,zs,ps,rfl,by omega,by omega,r0,r1,e4,d4,fun y z=>⟨(okP y z).1.two,(okP y z).2⟩,fun H5 s5=>⟨rfl,?_⟩⟩
  rw [one,if_neg (by intro z;exact z rfl)]
  refine⟨by omega,p,a%p,p3,zs,ps,rfl,⟨by decide,by show ps.length≤32;omega⟩,by omega,p2,by omega,r0,r1,s5 _ _ e4,aM.same s5 _ d4,okP,pwP,one,fun p6 ts H6 hTO s6 f6 e6=>?_⟩
  have hTO':=hTO.al (Num.Al.rest p a)
  have S6:=(S4.trans s5).trans s6
  have tl:ts.length=ps.length:=hTO.len
  have eZ:Num.eN ((b7 ps ds ts ps.length).map kp)=Num.eN ((ps.map (·.1)).zip ts):=by
   rw [iU tl hTO.nn _ (Nat.le_refl _),List.take_of_length_le]
   rw [List.length_zip,List.length_map]
   omega
  have oE:=hTO'.ord
  rw [← eZ] at oE
  have eP:0<Num.eN ((b7 ps ds ts ps.length).map kp)∧Num.eN ((b7 ps ds ts ps.length).map kp)≤(p-1).toNat:=by
   refine⟨oE.pos,Nat.le_of_dvd (by omega) (oE.dv _ (Num.gP pm na))⟩
  k_data
  refine⟨⟨xs,hSr.same S6⟩,⟨_,aX.of e6⟩,?_⟩
  refine lF (xs:=xs) (ys:=ts.map V.int) (fun i zs H7=>aB H6 H7∧aM K H7 ((b7 ps ds ts i).map kD) zs) ⟨aB.refl _,rfl⟩ (by rw [List.length_map,tl,xl]) (by rw [xl];exact Nat.le_trans hl29 (by decide)) (fun i zs H7 hi ⟨z1,z2⟩=>⟨hSr.same (S6.trans z1),aX.of (z1 _ _ e6),by rw [z2.length,List.length_map];exact j5⟩) ?_ ?_
  ·rintro i x y zs H7 p7 hx hy ⟨s7,hz7⟩ hp7
   obtain⟨q',k',pt,u,hpi,rfl,t1,t2⟩:=sy hdr hx
   rw [List.getElem?_map] at hy
   obtain⟨t,ht,rfl⟩:=Option.map_eq_some_iff.mp hy
   have s8:=ao (o:=.tup [V.ref pt,V.int t]) hp7
   show qF K 2 _ _ [none,none] _ _
   refine⟨p7,_,rfl,bC.of ag,rfl,?_⟩
   generalize upd H7 p7 _=H8 at *
   have S8:=(S6.trans s7).trans s8
   rw [fK hpi ht]
   k_data
   refine⟨True.intro,aP (fun c=>?_) (fun c=>?_)⟩
   ·rw [if_pos c]
    refine bp (t1.same S8) iO ⟨by show 2≤sizeLine;decide,fun p9 hp9=>?_⟩
    have s9:=ao (o:=.tup [u,V.int t]) hp9
    refine⟨(s7.trans s8).trans s9,?_⟩
    rw [List.map_append]
    exact aM.append (aM.same (s8.trans s9) _ hz7) (.one (dv.tup ag ⟨_,_,rfl,dv.same (S8.trans s9) _ t2,.one rfl⟩))
   ·rw [if_neg c,List.append_nil]
    exact⟨s7.trans s8,aM.same s8 _ hz7⟩
  ·rintro zs H7 p7 ⟨s7,hz7⟩ hp7
   rw [xl] at hz7
   have s8:=ao (o:=.lst zs) hp7
   have e8:upd H7 p7 (.lst zs) p7=some (.lst zs):=ag
   generalize upd H7 p7 _=H8 at *
   have S8:=(S6.trans s7).trans s8
   have d8:=aM.same s8 _ hz7
   have kl:(b7 ps ds ts ps.length).length≤29:=Nat.le_trans j5 hl29
   have kmem:∀ y∈b7 ps ds ts ps.length,Num.Pm y.2.1∧0<y.2.2∧y.2.2≤29∧Num.gA y.2.1 y.1:=fun y hy=>by
    obtain⟨i,k,h1,h2,h3,h4⟩:=gQ hy
    have hz:((ps.map (·.1)).zip ts)[i]?=some (y.2.1,y.2.2):=by
     rw [List.getElem?_zip_eq_some]
     exact⟨by rw [List.getElem?_map,h1];rfl,h2⟩
    have h5:=(big (zs:=(ps.map (·.1)).zip ts) (fun z hz=>by
     have:=(List.of_mem_zip (show (z.1,z.2)∈_ from hz)).1
     obtain⟨w',hw',e⟩:=List.mem_map.mp this
     rw [← e]
     exact (okP w' hw').1.two) (by rw [← eZ];exact eP.2) hz).2
    exact⟨(okP _ (List.mem_of_getElem? h1)).1,h3,h5,by rw [h4];exact hds i _ _ h1⟩
   obtain⟨ks,hks⟩:∃ ks,b7 ps ds ts ps.length=ks:=⟨_,rfl⟩
   rw [hks] at eZ oE eP kl kmem d8
   have zl:zs.length=ks.length:=by rw [d8.length,List.length_map]
   refine⟨p7,zs,ks.map kD,ks.map kp,rfl,e8,d8,⟨by rw [List.length_map,List.length_map],fun i row hr=>?_⟩,by rw [List.length_map];omega,fun p9 us9 H9 s9 f9 e9 d9=>?_⟩
   ·rw [List.getElem?_map] at hr
    obtain⟨y,hy,rfl⟩:=Option.map_eq_some_iff.mp hr
    obtain⟨g',rows',e'⟩:=(kmem y (List.mem_of_getElem? hy)).2.2.2.head
    exact⟨kp y,by rw [List.getElem?_map,hy];rfl,_,by show PyData.tuple [y.1,.int y.2.2]=_;rw [e'];rfl⟩
   refine⟨p9,us9,_,rfl,e9,d9,fun y hy=>?_,by omega,fun H10 s10=>?_⟩
   ·obtain⟨z,hz,rfl⟩:=List.mem_map.mp hy
    obtain⟨m1,m2,m3,_⟩:=kmem z hz
    exact⟨m1.two,by show 0≤z.2.2;omega,by show z.2.2≤10^6;omega⟩
   have S10:=s9.trans s10
   refine⟨p7,rfl,⟨_,aX.of (S10 _ _ e8)⟩,?_⟩
   have eb:(1:Int)≤(Num.eN (ks.map kp):Int)∧(Num.eN (ks.map kp):Int)<p:=by omega
   have oE':Num.Ord p a ((Num.eN (ks.map kp):Int)).toNat:=by rw [Int.toNat_natCast];exact oE
   generalize (Num.eN (ks.map kp):Int)=e at *
   refine bR (xs:=zs) (fun i rs H11=>aB H10 H11∧aM K H11 ((ks.take i).map (gS p a e)) rs) ⟨aB.refl _,rfl⟩ (by rw [zl];exact Nat.le_trans kl (by decide)) (fun i rs H11 hi ⟨z1,z2⟩=>⟨aX.of (z1 _ _ (S10 _ _ e8)),by rw [z2.length,List.length_map,List.length_take];omega⟩) ?_ ?_
   ·rintro i x rs H11 hx ⟨s11,hr⟩
    obtain⟨d,hd',hv⟩:=(aM.same (S10.trans s11) _ d8).get hx
    rw [List.getElem?_map] at hd'
    obtain⟨y,hy,rfl⟩:=Option.map_eq_some_iff.mp hd'
    obtain⟨m1,m2,m3,m4⟩:=kmem y (List.mem_of_getElem? hy)
    obtain⟨pt,ys,rfl,h1,x1,r1,rfl,e1',x2,r2,rfl,e2',z⟩:=hv
    cases z
    cases e2'
    have e1d:=e1'
    obtain⟨g',rows',e'⟩:=m4.head
    rw [e'] at e1'
    obtain⟨pq,zs',rfl,h2,y1,r3,rfl,f1',f2⟩:=e1'
    cases f1'
    have q2:=m1.two
    have q9:=(lV m4).2
    show qF K 2 _ _ [none,none,some (.int p),some (.int a),some (.int e)] _ _
    refine⟨pt,_,rfl,h1,rfl,?_⟩
    k_data
    refine⟨⟨rfl,rfl,rfl,True.intro⟩,bp h2 iO ⟨y.2.1,rfl,by omega,Bd.of (by omega) (by omega),p,a,e/y.2.1,rfl,by omega,by omega,fun _ H12 s12=>⟨by show 3≤sizeLine;decide,fun p13 hp13=>?_⟩,fun z=>absurd z (by have:=Int.ediv_nonneg (show 0≤e by omega) (show 0≤y.2.1 by omega);omega)⟩⟩
    have s13:=ao (o:=.tup [V.ref pq,V.int y.2.2,V.int (a^(e/y.2.1).toNat%p)]) hp13
    refine⟨(s11.trans s12).trans s13,?_⟩
    rw [List.take_add_one,hy,List.map_append]
    exact aM.append (aM.same (s12.trans s13) _ hr) (.one (dv.tup ag ⟨_,_,rfl,dv.same (s12.trans s13) _ e1d,_,_,rfl,rfl,.one rfl⟩))
   ·rintro rs H11 p11 ⟨s11,hr⟩ hp11
    rw [zl,List.take_length] at hr
    have s12:=ao (o:=.lst rs) hp11
    refine⟨p11,rfl,rs,.inl ⟨aX.of ag,fun l hl'=>⟨by show 2≤sizeLine;decide,fun p13 hp13=>?_⟩⟩⟩
    generalize upd H11 p11 _=H12 at *
    have s13:=ao (o:=.tup rs) hl'
    have e13:upd H12 l (.tup rs) l=some (.tup rs):=ag
    generalize upd H12 l _=H13 at *
    have s14:=ao (o:=.tup [V.int e,V.ref l]) hp13
    have ek:c8 ps ds ts=ks:=hks
    refine q e ts _ _ eb.1 eb.2 oE' hTO' (((((S8.trans S10).trans s11).trans s12).trans s13).trans s14) ?_
    rw [ek]
    exact dv.tup ag ⟨_,_,rfl,rfl,.one (dv.tup (s14 _ _ e13) (aM.same ((s12.trans s13).trans s14) _ hr))⟩
end
end K
namespace K
open PySem PySem.Spec PyProof.Rows L2
section
variable {P:Program} {w:World} {K:PySem.W.Frag} {mg:Str→Option Value} {base:Heap}
def Ao (p a:Int) (rows:PyData) (r:PyData):Prop:=∃(e:Int) (ps:List (Int × Int)) (ds:Nat→PyData) (ts:List Int),rows=.tuple (Num.rowsOf ps ds)∧Num.Part (p-1) ps∧ps.length≤29∧(∀ i q k,ps[i]?=some (q,k)→Num.gA q (ds i))∧1≤e∧e<p∧Num.Ord p a e.toNat∧Num.TO p a ps ts∧r=.tuple [.int e,.tuple ((c8 ps ds ts).map (gS p a e))]
def sP (K:PySem.W.Frag) (C:Addr):Sp:=fun vs H Q E=>∃(v:V) (p a g:Int) (rows:PyData),vs=[v,.int a]∧dv K H (.tuple [.int p,.int g,rows]) v∧Num.gA p (.tuple [.int p,.int g,rows]) ∧ -(10^60)≤a∧a≤10^60∧(p∣a→zF C H E) ∧
 (¬p∣a→∀ r u H',Ao p a rows r→aB H H'→dv K H' r u→Q u H')
theorem pS:ay [("paper":Str),("a":Str),("p":Str),("full":Str),("parts":Str)] [("paper":Str),("a":Str)] (ak (top 56)):=⟨rfl,rfl,rfl,by decide +kernel,rfl,by decide +kernel,by decide +kernel⟩
theorem v9 {C:Addr} (D:av K mg "order" (top 56)) (c_order_from:Callee P w K mg base aK 13 "order_from" ["n","a","parts"] (xr K)) (x_Nought:tw K mg "Nought" C):Callee P w K mg base (dJ P w) 14 "order" [("paper":Str),("a":Str)] (sP K C):=by
 refine cj D (fun _ _ _ _ _ _ us hl=>match us,hl with | [_,_],_=>rfl) pS (fun vs H Q E h=>by obtain⟨_,_,_,_,_,rfl,_⟩:=h;rfl) (fun f cdv A outer s H vs Q E hr h=>?_)
 obtain⟨v,p,a,g,rows,rfl,hd,hp,a0,a1,q1,q2⟩:=h
 obtain⟨pm,p9⟩:=lV hp
 have p2:=pm.two
 have nd:=pS.nd
 refine⟨_,(ae (cK (pv 0) (bQ (n:=3) rfl (aA (ax (i:=2) nd rfl (Or.inl rfl) (.inr rfl)) (aA (ax (i:=3) nd rfl (Or.inl rfl) (.inr rfl)) (aA (ax (i:=4) nd rfl (Or.inl rfl) (.inr rfl)) aT))))) (ae (aY (aD bO (au aI (pv 1) (pv 2)) ah (aE _)) (aj (cT (mY x_Nought rfl))) aH) (iL.lR (aj (aC (ai c_order_from (hr.mono (by decide)) rfl aF (aa (pv 2) (aa (pv 1) (aa (pv 4) af))))))))),?_⟩
 show br _ _ _ [some v,some (.int a),none,none,none] H
 obtain⟨g',ps,ds,eq,hg,hP,hl29,hds⟩:=mV hp
 cases eq
 obtain⟨pp,y1,y2,vr,rfl,tS,e0,eg,dr⟩:=jW hd
 cases e0
 cases eg
 k_data
 refine⟨pp,_,rfl,tS,rfl,?_⟩
 k_data
 refine⟨by omega,aP (fun c=>?_) (fun c=>?_)⟩
 ·exact fun x hx=>gf x_Nought.cls (aB.refl _) hx (q1 (Int.dvd_of_emod_eq_zero c))
 ·have na:¬p∣a:=fun z=>c (Int.emod_eq_zero_of_dvd z)
  exact⟨vr,p,a,g,ps,ds,rfl,dr,hp,hP,hl29,hds,na,a0,a1,fun e ts u H' e1 e2 o t s' hu=>q2 na _ u H' ⟨e,ps,ds,ts,rfl,hP,hl29,hds,e1,e2,o,t,rfl⟩ s' hu⟩
end
end K
namespace K
open PySem PySem.Spec PyProof.Rows L2
section
variable {P:Program} {w:World} {K:PySem.W.Frag} {mg:Str→Option Value} {base:Heap}
def PW (p a k y:Int):Prop:=∃ b:Int,(0≤k∧b=a∨k<0∧p∣b*a-1)∧y=b^k.natAbs%p
end
end K
namespace K
open PySem PySem.Spec PyProof.Rows L2
section
variable {P:Program} {w:World} {K:PySem.W.Frag} {mg:Str→Option Value} {base:Heap}
theorem jA {H:Hp} {m n:Int} {v:V} (h:dv K H (jI (m,n)) v):∃ q,v=.ref q∧bC K H q [.int m,.int n]:=by
 obtain⟨q,xs,e,h1,h2⟩:=h
 obtain⟨x,r,e1,d1,h3⟩:=h2
 obtain⟨y,r',e2,d2,h4⟩:=h3
 cases h4
 cases d1
 cases d2
 subst e1
 subst e2
 exact⟨q,e,h1⟩
theorem B4 {a b g u v:Int} (ha:0<a) (z:Gcd.BZ a b g u v):Crt.G a b g:=by
 refine⟨?_,z.da,z.db,⟨u,v,z.lin⟩⟩
 have:=z.g0
 rcases (by omega:g=0∨0<g) with e | e
 ·have h:=z.da
  rw [e] at h
  have:=Int.zero_dvd.mp h
  omega
 ·exact e
theorem yD {g x:Int}:(!decide (x%g=0))=decide (¬g∣x):=by
 by_cases h:g∣x
 ·rw [Int.emod_eq_zero_of_dvd h];simp [h]
 ·have:¬x%g=0:=fun z=>h (Int.dvd_of_emod_eq_zero z)
  simp [h,this]
theorem Dx {a d L:Int} (hd:0<d) (h0:-L≤a) (h1:a≤L):-L≤a/d∧a/d≤L:=by
 have L0:0≤L:=by omega
 have h2:L*1≤L*d:=Int.mul_le_mul_of_nonneg_left (show 1≤d by omega) L0
 refine⟨Int.le_ediv_of_mul_le hd (by rw [Int.neg_mul];omega),Int.ediv_le_of_le_mul hd (by omega)⟩
theorem B3 {M m g:Int} (hm:0<m) (G:Crt.G M m g):0<m/g∧m/g≤m∧Gd (m/g) (M/g) 1:=by
 have g0:=G.pos
 obtain⟨A,hA⟩:=G.da
 obtain⟨L,hL⟩:=G.db
 have e1:m/g=L:=by rw [hL];exact Int.mul_ediv_cancel_left _ (by omega)
 have e2:M/g=A:=by rw [hA];exact Int.mul_ediv_cancel_left _ (by omega)
 obtain⟨u,v,e⟩:=G.lin
 have e4:u*A+v*L=1:=Int.eq_of_mul_eq_mul_left (show g≠0 by omega) (Crt.a1 (by rw [hA,hL] at e;exact e))
 rw [e1,e2]
 have L0:0<L:=by
  rcases (by omega:L≤0∨0<L) with z | z
  ·have:=Int.mul_nonpos_of_nonneg_of_nonpos (Int.le_of_lt g0) z
   omega
  ·exact z
 refine⟨L0,?_,by decide,Int.one_dvd _,Int.one_dvd _,fun d h1 h2=>?_⟩
 ·rw [hL]
  have:=Int.mul_le_mul_of_nonneg_right (show 1≤g by omega) (Int.le_of_lt L0)
  omega
 ·rw [← e4]
  exact Int.dvd_add (Int.dvd_mul_of_dvd_right h2) (Int.dvd_mul_of_dvd_right h1)
def sL (K:PySem.W.Frag):Sp:=fun vs H Q _=>∃(v1 v2:V) (m n m' n':Int),vs=[v1,v2]∧dv K H (jI (m,n)) v1∧dv K H (jI (m',n')) v2∧0<m∧m≤10^20∧0<m'∧m'≤10^20∧∀ g H',Crt.G m m' g→aB H H'→Q (.bl (decide (¬g∣n-n'))) H'
theorem iu:ay [("one":Str),("other":Str)] [("one":Str),("other":Str)] (ak (top 60)):=⟨rfl,rfl,rfl,by decide +kernel,rfl,by decide +kernel,by decide +kernel⟩
theorem vW (D:av K mg "are_apart" (top 60)) (c_divisor:Callee P w K mg base aK 1 "divisor" ["a","b"] gu):Callee P w K mg base aK 2 "are_apart" [("one":Str),("other":Str)] (sL K):=by
 refine aw D (fun _ _ _ _ _ _ us hl=>match us,hl with | [_,_],_=>rfl) iu (fun vs H Q E h=>by obtain⟨a,b,c,d,e,f,rfl,_⟩:=h;rfl) (fun f cdv A outer s H vs Q E hr h=>?_)
 obtain⟨v1,v2,m,n,m',n',rfl,h1,h2,hm,hm1,hm',hm1',q⟩:=h
 obtain⟨q1,rfl,t1⟩:=jA h1
 obtain⟨q2,rfl,t2⟩:=jA h2
 have nd:=iu.nd
 refine⟨_,(aj (aC (bL jg (au aI (au cq (aL aR (pv 0) ah (fun _ _=>rfl)) (aL aR (pv 1) ah (fun _ _=>rfl))) (aL aR (ai c_divisor (hr.mono (by decide)) rfl aF (aa (aL aR (pv 0) ah (fun _ _=>rfl)) (aa (aL aR (pv 1) ah (fun _ _=>rfl)) af))) ah (fun _ _=>rfl))) ah (aE _)))),?_⟩
 show eY _ _ [some (.ref q1),some (.ref q2)] H
 k_data
 refine bp t1 rfl (bp t2 rfl ⟨n,rfl,n',rfl,bp t1 rfl (bp t2 rfl ?_)⟩)
 refine⟨m,m',rfl,⟨by omega,by omega⟩,⟨by omega,by omega⟩,fun g u v p H1 z s1 e1=>?_⟩
 have G:=B4 hm z
 refine bp (bC.of e1) rfl ⟨g,rfl,G.pos,?_⟩
 rw [yD]
 exact q g H1 G s1
def xb (K:PySem.W.Frag):Sp:=fun vs H Q _=>∃(v1 v2:V) (M N m n:Int),vs=[v1,v2]∧dv K H (jI (M,N)) v1∧dv K H (jI (m,n)) v2∧0<M∧M≤10^220∧0≤N∧N<M∧0<m∧m≤10^20 ∧ -(10^80)≤n∧n≤10^80∧(∀ g,Crt.G M m g→g∣n-N) ∧
 ∀ p W x H',Crt.Ag M N m n W x→W≤M*m→aB H H'→H p=none→H' p=some (.tup [.int W,.int x])→Q (.ref p) H'
theorem eS:ay [("one":Str),("other":Str),("modulus":Str),("number":Str),("other_modulus":Str),("other_number":Str),("g":Str),("left":Str),("times":Str),("whole":Str)] [("one":Str),("other":Str)] (ak (top 61)):=⟨rfl,rfl,rfl,by decide +kernel,rfl,by decide +kernel,by decide +kernel⟩
theorem yF {C:Addr} (D:av K mg "both_together" (top 61)) (c_divisor:Callee P w K mg base aK 1 "divisor" ["a","b"] gu) (c_inverse:Callee P w K mg base (dJ P w) 3 "inverse" ["n","a"] (gv C)):Callee P w K mg base aK 4 "both_together" [("one":Str),("other":Str)] (xb K):=by
 refine aw D (fun _ _ _ _ _ _ us hl=>match us,hl with | [_,_],_=>rfl) eS (fun vs H Q E h=>by obtain⟨a,b,c,d,e,f,rfl,_⟩:=h;rfl) (fun f cdv A outer s H vs Q E hr h=>?_)
 obtain⟨v1,v2,M,N,m,n,rfl,h1,h2,hM,hM1,hN,hN1,hm,hm1,hn,hn1,hd,q⟩:=h
 obtain⟨q1,rfl,t1⟩:=jA h1
 obtain⟨q2,rfl,t2⟩:=jA h2
 have nd:=eS.nd
 refine⟨_,(ae (cK (pv 0) (bQ (n:=2) rfl (aA (ax (i:=2) nd rfl (Or.inl rfl) (.inr rfl)) (aA (ax (i:=3) nd rfl (Or.inl rfl) (.inr rfl)) aT)))) (ae (cK (pv 1) (bQ (n:=2) rfl (aA (ax (i:=4) nd rfl (Or.inl rfl) (.inr rfl)) (aA (ax (i:=5) nd rfl (Or.inl rfl) (.inr rfl)) aT)))) (ae (ar (i:=6) nd rfl (Or.inl rfl) (aL aR (ai c_divisor (hr.mono (by decide)) rfl aF (aa (pv 2) (aa (pv 4) af))) ah (fun _ _=>rfl))) (ae (ar (i:=7) nd rfl (Or.inl rfl) (au bA (pv 4) (pv 6))) (ae (ar (i:=8) nd rfl (Or.inl rfl) (au aI (au aO (au bA (au cq (pv 5) (pv 3)) (pv 6)) (ai c_inverse (hr.mono (by decide)) rfl aJ (aa (pv 7) (aa (au bA (pv 2) (pv 6)) af)))) (pv 7))) (ae (ar (i:=9) nd rfl (Or.inl rfl) (au aO (pv 2) (pv 7))) (aj (aC (aN (aa (pv 9) (aa (au aI (au bB (pv 3) (au aO (pv 2) (pv 8))) (pv 9)) af))))))))))),?_⟩
 show br _ _ _ [some (.ref q1),some (.ref q2),none,none,none,none,none,none,none,none] H
 k_data
 refine⟨q1,_,rfl,t1,rfl,?_⟩
 k_data
 refine⟨q2,_,rfl,t2,rfl,?_⟩
 k_data
 refine⟨M,m,rfl,⟨by omega,by omega⟩,⟨by omega,by omega⟩,fun g u v p H1 z s1 e1=>?_⟩
 have G:=B4 hM z
 have g0:=G.pos
 have gm:g≤m:=Int.le_of_dvd hm G.db
 refine bp (bC.of e1) rfl ?_
 k_data
 obtain⟨L0,L1,GD⟩:=B3 hm G
 have qb:=Dx (a:=n-N) (d:=g) (L:=10^221) g0 (by omega) (by omega)
 have bg:Bd g:=Bd.of (by omega) (by omega)
 refine⟨g0,bg,g0,bg,g0,bg,m/g,M/g,rfl,L0,by omega,fun g' G'=>⟨fun _ r H2 r0 r1 r2 s2=>?_,fun z=>absurd z (by have:=GD.one G';omega)⟩⟩
 have B:=Crt.both (N:=N) (n:=n) (r:=r) hM hm G (hd g G) r2
 have W1:M*(m/g)≤M*m:=Int.mul_le_mul_of_nonneg_left L1 (Int.le_of_lt hM)
 have t0:=Int.emod_nonneg ((n-N)/g*r) (show m/g≠0 by omega)
 have t1':=Int.emod_lt_of_pos ((n-N)/g*r) L0
 refine⟨r,rfl,Bd.of (by omega) (by omega),Bd.of (by omega) (by omega),L0,Bd.of (by omega) (by omega),Bd.of (by omega) (by omega),Bd.of (by omega) (by omega),Bd.of (by omega) (by omega),B.pos,by show 2≤sizeLine;decide,fun p3 hp3=>?_⟩
 exact q p3 _ _ _ B W1 ((s1.trans s2).BM hp3) ((s1.trans s2).free hp3) ag
def Ap (pls:List (Int × Int)) (i j:Nat):Prop:=∃ p q g,pls[i]?=some p∧pls[j]?=some q∧Crt.G p.1 q.1 g∧¬g∣p.2-q.2
def A1 (p:Int × Int):Prop:=0<p.1∧p.1≤10^18 ∧ -(10^80)≤p.2∧p.2≤10^80
def sM (K:PySem.W.Frag):Sp:=fun vs H Q _=>∃(a:Addr) (us:List V) (pls:List (Int × Int)),vs=[.ref a]∧aX K H a us∧aM K H (pls.map jI) us∧(∀ p∈pls,A1 p)∧pls.length≤20 ∧
 (∀ i j p H',i<j→Ap pls i j→(∀ i' j',i'<j'→(i'<i∨(i'=i∧j'<j))→¬Ap pls i' j')→aB H H'→H p=none→H' p=some (.tup [.int (i:Nat),.int (j:Nat)])→Q (.ref p) H') ∧
 (∀ H',(∀ i j,i<j→¬Ap pls i j)→aB H H'→Q .non H')
theorem fV:ay [("places":Str),("i":Str),("one":Str),("j":Str),("other":Str)] [("places":Str)] (ak (top 59)):=⟨rfl,rfl,rfl,by decide +kernel,rfl,by decide +kernel,by decide +kernel⟩
theorem vX (D:av K mg "first_apart" (top 59)) (c_are_apart:Callee P w K mg base aK 2 "are_apart" ["one","other"] (sL K)) (n_enumerate:mg "enumerate"=none):Callee P w K mg base aK 3 "first_apart" [("places":Str)] (sM K):=by
 refine aw D (fun _ _ _ _ _ _ us hl=>match us,hl with | [_],_=>rfl) fV (fun vs H Q E h=>by obtain⟨a,b,c,rfl,_⟩:=h;rfl) (fun f cdv A outer s H vs Q E hr h=>?_)
 obtain⟨a,us,pls,rfl,hS,hd,hok,hlen,q1,q2⟩:=h
 have nd:=fV.nd
 refine⟨_,(ae (cZ PassesOwn.never rfl (sq rfl n_enumerate (aa (pv 0) af)) (bQ (n:=2) rfl (aA (ax (i:=1) nd rfl (Or.inl rfl) (.inr rfl)) (aA (ax (i:=2) nd rfl (Or.inl rfl) (.inr rfl)) aT))) (aj (cZ PassesOwn.never rfl (sq rfl n_enumerate (aa (pv 0) af)) (bQ (n:=2) rfl (aA (ax (i:=3) nd rfl (Or.inl rfl) (.inr rfl)) (aA (ax (i:=4) nd rfl (Or.inl rfl) (.inr rfl)) aT))) (aj (aY (PW.pt (fm (aD dR (pv 1) (pv 3) (aE _)) (fu (a9 (ai c_are_apart (hr.mono (by decide)) rfl aF (aa (pv 2) (aa (pv 4) af))) (fun _=>rfl))))) (aj (aC (aN (aa (pv 1) (aa (pv 3) af))))) aH))))) (aj (aC iY))),?_⟩
 show br _ _ _ [some (.ref a),none,none,none,none] H
 k_data
 have hul:us.length=pls.length:=by rw [hd.length,List.length_map]
 have at_:∀{k:Nat} {x:V},us[k]?=some x→∃ p,pls[k]?=some p∧A1 p∧dv K H (jI p) x:=by
  intro k x hx
  obtain⟨d,e,hv⟩:=hd.get hx
  rw [List.getElem?_map] at e
  obtain⟨p,e1,e2⟩:=Option.map_eq_some_iff.mp e
  subst e2
  exact⟨p,e1,hok p (List.mem_of_getElem? e1),hv⟩
 refine⟨⟨_,hS⟩,?_⟩
 refine lP (xs:=us) (fun i σ' H'=>(∃ o1 o2 o3 o4:Option V,σ'=[some (.ref a),o1,o2,o3,o4])∧aB H H'∧∀ i' j',i'<j'→i'<i→¬Ap pls i' j') ⟨⟨_,_,_,_,rfl⟩,aB.refl _,fun _ _ _ z=>absurd z (by omega)⟩ (fun i σ' H' _ h=>hS.same h.2.1) ?_ ?_
 ·rintro i x σ' H' p hx ⟨⟨o1,o2,o3,o4,rfl⟩,hs,hno⟩ hp
  have s1:=hs.trans (ao (o:=.tup [.int i,x]) hp)
  refine⟨p,_,rfl,bC.of ag,rfl,?_⟩
  generalize upd H' p _=H1 at *
  k_data
  refine⟨⟨_,hS.same s1⟩,?_⟩
  refine lP (xs:=us) (fun j σ' H2=>(∃ o3 o4:Option V,σ'=[some (.ref a),some (.int (i:Int)),some x,o3,o4])∧aB H H2∧∀ j',j'<j→i<j'→¬Ap pls i j') ⟨⟨_,_,rfl⟩,s1,fun _ z=>absurd z (by omega)⟩ (fun j σ' H2 _ h=>hS.same h.2.1) ?_ ?_
  ·rintro j y σ' H2 p2 hy ⟨⟨o3,o4,rfl⟩,hs2,hno2⟩ hp2
   have s3:=hs2.trans (ao (o:=.tup [.int j,y]) hp2)
   refine⟨p2,_,rfl,bC.of ag,rfl,?_⟩
   generalize upd H2 p2 _=H3 at *
   k_data
   refine aP (fun c=>?_) (fun c=>?_)
   ·obtain⟨pi,ei,oi,di⟩:=at_ hx
    obtain⟨pj,ej,oj,dj⟩:=at_ hy
    refine⟨x,y,pi.1,pi.2,pj.1,pj.2,rfl,dv.same s3 _ di,dv.same s3 _ dj,oi.1,Int.le_trans oi.2.1 (by decide),oj.1,Int.le_trans oj.2.1 (by decide),fun g H4 G s4=>⟨_,aU.mpr rfl,?_⟩⟩
    by_cases dvd:g∣pi.2-pj.2
    ·rw [if_neg (by simp [dvd])]
     refine⟨s3.trans s4,fun j' z1 z2=>?_⟩
     rcases (by omega:j'<j∨j'=j) with z | z
     ·exact hno2 j' z z2
     ·subst z
      rintro⟨p',q',g',e1,e2,e3,e4⟩
      rw [ei] at e1;cases e1
      rw [ej] at e2;cases e2
      obtain rfl:=G.one e3
      exact e4 dvd
    ·rw [if_pos (by simp [dvd])]
     refine⟨by show 2≤sizeLine;decide,fun p3 hp3=>?_⟩
     refine q1 i j p3 _ (by omega) ⟨pi,pj,g,ei,ej,G,dvd⟩ (fun i' j' z1 z2=>?_) ((s3.trans s4).BM hp3) ((s3.trans s4).free hp3) ag
     rcases z2 with z2 | ⟨z2,z3⟩
     ·exact hno i' j' z1 z2
     ·subst z2
      exact hno2 j' z3 z1
   ·refine⟨s3,fun j' z1 z2=>?_⟩
    rcases (by omega:j'<j∨j'=j) with z | z
    ·exact hno2 j' z z2
    ·omega
  ·rintro σ' H2 ⟨⟨o3,o4,rfl⟩,hs2,hno2⟩
   refine⟨⟨_,_,_,_,rfl⟩,hs2,fun i' j' z1 z2=>?_⟩
   rcases (by omega:i'<i∨i'=i) with z | z
   ·exact hno i' j' z1 z
   ·subst z
    by_cases z3:j'<us.length
    ·exact hno2 j' z3 z1
    ·rintro⟨p',q',g',e1,e2,e3,e4⟩
     have:=(List.getElem?_eq_some_iff.mp e2).1
     omega
 ·rintro σ' H' ⟨⟨o1,o2,o3,o4,rfl⟩,hs,hno⟩
  k_data
  refine q2 H' (fun i j z=>?_) hs
  by_cases z3:i<us.length
  ·exact hno i j z z3
  ·rintro⟨p',q',g',e1,e2,e3,e4⟩
   have:=(List.getElem?_eq_some_iff.mp e1).1
   omega
def Ab (K:PySem.W.Frag):Sp:=fun vs H Q _=>∃(a:Addr) (us:List V) (pls:List (Int × Int)),vs=[.ref a]∧aX K H a us∧aM K H (pls.map jI) us∧(∀ p∈pls,A1 p)∧pls.length≤12 ∧
 (∀ i j p H',i<j→Ap pls i j→(∀ i' j',i'<j'→(i'<i∨(i'=i∧j'<j))→¬Ap pls i' j')→aB H H'→H p=none→H' p=some (.tup [.str "apart",.int (i:Nat),.int (j:Nat)])→Q (.ref p) H') ∧
 (∀ W x p H',(∀ i j,i<j→¬Ap pls i j)→Crt.Told pls W x→W≤10^220→aB H H'→H p=none→H' p=some (.tup [.int W,.int x])→Q (.ref p) H')
theorem fD:ay [("places":Str),("apart":Str),("told":Str),("place":Str)] [("places":Str)] (ak (top 58)):=⟨rfl,rfl,rfl,by decide +kernel,rfl,by decide +kernel,by decide +kernel⟩
theorem A7 (D:av K mg "put_together" (top 58)) (c_first_apart:Callee P w K mg base aK 3 "first_apart" ["places"] (sM K)) (c_both_together:Callee P w K mg base aK 4 "both_together" ["one","other"] (xb K)):Callee P w K mg base aK 5 "put_together" [("places":Str)] (Ab K):=by
 refine aw D (fun _ _ _ _ _ _ us hl=>match us,hl with | [_],_=>rfl) fD (fun vs H Q E h=>by obtain⟨a,b,c,rfl,_⟩:=h;rfl) (fun f cdv A outer s H vs Q E hr h=>?_)
 obtain⟨a,us,pls,rfl,hS,hd,hok,hlen,q1,q2⟩:=h
 have nd:=fD.nd
 refine⟨_,(ae (ar (i:=1) nd rfl (Or.inl rfl) (ai c_first_apart (hr.mono (by decide)) rfl aF (aa (pv 0) af))) (ae (aY (aD yW (pv 1) iY (aE _)) (aj (aC (aN (aa b8 (aa (aL aR (pv 1) ah (fun _ _=>rfl)) (aa (aL aR (pv 1) ah (fun _ _=>rfl)) af)))))) aH) (ae (ar (i:=2) nd rfl (Or.inl rfl) (aN (aa ah (aa ah af)))) (ae (cZ PassesOwn.never rfl (b9 (pv 0)) (ax (i:=3) nd rfl (Or.inl rfl) (.inr rfl)) (aj (ar (i:=2) nd rfl (Or.inl rfl) (ai c_both_together (hr.mono (by decide)) rfl aF (aa (pv 2) (aa (pv 3) af)))))) (aj (aC (pv 2))))))),?_⟩
 show br _ _ _ [some (.ref a),none,none,none] H
 k_data
 have hul:us.length=pls.length:=by rw [hd.length,List.length_map]
 refine⟨a,us,pls,rfl,hS,hd,hok,by omega,fun i j p H1 ij ap no s1 f1 e1=>?_,fun H1 no s1=>?_⟩
 ·show ite _ _ _
  rw [if_pos (by intro z;cases z)]
  refine bp (bC.of e1) rfl (bp (bC.of e1) rfl ⟨by show 3≤sizeLine;decide,fun p2 hp2=>?_⟩)
  exact q1 i j p2 _ ij ap no (s1.BM hp2) (s1.free hp2) ag
 show ite _ _ _
 rw [if_neg (by simp)]
 refine⟨by show 2≤sizeLine;decide,fun p hp=>?_⟩
 have s2:=s1.trans (ao (o:=.tup [V.int 1,V.int 0]) hp)
 refine⟨⟨_,hS.same s2⟩,?_⟩
 have pw:∀ i:Nat,i≤12→(10:Int)^(18*i)≤10^216:=by decide
 refine eJ (xs:=us) (fun i σ' H'=>∃(r:Addr) (M N:Int) (o3:Option V),σ'=[some (.ref a),some .non,some (.ref r),o3]∧aB H H'∧H r=none∧H' r=some (.tup [.int M,.int N])∧Crt.Told (pls.take i) M N∧M≤10^(18*i))
  ⟨p,1,0,none,rfl,s2,s1.free hp,ag,by rw [List.take_zero];exact .nil,by decide⟩ (fun i σ' H' _ h=>by obtain⟨_,_,_,_,_,s,_⟩:=h;exact hS.same s) ?_ ?_
 ·rintro i x σ' H' hx ⟨r,M,N,o3,rfl,hs,hr',er,T,hM⟩
  obtain⟨d,ed,hv⟩:=hd.get hx
  rw [List.getElem?_map] at ed
  obtain⟨pl,e1,e2⟩:=Option.map_eq_some_iff.mp ed
  subst e2
  have ok:=hok pl (List.mem_of_getElem? e1)
  have il:i<pls.length:=(List.getElem?_eq_some_iff.mp e1).1
  have p1:=pw i (by omega)
  have p2:(10:Int)^(18*(i+1))=10^(18*i)*10^18:=by rw [Nat.mul_add,Pw.pow_add]
  have o2:=ok.2.1
  have o3':=ok.2.2
  k_data
  refine⟨.ref r,x,M,N,pl.1,pl.2,rfl,dv.tup (ds:=[.int M,.int N]) er ⟨_,_,rfl,rfl,.one rfl⟩,dv.same hs _ hv,T.pos,by omega,T.x0,T.x1,ok.1,by omega,o3'.1,o3'.2,fun g G=>?_,fun p3 W y H3 B hW s3 f3 e3=>?_⟩
  ·have fit:∀ p'∈pls.take i,∀ d,Crt.G p'.1 pl.1 d→d∣p'.2-pl.2:=by
    intro p' hp' d hd'
    obtain⟨i',e'⟩:=List.mem_iff_getElem?.mp hp'
    have hi':=(List.getElem?_eq_some_iff.mp e').1
    rw [List.length_take] at hi'
    rw [List.getElem?_take_of_lt (by omega)] at e'
    have na:=no i' i (by omega)
    by_cases z:d∣p'.2-pl.2
    ·exact z
    ·exact absurd ⟨p',pl,d,e',e1,hd',z⟩ na
   exact T.fits G fit fun p' hp'=>Crt.zG (hok p' (List.mem_of_mem_take hp')).1 ok.1
  ·have tk:pls.take (i+1)=pls.take i++[pl]:=by rw [List.take_add_one,e1];rfl
   refine⟨p3,rfl,hs.trans s3,hs.free f3,W,y,e3,?_,?_⟩
   ·rw [tk];exact T.step B
   ·rw [p2]
    exact Int.le_trans hW (Int.mul_le_mul hM o2 (Int.le_of_lt ok.1) (by have:=T.pos;omega))
 ·rintro σ' H' ⟨r,M,N,o3,rfl,hs,hr',er,T,hM⟩
  k_data
  rw [hul,List.take_length] at T
  rw [hul] at hM
  have p1:=pw pls.length hlen
  exact q2 M N r H' no T (by omega) hs hr' er
end
end K
namespace K
open PySem PySem.Spec PyProof.Rows L2
section
variable {P:Program} {w:World} {K:PySem.W.Frag} {mg:Str→Option Value} {base:Heap} {C:Addr}
theorem tZ {H:Hp} {a:Addr} {kvs:List (Key × V)} {Q:VK} (h:H a=some (.dK kvs)) (q:Q (.int kvs.length) H):wO [.ref a] H Q:=⟨a,_,rfl,.inr ⟨_,h,rfl⟩,q⟩
theorem Ds {H:Hp} {a:Addr} {kvs:List (List Key × V)} {Q:VK} (h:H a=some (.dT kvs)) (q:Q (.int kvs.length) H):wO [.ref a] H Q:=⟨a,_,rfl,.inl ⟨_,h,rfl⟩,q⟩
def sV:Sp:=fun vs H Q _=>∃ p q w:Int,vs=[.int p,.int q,.int w]∧2≤p∧p≤10^60∧1≤q∧q≤10^6∧0≤w∧w<p∧Num.Ord p w q.toNat∧∀ t H',aB H H'→H t=none→H' t=some (.dK (cW p w (rt q.toNat)))→Q (.ref t) H'
theorem fZ:ay [("p":Str),("q":Str),("w":Str),("table":Str),("rest":Str)] [("p":Str),("q":Str),("w":Str)] (ak (top 49)):=⟨rfl,rfl,rfl,by decide +kernel,rfl,by decide +kernel,by decide +kernel⟩
theorem wj (D:av K mg "small_steps" (top 49)) (n_len:mg "len"=none):Callee P w K mg base aK 1 "small_steps" [("p":Str),("q":Str),("w":Str)] sV:=by
 refine aw D (fun _ _ _ _ _ _ us hl=>match us,hl with | [_,_,_],_=>rfl) fZ (fun vs H Q E h=>by obtain⟨a,b,c,rfl,_⟩:=h;rfl) (fun f cdv A outer s H vs Q E hr h=>?_)
 obtain⟨p,q',w',rfl,p2,p9,q1,q6,w0,w1,o,q⟩:=h
 have nd:=fZ.nd
 refine⟨_,(ae (ar (i:=3) nd rfl (Or.inl rfl) wz) (ae (ar (i:=4) nd rfl (Or.inl rfl) ah) (ae (aV PassesOwn.never (aD dR (au aO (aG cY rfl n_len PySem.boot_len (aa (pv 3) af)) (aG cY rfl n_len PySem.boot_len (aa (pv 3) af))) (pv 1) (aE _)) (ae (ig (dD hr) (pv 3) (pv 4) (aG cY rfl n_len PySem.boot_len (aa (pv 3) af)) rfl) (aj (ar (i:=4) nd rfl (Or.inl rfl) (au aI (au aO (pv 4) (pv 2)) (pv 0)))))) (aj (aC (pv 3)))))),?_⟩
 show br _ _ _ [some (.int p),some (.int q'),some (.int w'),none,none] H
 k_data
 intro t ht
 refine aW (α:=Nat) (fun i=>[some (.int p),some (.int q'),some (.int w'),some (.ref t),some (.int (w'^i%p))]) (fun i H1=>H1=upd H t (.dK (cW p w' i))∧∀ j,j<i→j*j<q'.toNat) (fun i=>q'.toNat+1-i) 0 ?_ ⟨rfl,fun j z=>absurd z (Nat.not_lt_zero _)⟩ ?_
 ·rw [Int.pow_zero,Int.emod_eq_of_lt (by decide) (by omega)]
 rintro i H1 ⟨rfl,hi⟩
 have e1:upd H t (.dK (cW p w' i)) t=some (.dK (cW p w' i)):=ag
 k_data
 refine tZ e1 (tZ e1 ⟨_,rfl,_,rfl,?_⟩)
 rw [fz]
 have q0:0<q'.toNat:=by omega
 have ii:i≤1001:=by
  rcases Nat.lt_or_ge 1001 i with z | z
  ·have:=hi 1001 z;omega
  ·exact z
 refine⟨Bd.of (by omega) (by omega),Bd.of (by omega) (by omega),aP (fun c=>?_) (fun c=>?_)⟩
 ·have c':i*i<q'.toNat:=by
   have:((i*i:Nat):Int)<q':=by rw [Int.natCast_mul];exact c
   omega
  have iq:i<q'.toNat:=by
   rcases Nat.eq_zero_or_pos i with z | z
   ·omega
   ·have:=Nat.le_mul_of_pos_left i z;omega
  have r0:=Int.emod_nonneg (w'^i) (show p≠0 by omega)
  have r1:=Int.emod_lt_of_pos (w'^i) (show 0<p by omega)
  have hv:cf (cW p w' i) (Sum.inl (w'^i%p))=none:=iH fun j hj e=>by
   have:=o.ik (by omega) iq e
   omega
  refine⟨_,fun _ _ z=>z,tZ e1 ⟨_,kX.k (k:=Sum.inl (w'^i%p)) e1 (by rw [fz];exact Nat.lt_of_le_of_lt ii (by decide)),Bd.of (by omega) (by omega),Bd.of (by omega) (by omega),by omega,i+1,?_,?_,fun j hj=>?_,by omega⟩⟩
  ·rw [Int.pow_succ,Int.mul_emod,Int.emod_emod,← Int.mul_emod]
  ·rw [pK _ hv,zB,fz,iI]
  ·rcases (by omega:j<i∨j=i) with z | z
   ·exact hi j z
   ·rw [z];exact c'
 ·have e:rt q'.toNat=i:=CH (by
   have:q'≤((i*i:Nat):Int):=by rw [Int.natCast_mul];omega
   omega) hi
  exact q t _ (ao ht) ht (by rw [e];exact e1)
def sO (C:Addr):Sp:=fun vs H Q _=>∃(x dx:Addr) (m:Int),vs=[.ref x,.int m]∧H x=some (.ins C dx [])∧0≤m∧m≤10^6∧∀ d H',(∀ b o,b≠x→H b=some o→H' b=some o)→d≠x→H d=none→bY C ⟨x,dx,d,m,0,[]⟩ H'→Q .non H'
theorem eQ:ay [("self":Str),("most":Str)] [("self":Str),("most":Str)] (ak (inClass (top 48) 0)):=⟨rfl,rfl,rfl,by decide +kernel,rfl,by decide +kernel,by decide +kernel⟩
theorem v5 (D:Am K C "__init__" "Kept.__init__" (inClass (top 48) 0)) (cl:ll K C) (na_most:cJ K C "most") (na_counted:cJ K C "counted") (na_laid:cJ K C "laid"):bJ P w K mg base aK 1 C "__init__" [("self":Str),("most":Str)] (sO C):=by
 refine ff D (fun _ _ _ _ _ _ us hl=>match us,hl with | [_,_],_=>rfl) eQ (fun vs H Q E h=>by obtain⟨a,b,c,rfl,_⟩:=h;rfl) (fun f cdv A outer s H vs Q E hr h=>?_)
 obtain⟨x,dx,m,rfl,hx,m0,m1,q⟩:=h
 have nd:=eQ.nd
 refine⟨_,(ae (rh (pv 0) (pv 1) rfl) (ae (rh (pv 0) ah rfl) (aj (rh (pv 0) wA rfl)))),?_⟩
 show br _ _ _ [some (.ref x),some (.int m)] H
 k_data
 refine⟨C,dx,[],hx,cl,na_most,by decide,C,dx,_,ag,cl,na_counted,by show 1<1000;decide,fun d hd=>?_⟩
 have nx:d≠x:=fun z=>by rw [z,ag] at hd;cases hd
 refine⟨C,dx,_,by rw [aq (Ne.symm nx),ag],cl,na_laid,by show 2<1000;decide,q d _ (fun b o hb e=>?_) nx (by rw [aq nx,aq nx] at hd;exact hd) ⟨ag,⟨[],?_,rfl,List.nodup_nil,fun y v e=>by cases e⟩,m0,m1⟩⟩
 ·rw [aq hb,aq (fun z=>by rw [z] at hb e;rw [aq hb,aq hb,e] at hd;cases hd),aq hb,aq hb]
  exact e
 ·rw [aq nx,ag]
def w6 (C:Addr):Sp:=fun vs H Q _=>∃(k:KH) (n:Int),vs=[.ref k.a,.int n]∧bY C k H∧∀ H',(∀ b,b≠k.a→H' b=H b)→bY C (gY k n) H'→Q .non H'
theorem dY:ay [("self":Str),("many":Str)] [("self":Str),("many":Str)] (ak (inClass (top 48) 4)):=⟨rfl,rfl,rfl,by decide +kernel,rfl,by decide +kernel,by decide +kernel⟩
theorem yL (D:Am K C "add_steps" "Kept.add_steps" (inClass (top 48) 4)) (cl:ll K C) (na_counted:cJ K C "counted"):bJ P w K mg base aK 1 C "add_steps" [("self":Str),("many":Str)] (w6 C):=by
 refine ff D (fun _ _ _ _ _ _ us hl=>match us,hl with | [_,_],_=>rfl) dY (fun vs H Q E h=>by obtain⟨a,b,rfl,_⟩:=h;rfl) (fun f cdv A outer s H vs Q E hr h=>?_)
 obtain⟨k,n,rfl,kp,q⟩:=h
 have nd:=dY.nd
 refine⟨_,(aj (uz (pv 0) (pv 1) AH)),?_⟩
 show jJ _ _ _ _ _ _ [some (.ref k.a),some (.int n)] H
 k_data
 refine⟨C,k.dx,AK k,kp.ins,cl,na_counted,_,rfl,k.c,n,rfl,rfl,k.dx,AK k,kp.ins,by show 3<1000;decide,q _ (fun b hb=>aq hb) (kp.Dl rfl)⟩
def Bs (H:Hp) (ks:List (Int × Int × Int)) (bs:List Addr):Prop:=bs.length=ks.length∧∀(i:Nat) b,bs[i]?=some b→∃ y,ks[i]?=some y∧H b=some (.tup ((k3 y).map kV))
def qa (C:Addr):Sp:=fun vs H Q _=>∃(k:KH),vs=[.ref k.a]∧bY C k H∧∀ p bs H',H p=none→aB H H'→H' p=some (.lst (bs.map V.ref))→Bs H k.ks bs→Q (.ref p) H'
theorem fS:ay [("self":Str)] [("self":Str)] (ak (inClass (top 48) 2)):=⟨rfl,rfl,rfl,by decide +kernel,rfl,by decide +kernel,by decide +kernel⟩
theorem qT (D:Am K C "tables" "Kept.tables" (inClass (top 48) 2)) (cl:ll K C) (na_laid:cJ K C "laid") (n_list:mg "list"=none):bJ P w K mg base aK 1 C "tables" [("self":Str)] (qa C):=by
 refine ff D (fun _ _ _ _ _ _ us hl=>match us,hl with | [_],_=>rfl) fS (fun vs H Q E h=>by obtain⟨a,rfl,_⟩:=h;rfl) (fun f cdv A outer s H vs Q E hr h=>?_)
 obtain⟨k,rfl,kp,q⟩:=h
 have nd:=fS.nd
 refine⟨_,(aj (aC (bW (qx rfl) rfl n_list L2.boot_list (aa (gT (pv 0) rfl) af)))),?_⟩
 show eY _ _ [some (.ref k.a)] H
 k_data
 obtain⟨kvs,kd⟩:=kp.ex
 refine⟨C,_,_,kp.ins,cl,na_laid,_,rfl,k.d,kvs,rfl,kd.dict,fun p bs hl hb hp=>?_⟩
 refine q p bs _ hp (ao hp) ag ⟨hl.trans kd.len,fun i b e=>?_⟩
 obtain⟨ky,v,e1,e2⟩:=hb i b e
 have e3:(k.ks.map k3)[i]?=some ky:=by rw [← kd.keys,List.getElem?_map,e1];rfl
 rw [List.getElem?_map] at e3
 obtain⟨y,e4,rfl⟩:=Option.map_eq_some_iff.mp e3
 exact⟨y,e4,e2⟩
def xw (C:Addr):Sp:=fun vs H Q _=>∃(k:KH) (p q w:Int),vs=[.ref k.a,.int p,.int q,.int w]∧bY C k H∧rM k∧2≤p∧p≤10^60∧1≤q∧q≤10^6∧0≤w∧w<p∧Num.Ord p w q.toNat∧∀ t H',bY C (i6 k (p,q,w)) H'→c9 k.a k.d H H'→H' t=some (.dK (cW p w (rt q.toNat)))→Q (.ref t) H'
theorem dH:ay [("self":Str),("p":Str),("q":Str),("w":Str),("key":Str),("table":Str)] [("self":Str),("p":Str),("q":Str),("w":Str)] (ak (inClass (top 48) 3)):=⟨rfl,rfl,rfl,by decide +kernel,rfl,by decide +kernel,by decide +kernel⟩
theorem v7 (D:Am K C "used_table" "Kept.used_table" (inClass (top 48) 3)) (cl_Kept:ll K C) (na_laid:cJ K C "laid") (na_most:cJ K C "most") (n_len:mg "len"=none) (c_small_steps:Callee P w K mg base aK 1 "small_steps" ["p","q","w"] sV)
  (c_Kept_add_steps:bJ P w K mg base aK 1 C "add_steps" ["self","many"] (w6 C)) (c_Kept_tables:bJ P w K mg base aK 1 C "tables" ["self"] (qa C)):bJ P w K mg base aK 2 C "used_table" [("self":Str),("p":Str),("q":Str),("w":Str)] (xw C):=by
 refine ff D (fun _ _ _ _ _ _ us hl=>match us,hl with | [_,_,_,_],_=>rfl) dH (fun vs H Q E h=>by obtain⟨a,b,c,d,rfl,_⟩:=h;rfl) (fun f cdv A outer s H vs Q E hr h=>?_)
 obtain⟨k,p,q',w',rfl,kp,le,p2,p9,q1,q6,w0,w1,o,q⟩:=h
 have nd:=dH.nd
 refine⟨_,(ae (ar (i:=4) nd rfl (Or.inl rfl) (aN (aa (pv 1) (aa (pv 2) (aa (pv 3) af))))) (ae (eA (aY (wK (Bh (dD hr) (pv 4) (gT (pv 0) rfl))) (aj (ar (i:=5) nd rfl (Or.inl rfl) (pH (dD hr) (gT (pv 0) rfl) (pv 4) ⟨rfl,rfl,rfl,rfl⟩))) (ae (ar (i:=5) nd rfl (Or.inl rfl) (ai c_small_steps (hr.mono (by decide)) rfl aF (aa (pv 1) (aa (pv 2) (aa (pv 3) af))))) (aj (c5 (kr c_Kept_add_steps cl_Kept (hr.mono (by decide)) aF (pv 0) (aa (aG cY rfl n_len PySem.boot_len (aa (pv 5) af)) af))))))) (ae (ig (dD hr) (gT (pv 0) rfl) (pv 4) (pv 5) rfl) (ae (eA (aY (aD cR (aG cY rfl n_len PySem.boot_len (aa (gT (pv 0) rfl) af)) (gT (pv 0) rfl) (aE _)) (aj (c5 (pH (dD hr) (gT (pv 0) rfl) (aL gi (uv c_Kept_tables cl_Kept (hr.mono (by decide)) aF (pv 0)) ah (fun _ _=>rfl)) ⟨rfl,rfl,rfl,rfl⟩))) aH)) (aj (aC (pv 5))))))),?_⟩
 show br _ _ _ [some (.ref k.a),some (.int p),some (.int q'),some (.int w'),none,none] H
 k_data
 refine⟨by show 3≤sizeLine;decide,fun p1 hp1=>?_⟩
 have s1:=ao (o:=.tup [V.int p,V.int q',V.int w']) hp1
 have e1:upd H p1 (.tup [V.int p,V.int q',V.int w']) p1=some (.tup ((k3 (p,q',w')).map kV)):=ag
 have kp1:=kp.same s1
 generalize upd H p1 _=H1 at *
 obtain⟨kvs,kd⟩:=kp1.ex
 generalize hx:((p,q',w'):Int × Int × Int)=x at *
 refine⟨fun σ' H'=>∃(t:Addr) (c':Int),σ'=[some (.ref k.a),some (.int p),some (.int q'),some (.int w'),some (.ref p1),some (.ref t)]∧c'=(i6 k x).c∧H' k.a=some (.ins C k.dx (AK { k with c:=c' }))∧H' k.d=some (.dT (bD kvs (k3 x)))∧H' t=some (.dK (cW p w' (rt q'.toNat)))∧c9 k.a k.d H1 H',?_,?_⟩
 ·k_data
  refine⟨C,_,_,kp1.ins,cl_Kept,na_laid,_,rfl,k.d,rfl,_,eC.t kd.dict e1,?_⟩
  refine aP (fun c=>?_) (fun c=>?_)
  ·have mem:x∈k.ks:=kd.mem.mp c
   have ec:(i6 k x).c=k.c:=if_pos mem
   obtain⟨v,hv⟩:=Option.isSome_iff_exists.mp c
   obtain⟨t,rfl,ht⟩:=kd.tab x v hv
   subst hx
   rw [ec]
   exact⟨C,_,_,kp1.ins,cl_Kept,na_laid,_,rfl,k.d,rfl,.inr ⟨_,.inl kd.dict⟩,kvs,kd.dict,_,e1,_,hv,t,rfl,by rw [aq kp1.ne];exact kp1.ins,ag,by rw [aq (kp1.apart ht (by intro _ _ _ z;cases z) (by intro _ z;cases z)).2];exact ht,c9.CW⟩
  ·have mem:x∉k.ks:=fun z=>c (kd.mem.mpr z)
   have hv:cf kvs (k3 x)=none:=by
    cases e:cf kvs (k3 x) with
    | none=>rfl
    | some v=>rw [e] at c;exact absurd rfl c
   refine⟨p,q',w',rfl,p2,p9,q1,q6,w0,w1,o,fun t H2 s2 ft ht=>⟨k.dx,AK k,(kp1.same s2).ins,rfl,tZ ht ⟨k,_,rfl,kp1.same s2,fun H3 oth kp3=>⟨t,rfl,?_,?_,?_,fun b u ba bd e=>?_⟩⟩⟩⟩
   ·have ec:(i6 k x).c=k.c+((cW p w' (rt q'.toNat)).length:Int):=by rw [fz,← hx];rw [← hx] at mem;exact if_neg mem
    rw [ec]
    exact kp3.ins
   ·rw [oth _ (Ne.symm kp1.ne),tL hv]
    exact s2 _ _ kd.dict
   ·rw [oth _ (fun z=>by rw [z,(kp1.same s2).ins] at ht;cases ht)]
    exact ht
   ·rw [oth _ ba]
    exact s2 _ _ e
 ·rintro σ' H2 ⟨t,c',rfl,ec,ia,hd,ht,b2⟩
  k_data
  have ap1:=kp1.apart e1 (by intro _ _ _ z;cases z) (by intro _ z;cases z)
  have kl:kvs.length≤10^6:=by
   have h1:=kd.len
   have h2:(k.ks.length:Int)≤k.most:=le
   have h3:=kp.m1
   omega
  have tne:t≠k.d:=eO ht hd (by intro z;cases z)
  refine⟨C,_,_,ia,cl_Kept,na_laid,_,rfl,k.d,rfl,_,kX.t hd (b2 _ _ ap1.1 ap1.2 e1) ?_,?_⟩
  ·have:=oA kvs (k3 x)
   exact Nat.lt_of_le_of_lt (Nat.le_trans this kl) (by decide)
  rw [pK _ (by rw [iK,if_pos rfl])]
  have nad:k.a≠k.d:=kp1.ne
  have b4:c9 k.a k.d H1 (upd H2 k.d (.dT (bD kvs (k3 x)++[(k3 x,.ref t)]))):=b2.trans c9.CW
  have a4:upd H2 k.d (.dT (bD kvs (k3 x)++[(k3 x,.ref t)])) k.a=some (.ins C k.dx (AK { k with c:=c' })):=by rw [aq nad];exact ia
  have t4:upd H2 k.d (.dT (bD kvs (k3 x)++[(k3 x,.ref t)])) t=some (.dK (cW p w' (rt q'.toNat))):=by rw [aq tne];exact ht
  have d4:upd H2 k.d (.dT (bD kvs (k3 x)++[(k3 x,.ref t)])) k.d=some (.dT (bD kvs (k3 x)++[(k3 x,.ref t)])):=ag
  generalize upd H2 k.d _=H4 at *
  have kd4:=kd.use (H':=H4) (x:=x) (t:=t) (fun y v ⟨t',e,z⟩=>⟨t',e,kp1.keep b4 z⟩) ⟨t,rfl,by rw [← hx];exact t4⟩ d4
  have kp4:bY C { k with c:=c',ks:=cH k.ks x } H4:=⟨a4,⟨_,kd4.dict,kd4.keys,kd4.nd,kd4.tab⟩,kp.m0,kp.m1⟩
  have l4:=kd4.len
  refine⟨fun σ' H'=>σ'=[some (.ref k.a),some (.int p),some (.int q'),some (.int w'),some (.ref p1),some (.ref t)]∧bY C (i6 k x) H'∧c9 k.a k.d H1 H'∧H' t=some (.dK (cW p w' (rt q'.toNat))),?_,?_⟩
  ·k_data
   refine⟨C,_,_,a4,cl_Kept,na_laid,_,rfl,Ds d4 ⟨C,_,_,a4,cl_Kept,na_most,_,rfl,_,rfl,k.most,rfl,aP (fun c=>?_) (fun c=>?_)⟩⟩
   ·have c2:k.most<((cH k.ks x).length:Int):=by rw [← show (bD kvs (k3 x)++[(k3 x,V.ref t)]).length=(cH k.ks x).length from l4];exact c
    generalize bD kvs (k3 x)++[(k3 x,V.ref t)]=kvs4 at *
    obtain⟨q0,v0,r,rfl⟩:∃ q0 v0 r,kvs4=(q0,v0)::r:=by
     cases kvs4 with
     | nil=>have:=kp.m0;simp at c;omega
     | cons y r=>exact⟨y.1,y.2,r,rfl⟩
    refine⟨C,_,_,a4,cl_Kept,na_laid,_,rfl,k.d,rfl,.inr ⟨_,.inl d4⟩,k.dx,_,a4,rfl,{ k with c:=c',ks:=cH k.ks x },rfl,kp4,fun pl bs H5 fpl s5 e5 hb=>?_⟩
    obtain⟨b0,bs',rfl⟩:∃ b0 bs',bs=b0::bs':=by
     cases bs with
     | nil=>have h1:=hb.1;have h2:(0:Nat)=(cH k.ks x).length:=h1;have:=kp.m0;omega
     | cons y r=>exact⟨y,r,rfl⟩
    obtain⟨y,hy,hb0⟩:=hb.2 0 b0 rfl
    have ey:q0=k3 y:=by
     have h1:(((q0,v0)::r).map (·.1))[0]?=((cH k.ks x).map k3)[0]?:=congrArg (·[0]?) kd4.keys
     rw [List.getElem?_map (l:=cH k.ks x),show (cH k.ks x)[0]?=some y from hy] at h1
     exact Option.some.inj h1
    refine⟨pl,_,0,_,rfl,rfl,aX.of e5,iO,_,s5 _ _ d4,_,b0,rfl,by rw [ey];exact s5 _ _ hb0,_,cu rfl,?_⟩
    rw [drop_tail kd4.nodup]
    have hk:∀ b u,b≠k.d→H4 b=some u→upd H5 k.d (.dT r) b=some u:=fun b u n e=>by rw [aq n];exact s5 _ _ e
    have cut:=kd4.cut hk ag
    have ek:i6 k x={ k with c:=c',ks:=(cH k.ks x).tail }:=by
     rw [ec]
     unfold i6 oo
     rw [if_pos c2]
    rw [ek]
    exact⟨⟨hk _ _ nad a4,⟨_,cut.dict,cut.keys,cut.nd,cut.tab⟩,kp.m0,kp.m1⟩,b4.trans fun b u ba bd e=>hk b u bd e,hk _ _ tne t4⟩
   ·have c2:¬k.most<((cH k.ks x).length:Int):=by rw [← show (bD kvs (k3 x)++[(k3 x,V.ref t)]).length=(cH k.ks x).length from l4];exact c
    have ek:i6 k x={ k with c:=c',ks:=cH k.ks x }:=by
     rw [ec]
     unfold i6 oo
     rw [if_neg c2]
    rw [ek]
    exact⟨kp4,b4,t4⟩
  ·rintro σ' H5 ⟨rfl,kp5,b5,t5⟩
   k_data
   exact q t H5 kp5 ((c9.of s1).trans b5) t5
end
end K
namespace K
open PySem PySem.Spec PyProof.Rows L2
section
variable {P:Program} {w:World} {K:PySem.W.Frag} {mg:Str→Option Value} {base:Heap} {C:Addr}
theorem u6 {d m i:Nat} (m0:0<m) (h:i*m≤d) (h1:d-i*m<m):i=d/m∧d-i*m=d%m:=by
 have e:=Nat.div_add_mod d m
 have hd:d/m=i:=by
  rw [Nat.div_eq_iff m0]
  constructor
  ·exact h
  ·omega
 refine⟨hd.symm,?_⟩
 rw [hd,Nat.mul_comm] at e
 omega
def mh:Sp:=fun vs H Q _=>∃(p back c w:Int) (t:Addr) (q d:Nat),vs=[.int p,.ref t,.int back,.int c]∧2≤p∧p≤10^60∧Num.Ord p w q∧q≤10^6∧H t=some (.dK (cW p w (rt q)))∧0≤back∧back<p∧Num.Al p (back*w^rt q) 1∧d<q∧c=w^d%p∧∀ r H',aB H H'→H r=none→H' r=some (.tup [.int (d/rt q:Nat),.int (d%rt q:Nat)])→Q (.ref r) H'
theorem jr:ay [("p":Str),("table":Str),("back":Str),("c":Str),("i":Str),("rest":Str)] [("p":Str),("table":Str),("back":Str),("c":Str)] (ak (top 68)):=⟨rfl,rfl,rfl,by decide +kernel,rfl,by decide +kernel,by decide +kernel⟩
theorem qW (D:av K mg "steps_to" (top 68)):Callee P w K mg base aK 1 "steps_to" [("p":Str),("table":Str),("back":Str),("c":Str)] mh:=by
 refine aw D (fun _ _ _ _ _ _ us hl=>match us,hl with | [_,_,_,_],_=>rfl) jr (fun vs H Q E h=>by obtain⟨a,b,c,d,e,f,g,rfl,_⟩:=h;rfl) (fun f cdv A outer s H vs Q E hr h=>?_)
 obtain⟨p,back,c,w',t,q',d,rfl,p2,p9,o,q6,ht,b0,b1,hb,dq,rfl,q⟩:=h
 have nd:=jr.nd
 refine⟨_,(ae (ar (i:=4) nd rfl (Or.inl rfl) ah) (ae (ar (i:=5) nd rfl (Or.inl rfl) (pv 3)) (ae (aV PassesOwn.never (wK (uu (dD hr) (pv 5) (pv 1))) (ae (ar (i:=5) nd rfl (Or.inl rfl) (au aI (au aO (pv 5) (pv 2)) (pv 0))) (aj (cL (i:=4) nd rfl (Or.inl rfl) ah (dF gg))))) (aj (aC (aN (aa (pv 4) (aa (gj (dD hr) (pv 1) (pv 5) (fun _ _=>rfl)) af)))))))),?_⟩
 show br _ _ _ [some (.int p),some (.ref t),some (.int back),some (.int (w'^d%p)),none,none] H
 k_data
 have m0:=wX o.pos
 have mq:=z6 o.pos
 generalize hm:rt q'=m at *
 refine aW (α:=Nat) (fun i=>[some (.int p),some (.ref t),some (.int back),some (.int (w'^d%p)),some (.int (i:Int)),some (.int (w'^(d-i*m)%p))]) (fun i H1=>H1=H∧i*m≤d) (fun i=>d+1-i) 0 (by rw [Nat.zero_mul,Nat.sub_zero];rfl) ⟨rfl,by rw [Nat.zero_mul];exact Nat.zero_le _⟩ ?_
 rintro i H1 ⟨rfl,hi⟩
 replace hi:i*m≤d:=hi
 have r0:=Int.emod_nonneg (w'^(d-i*m)) (show p≠0 by omega)
 have r1:=Int.emod_lt_of_pos (w'^(d-i*m)) (show 0<p by omega)
 k_data
 by_cases lt:d-i*m<m
 ·have hv:cf (cW p w' m) (Sum.inl (w'^(d-i*m)%p))=some (.int ((d-i*m:Nat):Int)):=xS (fun i j hi hj e=>o.ik (by omega) (by omega) e) _ lt
  have dg:=eC.k (k:=Sum.inl (w'^(d-i*m)%p)) ht
  rw [hv] at dg
  obtain⟨e1,e2⟩:=u6 m0 hi lt
  refine⟨_,dg,?_⟩
  rw [if_neg (by simp)]
  refine⟨_,dg,⟨by show 2≤sizeLine;decide,fun r hr'=>q r _ (ao hr') hr' ?_⟩⟩
  rw [← e1,← e2]
  exact ag
 ·have hv:cf (cW p w' m) (Sum.inl (w'^(d-i*m)%p))=none:=iH fun j hj e=>by
   have:=o.ik (i:=j) (j:=d-i*m) (by omega) (by omega) e
   omega
  have dg:=eC.k (k:=Sum.inl (w'^(d-i*m)%p)) ht
  rw [hv] at dg
  refine⟨_,dg,?_⟩
  rw [if_pos (by simp)]
  have i1:(i+1)*m≤d:=by rw [Nat.succ_mul];omega
  have im:i≤d:=Nat.le_trans (Nat.le_mul_of_pos_right i m0) hi
  refine⟨_,fun _ _ z=>z,Bd.of (by omega) (by omega),Bd.of (by omega) (by omega),by omega,i+1,?_,rfl,i1,by show d+1-(i+1)<d+1-i;omega⟩
  have e:w'^(d-i*m)%p*back%p=w'^(d-(i+1)*m)%p:=by
   have h1:d-i*m=(d-(i+1)*m)+m:=by rw [Nat.succ_mul] at i1 ⊢;omega
   refine Num.Al.iff.mp ?_
   have h2:=((Num.Al.rest p (w'^(d-i*m))).mul (Num.Al.refl p back))
   rw [h1,Int.pow_add,Int.mul_assoc,Int.mul_comm (w'^m) back] at h2
   rw [h1,Int.pow_add]
   have h3:=(Num.Al.refl p (w'^(d-(i+1)*m))).mul hb
   rw [Int.mul_one] at h3
   exact h2.trans h3
  rw [e]
  rfl
def xk (K:PySem.W.Frag):Sp:=fun vs H Q _=>∃(q x n:Nat) (a:Addr),vs=[.int q,.ref a]∧0<q∧q≤10^60∧x%q^n≤10^60∧n≤1000∧H a=some (.lst ((Num.bU x q n).map fun d=>V.int (d:Nat)))∧∀ H',aB H H'→Q (.int (x%q^n:Nat)) H'
theorem dk:ay [("q":Str),("row":Str),("number":Str),("digit":Str)] [("q":Str),("row":Str)] (ak (top 69)):=⟨rfl,rfl,rfl,by decide +kernel,rfl,by decide +kernel,by decide +kernel⟩
theorem yO (D:av K mg "number_of" (top 69)):Callee P w K mg base aK 1 "number_of" [("q":Str),("row":Str)] (xk K):=by
 refine aw D (fun _ _ _ _ _ _ us hl=>match us,hl with | [_,_],_=>rfl) dk (fun vs H Q E h=>by obtain⟨a,b,c,d,rfl,_⟩:=h;rfl) (fun f cdv A outer s H vs Q E hr h=>?_)
 obtain⟨q',x,n,a,rfl,q0,q9,x9,n9,ha,q⟩:=h
 have nd:=dk.nd
 refine⟨_,(ae (ar (i:=2) nd rfl (Or.inl rfl) ah) (ae (cZ PassesOwn.never rfl (b9 (Bk (pv 1) (ic (kz gX ah)))) (ax (i:=3) nd rfl (Or.inl rfl) (.inr rfl)) (aj (ar (i:=2) nd rfl (Or.inl rfl) (au bB (au aO (pv 2) (pv 0)) (pv 3))))) (aj (aC (pv 2))))),?_⟩
 show br _ _ _ [some (.int (q':Int)),some (.ref a),none,none] H
 k_data
 have dl:=Num.dA (x:=x) (q:=q') (n:=n)
 refine⟨_,aX.of ha,fun p hp=>⟨⟨_,aX.of ag⟩,?_⟩⟩
 have s1:=ao (o:=.lst ((Num.bU x q' n).map fun d:Nat=>V.int (d:Int)).reverse) hp
 have e1:upd H p (.lst ((Num.bU x q' n).map fun d:Nat=>V.int (d:Int)).reverse) p=some (.lst ((Num.bU x q' n).map fun d:Nat=>V.int (d:Int)).reverse):=ag
 generalize upd H p _=H1 at *
 refine eJ (xs:=((Num.bU x q' n).map fun d:Nat=>V.int (d:Int)).reverse) (fun i σ' H'=>H'=H1∧∃ o3,σ'=[some (.int (q':Int)),some (.ref a),some (.int ((x%q'^n/q'^(n-i):Nat):Int)),o3]) ⟨rfl,none,?_⟩ (fun i σ' H' _ h=>by rw [h.1];exact aX.of e1) ?_ ?_
 ·rw [Nat.sub_zero,Nat.div_eq_of_lt (Nat.mod_lt _ (Nat.pow_pos q0))]
  rfl
 ·rintro i v σ' H' hv ⟨rfl,o3,rfl⟩
  have hi:i<n:=by
   have:=(List.getElem?_eq_some_iff.mp hv).1
   rw [List.length_reverse,List.length_map,dl] at this
   exact this
  rw [List.getElem?_reverse (by rw [List.length_map,dl];exact hi),List.length_map,dl,List.getElem?_map,Num.rS (by omega)] at hv
  cases hv
  have b1:x%q'^n/q'^(n-i)≤10^60:=Nat.le_trans (Nat.div_le_self _ _) x9
  have bd:Bd ((x%q'^n/q'^(n-i):Nat):Int):=by
   generalize x%q'^n/q'^(n-i)=z at b1
   exact Bd.of (by omega) (by omega)
  k_data
  refine⟨bd,Bd.of (by omega) (by omega),?_⟩
  have e:=Num.oY (x:=x) (n:=n) q0 hi
  rw [← Int.natCast_mul,← Int.natCast_add,e]
 ·rintro σ' H' ⟨rfl,o3,rfl⟩
  rw [List.length_reverse,List.length_map,dl,Nat.sub_self,Nat.pow_zero,Nat.div_one]
  k_data
  exact q H' s1
end
end K
namespace K
open PySem PySem.Spec PyProof.Rows L2
section
variable {P:Program} {w:World} {K:PySem.W.Frag} {mg:Str→Option Value} {base:Heap} {C:Addr}
def xp (K:PySem.W.Frag):Sp:=fun vs H Q _=>∃(q x n:Nat) (a:Addr),vs=[.int q,.ref a]∧0<q∧q≤10^60∧x%q^n≤10^60∧n≤1000∧bC K H a ((Num.bU x q n).map fun d=>V.int (d:Nat))∧∀ H',aB H H'→Q (.int (x%q^n:Nat)) H'
theorem yP (D:av K mg "number_of" (top 69)):Callee P w K mg base aK 1 "number_of" [("q":Str),("row":Str)] (xp K):=by
 refine aw D (fun _ _ _ _ _ _ us hl=>match us,hl with | [_,_],_=>rfl) dk (fun vs H Q E h=>by obtain⟨a,b,c,d,rfl,_⟩:=h;rfl) (fun f cdv A outer s H vs Q E hr h=>?_)
 obtain⟨q',x,n,a,rfl,q0,q9,x9,n9,ha,q⟩:=h
 have nd:=dk.nd
 refine⟨_,(ae (ar (i:=2) nd rfl (Or.inl rfl) ah) (ae (cZ PassesOwn.never rfl (fO (y8 (pv 1) (ic (kz gX ah)))) (ax (i:=3) nd rfl (Or.inl rfl) (.inr rfl)) (aj (ar (i:=2) nd rfl (Or.inl rfl) (au bB (au aO (pv 2) (pv 0)) (pv 3))))) (aj (aC (pv 2))))),?_⟩
 show br _ _ _ [some (.int (q':Int)),some (.ref a),none,none] H
 unfold Ad
 k_data
 have dl:=Num.dA (x:=x) (q:=q') (n:=n)
 refine⟨_,ha,fun p hp=>⟨⟨_,bC.of ag⟩,?_⟩⟩
 have s1:=ao (o:=.tup ((Num.bU x q' n).map fun d:Nat=>V.int (d:Int)).reverse) hp
 have e1:upd H p (.tup ((Num.bU x q' n).map fun d:Nat=>V.int (d:Int)).reverse) p=some (.tup ((Num.bU x q' n).map fun d:Nat=>V.int (d:Int)).reverse):=ag
 generalize upd H p _=H1 at *
 refine oS (xs:=((Num.bU x q' n).map fun d:Nat=>V.int (d:Int)).reverse) (fun i σ' H'=>H'=H1∧∃ o3,σ'=[some (.int (q':Int)),some (.ref a),some (.int ((x%q'^n/q'^(n-i):Nat):Int)),o3]) ⟨rfl,none,?_⟩ (fun i σ' H' _ h=>by rw [h.1];exact bC.of e1) ?_ ?_
 ·rw [Nat.sub_zero,Nat.div_eq_of_lt (Nat.mod_lt _ (Nat.pow_pos q0))]
  rfl
 ·rintro i v σ' H' hv ⟨rfl,o3,rfl⟩
  have hi:i<n:=by
   have:=(List.getElem?_eq_some_iff.mp hv).1
   rw [List.length_reverse,List.length_map,dl] at this
   exact this
  rw [List.getElem?_reverse (by rw [List.length_map,dl];exact hi),List.length_map,dl,List.getElem?_map,Num.rS (by omega)] at hv
  cases hv
  have b1:x%q'^n/q'^(n-i)≤10^60:=Nat.le_trans (Nat.div_le_self _ _) x9
  have bd:Bd ((x%q'^n/q'^(n-i):Nat):Int):=by
   generalize x%q'^n/q'^(n-i)=z at b1
   exact Bd.of (by omega) (by omega)
  k_data
  refine⟨bd,Bd.of (by omega) (by omega),?_⟩
  have e:=Num.oY (x:=x) (n:=n) q0 hi
  rw [← Int.natCast_mul,← Int.natCast_add,e]
 ·rintro σ' H' ⟨rfl,o3,rfl⟩
  rw [List.length_reverse,List.length_map,dl,Nat.sub_self,Nat.pow_zero,Nat.div_one]
  k_data
  exact q H' s1
theorem vm {p b g:Int} (h:Num.Co b p) (G:Gd p b g):g=1:=by
 obtain⟨u,v,e⟩:=h
 have g1:g∣1:=by rw [← e];exact Int.dvd_add (Int.dvd_mul_of_dvd_right G.da) (Int.dvd_mul_of_dvd_right G.dn)
 exact Int.eq_one_of_dvd_one (by have:=G.pos;omega) g1
theorem wH {C0:Addr} {p b:Int} {n:Nat} {H:Hp} {Q:VK} {E:XK} (p2:2≤p) (p9:p≤10^60) (co:Num.Co b p) (q:∀ r H',0≤r→r<p→Num.Al p (r*b^n) 1→aB H H'→Q (.int r) H'):c6 C0 [.int p,.int b,.int (-(n:Int))] H Q E:=by
 have r0:=fun z:Int=>Int.emod_nonneg z (show p≠0 by omega)
 have r1:=fun z:Int=>Int.emod_lt_of_pos z (show 0<p by omega)
 refine⟨p,b,-(n:Int),rfl,by omega,by omega,fun h H' s=>?_,fun h g G=>⟨fun _ i H' i0 i1 i2 s=>?_,fun z=>absurd z (by rw [vm co G];decide)⟩⟩
 ·have n0:n=0:=by omega
  subst n0
  exact q _ H' (r0 _) (r1 _) (((Num.Al.rest p _).mul (Num.Al.refl p _)).trans (by rw [show (-((0:Nat):Int)).toNat=0 by decide,Int.pow_zero];exact Num.Al.refl p _)) s
 ·rw [show (-(-(n:Int))).toNat=n by omega]
  refine q _ H' (r0 _) (r1 _) (((Num.Al.rest p _).mul (Num.Al.refl p _)).trans ?_) s
  rw [← Int.mul_pow]
  have:=Num.Al.pow (show Num.Al p (i*b) 1 from i2) n
  rwa [Int.one_pow] at this
theorem jR {k k':KH} {H H':Hp} {f:Addr} (kp:bY C k' H') (ea:k'.a=k.a) (ed:k'.d=k.d) (b:c9 k.a k.d H H') (hf:H' f=none):H f=none:=by
 cases z:H f with
 | none=>rfl
 | some u =>
  by_cases c1:f=k.a
  ·rw [c1,← ea,kp.ins] at hf;cases hf
  ·by_cases c2:f=k.d
   ·obtain⟨kvs,kd⟩:=kp.ex
    rw [c2,← ed,kd.dict] at hf;cases hf
   ·rw [b f u c1 c2 z] at hf;cases hf
theorem AQ {k:KH} {H:Hp} {f:Addr} {o o':HO} (kp:bY C k H) (h:H f=some o) (h1:∀ C dx fs,o≠.ins C dx fs) (h2:∀ kvs,o≠.dT kvs) (h3:∀ kvs,o≠.dK kvs):bY C k (upd H f o'):=by
 obtain⟨na,nd⟩:=kp.apart h h1 h2
 obtain⟨kvs,kd⟩:=kp.ex
 refine⟨by rw [aq (Ne.symm na)];exact kp.ins,⟨kvs,by rw [aq (Ne.symm nd)];exact kd.dict,kd.keys,kd.nd,fun x v e=>?_⟩,kp.m0,kp.m1⟩
 obtain⟨t,e1,e2⟩:=kd.tab x v e
 exact⟨t,e1,by rw [aq (eO e2 h (Ne.symm (h3 _)))];exact e2⟩
theorem c9.trans' {a d f:Addr} {H H':Hp} {o:HO} (b:c9 a d H H') (hf:H f=none):c9 a d H (upd H' f o):=fun c u x y e=>by
 rw [aq (fun z=>by rw [z,hf] at e;cases e)]
 exact b c u x y e
theorem Ca {k:KH}:gY k 0=k:=by unfold gY;rw [Int.add_zero]
theorem Cb {k:KH} {m n:Int}:gY (gY k m) n=gY k (m+n):=by unfold gY;rw [Int.add_assoc]
def stK (x q n:Nat):Int:=(((Num.bU x q n).map fun d=>d/rt q+1).sum:Nat)
theorem xB {x q n:Nat}:stK x q (n+1)=stK x q n+((x/q^n%q/rt q:Nat)+1:Int):=by
 unfold stK
 rw [Num.gd,List.map_append,List.sum_append]
 simp
def u4 (k:KH) (p b:Int) (e q x n:Nat):KH:=gY (i6 k (p,(q:Int),b^(e/q)%p)) (stK x q n)
def pW (K:PySem.W.Frag) (C:Addr):Sp:=fun vs H Q _=>∃(k:KH) (p b a:Int) (e q n x:Nat) (pt:Addr),vs=[.int p,.int b,.int a,.ref pt,.ref k.a]∧bC K H pt [.int e,.int q,.int n]∧bY C k H∧rM k∧2≤p∧p≤10^60 ∧ -(10^60)≤a∧a≤10^60∧Num.Ord p b e∧e≤10^60∧x<e∧Num.Al p a (b^x)∧1≤q∧q≤10^6∧1≤n∧n≤1000∧q^n∣e ∧
 ∀ t H',bY C (u4 k p b e q x n) H'→c9 k.a k.d H H'→H t=none→H' t=some (.tup ((Num.bU x q n).map fun d=>V.int (d:Nat)))→Q (.ref t) H'
theorem lX:ay [("p":Str),("b":Str),("a":Str),("part":Str),("keeper":Str),("e":Str),("q":Str),("many":Str),("w":Str),("table":Str),("back":Str),("found":Str),("left":Str),("turn":Str),("c":Str),("i":Str),("j":Str)] [("p":Str),("b":Str),("a":Str),("part":Str),("keeper":Str)] (ak (top 67)):=⟨rfl,rfl,rfl,by decide +kernel,rfl,by decide +kernel,by decide +kernel⟩
theorem ue {C0:Addr} (D:av K mg "digits" (top 67)) (cl_Kept:ll K C) (c_power:Callee P w K mg base (dJ P w) 4 "power" ["n","a","e"] (c6 C0)) (c_inverse:Callee P w K mg base (dJ P w) 3 "inverse" ["n","a"] (gv C0)) (c_Kept_used_table:bJ P w K mg base aK 2 C "used_table" ["self","p","q","w"] (xw C)) (c_Kept_add_steps:bJ P w K mg base aK 1 C "add_steps" ["self","many"] (w6 C)) (c_number_of:Callee P w K mg base aK 1 "number_of" ["q","row"] (xk K)) (c_steps_to:Callee P w K mg base aK 1 "steps_to" ["p","table","back","c"] mh) (n_len:mg "len"=none) (n_range:mg "range"=none) (n_tuple:mg "tuple"=none):Callee P w K mg base aK 5 "digits" [("p":Str),("b":Str),("a":Str),("part":Str),("keeper":Str)] (pW K C):=by
 refine aw D (fun _ _ _ _ _ _ us hl=>match us,hl with | [_,_,_,_,_],_=>rfl) lX (fun vs H Q E h=>by obtain⟨a,b,c,d,e,f,g,h,i,rfl,_⟩:=h;rfl) (fun f cdv A outer s H vs Q E hr h=>?_)
 obtain⟨k,p,b,a,e,q',n,x,pt,rfl,hpt,kp,le,p2,p9,a0,a1,o,e9,xe,al,q1,q6,n1,n9,dv,q⟩:=h
 have nd:=lX.nd
 refine⟨_,(ae (cK (pv 3) (bQ (n:=3) rfl (aA (ax (i:=5) nd rfl (Or.inl rfl) (.inr rfl)) (aA (ax (i:=6) nd rfl (Or.inl rfl) (.inr rfl)) (aA (ax (i:=7) nd rfl (Or.inl rfl) (.inr rfl)) aT))))) (ae (ar (i:=8) nd rfl (Or.inl rfl) (ai c_power (hr.mono (by decide)) rfl aJ (aa (pv 0) (aa (pv 1) (aa (au bA (pv 5) (pv 6)) af))))) (ae (ar (i:=9) nd rfl (Or.inl rfl) (kr c_Kept_used_table cl_Kept (hr.mono (by decide)) aF (pv 4) (aa (pv 0) (aa (pv 6) (aa (pv 8) af))))) (ae (ar (i:=10) nd rfl (Or.inl rfl) (ai c_inverse (hr.mono (by decide)) rfl aJ (aa (pv 0) (aa (ai c_power (hr.mono (by decide)) rfl aJ (aa (pv 0) (aa (pv 8) (aa (aG cY rfl n_len PySem.boot_len (aa (pv 9) af)) af)))) af)))) (ae (ar (i:=11) nd rfl (Or.inl rfl) (dG af)) (ae (ar (i:=12) nd rfl (Or.inl rfl) (pv 5)) (ae (cZ PassesOwn.never rfl (gk rfl n_range (aa (pv 7) af)) (ax (i:=13) nd rfl (Or.inl rfl) (.inr rfl)) (ae (cL (i:=12) nd rfl (Or.inl rfl) (pv 6) (dF eG)) (ae (ar (i:=14) nd rfl (Or.inl rfl) (ai c_power (hr.mono (by decide)) rfl aJ (aa (pv 0) (aa (au aO (pv 2) (ai c_power (hr.mono (by decide)) rfl aJ (aa (pv 0) (aa (pv 1) (aa (kz gX (ai c_number_of (hr.mono (by decide)) rfl aF (aa (pv 6) (aa (pv 11) af)))) af))))) (aa (pv 12) af))))) (ae (cK (ai c_steps_to (hr.mono (by decide)) rfl aF (aa (pv 0) (aa (pv 9) (aa (pv 10) (aa (pv 14) af))))) (bQ (n:=2) rfl (aA (ax (i:=15) nd rfl (Or.inl rfl) (.inr rfl)) (aA (ax (i:=16) nd rfl (Or.inl rfl) (.inr rfl)) aT)))) (ae (c5 (kr c_Kept_add_steps cl_Kept (hr.mono (by decide)) aF (pv 4) (aa (au bB (pv 15) ah) af))) (aj (c5 (kq PySem.F.plainAttrs_list PySem.F.slot_list_append PySem.F.type_list_append eK (pv 11) (aa (au bB (au aO (pv 15) (aG cY rfl n_len PySem.boot_len (aa (pv 9) af))) (pv 16)) af))))))))) (aj (aC (bW bI rfl n_tuple L2.boot_tuple (aa (pv 11) af))))))))))),?_⟩
 show br _ _ _ [some (.int p),some (.int b),some (.int a),some (.ref pt),some (.ref k.a),none,none,none,none,none,none,none,none,none,none,none,none] H
 k_data
 refine⟨pt,_,rfl,hpt,rfl,?_⟩
 k_data
 have o0:=o.pos
 have qe:q'∣e:=Nat.dvd_trans (by obtain⟨m,rfl⟩:∃ m,n=m+1:=⟨n-1,by omega⟩;exact⟨q'^m,by rw [Nat.pow_succ,Nat.mul_comm]⟩) dv
 have em:=fun z:Int=>Int.emod_nonneg z (show p≠0 by omega)
 have el:=fun z:Int=>Int.emod_lt_of_pos z (show 0<p by omega)
 refine⟨by omega,Bd.of (by omega) (by omega),p,b,_,rfl,by omega,by omega,fun _ H1 s1=>?_,fun z=>absurd z (by have:=Int.ediv_nonneg (a:=(e:Int)) (b:=(q':Int)) (by omega) (by omega);omega)⟩
 have ew:((e:Int)/(q':Int)).toNat=e/q':=by rw [← Int.natCast_ediv];rfl
 rw [ew]
 have ow:Num.Ord p (b^(e/q')%p) q':=Num.qX (Num.Al.rest p _).symm (Num.sj o qe)
 have hw:Num.Al p (b^(e/q')%p) (b^(e/q')):=Num.Al.rest p _
 have w0:=em (b^(e/q'))
 have w1:=el (b^(e/q'))
 unfold u4 at q
 generalize b^(e/q')%p=w' at *
 have kp1:=kp.same s1
 refine⟨k.dx,_,kp1.ins,rfl,k,p,q',w',rfl,kp1,le,p2,p9,by omega,by omega,w0,w1,by rw [Int.toNat_natCast];exact ow,fun t H2 kp2 b2 ht=>tZ ht ?_⟩
 rw [Int.toNat_natCast] at ht
 rw [fz,Int.toNat_natCast]
 have mq:=z6 (q:=q') (by omega)
 have m0:=wX (q:=q') (by omega)
 have m6:=zr q6
 refine⟨p,w',_,rfl,by omega,by omega,fun _ H3 s3=>?_,fun z=>absurd z (by omega)⟩
 rw [Int.toNat_natCast]
 have cow:Num.Co (w'^rt q'%p) p:=(ow.co.pow _).vV (Num.Al.rest p _).symm
 refine⟨p,_,rfl,by omega,by omega,fun g G=>⟨fun _ bk H4 bk0 bk1 bk2 s4=>?_,fun z=>absurd z (by rw [vm cow G];decide)⟩⟩
 have hbk:Num.Al p (bk*w'^rt q') 1:=((Num.Al.refl p bk).mul (Num.Al.rest p _)).symm.trans bk2
 refine⟨by decide,fun fo hfo=>⟨by omega,by omega,?_⟩⟩
 have S4:=s3.trans s4
 have s5:=ao (o:=.lst ([]:List V)) hfo
 have e5:upd H4 fo (.lst ([]:List V)) fo=some (.lst ((Num.bU x q' 0).map fun d:Nat=>V.int (d:Int))):=ag
 have ffo:H fo=none:=jR (kp2.same S4) rfl rfl ((c9.of s1).trans (b2.trans (c9.of S4))) hfo
 have kp5:=(kp2.same S4).same s5
 have t5:=s5 _ _ (S4 _ _ ht)
 have b5:c9 k.a k.d H (upd H4 fo (.lst ([]:List V))):=(c9.of s1).trans (b2.trans (c9.of (S4.trans s5)))
 generalize upd H4 fo (.lst ([]:List V))=H5 at *
 refine fe (fun i σ' H'=>bY C (gY (i6 k (p,(q':Int),w')) (stK x q' i)) H'∧c9 k.a k.d H H'∧H' fo=some (.lst ((Num.bU x q' i).map fun d:Nat=>V.int (d:Int)))∧H' t=some (.dK (cW p w' (rt q')))∧∃ o1 o2 o3 o4,σ'=[some (.int p),some (.int b),some (.int a),some (.ref pt),some (.ref k.a),some (.int (e:Int)),some (.int (q':Int)),some (.int (n:Int)),some (.int w'),some (.ref t),some (.int bk),some (.ref fo),some (.int ((e/q'^i:Nat):Int)),o1,o2,o3,o4]) ⟨?_,b5,e5,t5,none,none,none,none,by rw [Nat.pow_zero,Nat.div_one]⟩ ?_ ?_
 ·show bY C (gY _ 0) H5
  rw [Ca]
  exact kp5
 ·rintro i σ' H6 hi ⟨kp6,b6,e6,t6,o1,o2,o3,o4,rfl⟩
  k_data
  have xq:x%q'^i≤10^60:=Nat.le_trans (Nat.mod_le _ _) (by omega)
  refine⟨by omega,Bd.of (by omega) (by omega),q',x,i,fo,rfl,by omega,by omega,xq,by omega,e6,fun H7 s7=>⟨_,rfl,?_⟩⟩
  refine wH p2 p9 o.co fun r H8 r0 r1 hr' s8=>⟨_,rfl,Bd.of (by omega) (by omega),Bd.of (by omega) (by omega),?_⟩
  have el1:((e/q'^i:Nat):Int)/(q':Int)=((e/q'^(i+1):Nat):Int):=by rw [Nat.pow_succ,← Nat.div_div_eq_div_mul,Int.natCast_ediv (e/q'^i)]
  rw [el1]
  refine⟨p,_,_,rfl,by omega,by omega,fun _ H9 s9=>?_,fun z=>absurd z (Int.not_lt.mpr (Int.natCast_nonneg _))⟩
  rw [Int.toNat_natCast]
  have dq:q'^(i+1)∣e:=Nat.dvd_trans (Nat.pow_dvd_pow q' hi) dv
  have key:=Num.Al.iff.mp (Num.u5 o dq al hr' hw)
  rw [key]
  have S9:=(s7.trans s8).trans s9
  have d0:x/q'^i%q'<q':=Nat.mod_lt _ (by omega)
  refine⟨p,bk,_,w',t,q',x/q'^i%q',rfl,p2,p9,ow,q6,S9 _ _ t6,bk0,bk1,hbk,d0,rfl,fun rr H10 s10 frr hrr=>⟨rr,_,rfl,bC.of hrr,rfl,?_⟩⟩
  k_data
  have kp10:=(kp6.same S9).same s10
  have e10:=s10 _ _ (S9 _ _ e6)
  have t10:=s10 _ _ (S9 _ _ t6)
  have b10:=b6.trans (c9.of (S9.trans s10))
  refine⟨_,_,kp10.ins,rfl,gY (i6 k (p,(q':Int),w')) (stK x q' i),_,rfl,kp10,fun H11 oth kp11=>?_⟩
  have nfo:fo≠k.a:=(kp10.apart e10 (by intro _ _ _ z;cases z) (by intro _ z;cases z)).1
  have nfd:fo≠k.d:=(kp10.apart e10 (by intro _ _ _ z;cases z) (by intro _ z;cases z)).2
  have ntf:t≠fo:=eO t10 e10 (by intro z;cases z)
  have nta:t≠k.a:=(kp10.apart t10 (by intro _ _ _ z;cases z) (by intro _ z;cases z)).1
  have e11:=(oth fo nfo).trans e10
  have t11:=(oth t nta).trans t10
  have b11:c9 k.a k.d H H11:=b10.trans fun b u ba _ e=>by rw [oth b ba];exact e
  rw [Cb,← xB] at kp11
  have dl:=Num.dA (x:=x) (q:=q') (n:=i)
  have dd:((x/q'^i%q' / rt q':Nat):Int)*((rt q':Nat):Int)+((x/q'^i%q'%rt q':Nat):Int)=((x/q'^i%q':Nat):Int):=by
   rw [← Int.natCast_mul,← Int.natCast_add,Nat.div_add_mod']
  have db:Bd ((x/q'^i%q' / rt q':Nat):Int):=by
   have h1:x/q'^i%q' / rt q'≤x/q'^i%q':=Nat.div_le_self _ _
   generalize x/q'^i%q' / rt q'=z at h1
   generalize x/q'^i%q'=z' at h1 d0
   exact Bd.of (by omega) (by omega)
  refine⟨.inl ⟨rfl,_,aX.of e11⟩,tZ t11 ⟨_,rfl,db,by rw [fz];exact Bd.of (by omega) (by omega),fo,_,_,rfl,rfl,e11,by rw [List.length_map,dl];exact l7 (by omega),?_⟩⟩
  rw [fz,dd]
  refine⟨AQ kp11 e11 (by intro _ _ _ z;cases z) (by intro _ z;cases z) (by intro _ z;cases z),c9.trans' b11 ffo,?_,by rw [aq ntf];exact t11⟩
  rw [ag,Num.gd,List.map_append]
  rfl
 ·rintro σ' H6 ⟨kp6,b6,e6,t6,o1,o2,o3,o4,rfl⟩
  k_data
  refine⟨_,.inl ⟨aX.of e6,fun l hl=>q l _ (kp6.same (ao hl)) (b6.trans (c9.of (ao hl))) (jR kp6 rfl rfl b6 hl) ag⟩⟩
end
end K
namespace K
open PySem PySem.Spec PyProof.Rows L2
section
variable {P:Program} {w:World} {K:PySem.W.Frag} {mg:Str→Option Value} {base:Heap} {C:Addr}
def DW (row:PyData) (y:Int × Int):Prop:=∃ ds r,row=.tuple (.tuple (.int y.1::ds)::.int y.2::r)
def x6 (rows:List PyData) (ps:List (Int × Int)):Prop:=rows.length=ps.length∧∀(i:Nat) (row:PyData),rows[i]?=some row→∃ y,ps[i]?=some y∧DW row y
def sR (K:PySem.W.Frag):Sp:=fun vs H Q _=>∃(v:V) (rows:List PyData) (ps:List (Int × Int)),vs=[v]∧dv K H (.tuple rows) v∧x6 rows ps∧rows.length≤10^6∧∀ p us H',aB H H'→H p=none→H' p=some (.lst us)→aM K H' (ps.map jI) us→Q (.ref p) H'
theorem AD {H:Hp} {rows:List PyData} {ps:List (Int × Int)} {xs:List V} (hd:aM K H rows xs) (h:x6 rows ps) {i:Nat} {x:V} (hx:xs[i]?=some x):∃ q k pt pq r r',ps[i]?=some (q,k)∧x=.ref pt∧bC K H pt (.ref pq::.int k::r')∧bC K H pq (.int q::r):=by
 obtain⟨d,hd',hv⟩:=hd.get hx
 obtain⟨⟨q,k⟩,hy,ds,r0,rfl⟩:=h.2 i d hd'
 obtain⟨pt,ys,rfl,h1,x1,r1,rfl,e1,x2,r2,rfl,e2,_⟩:=hv
 obtain⟨pq,zs,rfl,h2,y1,r3,rfl,f1,f2⟩:=e1
 cases f1
 cases e2
 exact⟨q,k,pt,pq,r3,r2,hy,rfl,h1,h2⟩
theorem wb (D:av K mg "parting_in" (top 18)):Callee P w K mg base aK 1 "parting_in" [("parts":Str)] (sR K):=by
 refine aw D (fun _ _ _ _ _ _ us hl=>match us,hl with | [_],_=>rfl) bX (fun vs H Q E h=>by obtain⟨a,_,_,rfl,_⟩:=h;rfl) (fun f cdv A outer s H vs Q E hr h=>?_)
 obtain⟨v,rows,ps,rfl,hd,hh,h6,q⟩:=h
 have nd:=bX.nd
 refine⟨_,(aj (aC (dW rfl (cm (N':=["row"]) (js:=[none]) rfl rfl (by decide +kernel) (by decide +kernel) (by repeat (first | exact True.intro | refine⟨rfl,?_⟩)) (by repeat (first | exact True.intro | refine⟨rfl,?_⟩ | refine⟨True.intro,?_⟩)) (by repeat (first | exact True.intro | refine⟨⟨rfl,rfl,.inl rfl,.inl rfl⟩,?_⟩))) (fO (pv 0)) (fun _ _ _ _=>(ax (i:=0) (show List.Nodup [("row":Str)] from by decide +kernel) rfl (Or.inl rfl) (.inr rfl))) (fun _ _ _ _=>bG) (fun _ _ _ _=>(aN (aa (aL (bK K rfl) (aL (bK K rfl) (pv 0) ah (fun _ _=>rfl)) ah (fun _ _=>rfl)) (aa (aL (bK K rfl) (pv 0) ah (fun _ _=>rfl)) af))))))),?_⟩
 show eY _ _ [some v] H
 obtain⟨p,xs,rfl,hS,ht⟩:=hd
 have xl:=ht.length
 have rl:=hh.1
 k_data
 refine⟨⟨_,hS⟩,?_⟩
 refine dy (xs:=xs) (fun i zs H3=>aB H H3∧aM K H3 ((ps.take i).map jI) zs) ⟨aB.refl _,rfl⟩ (Nat.le_trans (by omega) (show 10^6≤sizeLine by decide)) (fun i zs H3 hi ⟨e1,e2⟩=>⟨hS.same e1,by rw [e2.length,List.length_map,List.length_take];omega⟩) ?_ ?_
 ·rintro i x zs H3 hx ⟨s3,hz⟩
  obtain⟨q',k',pt,pq,r,r',hy,rfl,t1,t2⟩:=AD ht hh hx
  show cF 0 _ [none] _ _
  k_data
  refine⟨True.intro,bp (t1.same s3) iO (bp (t2.same s3) iO (bp (t1.same s3) uQ ⟨by show 2≤sizeLine;decide,fun p4 hp4=>?_⟩))⟩
  have s4:=ao (o:=.tup [V.int q',V.int k']) hp4
  refine⟨s3.trans s4,?_⟩
  rw [List.take_add_one,hy,List.map_append]
  exact aM.append (aM.same s4 _ hz) (.one (dv.tup ag ⟨_,_,rfl,rfl,.one rfl⟩))
 ·rintro zs H3 p3 ⟨s3,hz⟩ hp3
  rw [show xs.length=ps.length by omega,List.take_length] at hz
  exact q p3 zs _ (s3.trans (ao hp3)) (s3.free hp3) ag (aM.same (ao hp3) _ hz)
def z8 (K:PySem.W.Frag) (CF:Addr):Sp:=fun vs H Q E=>∃(a:Addr) (ns:List Int),vs=[.ref a]∧aX K H a (ns.map V.int)∧ns.length≤10^6∧((∀ n∈ns,n≤10^6)→Q .non H)∧(∀ m∈ns,(∀ n∈ns,n≤m)→10^6<m→x5 CF "part" (.int m) H E)
theorem gM:ay [("primes":Str)] [("primes":Str)] (ak (top 65)):=⟨rfl,rfl,rfl,by decide +kernel,rfl,by decide +kernel,by decide +kernel⟩
theorem A4 {CF:Addr} (D:av K mg "refuse_far" (top 65)) (x_TooFar:nR P w K mg base "TooFar" CF "part") (g_FARTHEST:∃ t,mg "FARTHEST"=some (.int 1000000 t)) (n_max:mg "max"=none):Callee P w K mg base (dJ P w) 3 "refuse_far" [("primes":Str)] (z8 K CF):=by
 refine cj D (fun _ _ _ _ _ _ us hl=>match us,hl with | [_],_=>rfl) gM (fun vs H Q E h=>by obtain⟨a,b,rfl,_⟩:=h;rfl) (fun f cdv A outer s H vs Q E hr h=>?_)
 obtain⟨a,ns,rfl,hS,n6,q1,q2⟩:=h
 obtain⟨gt,g_FARTHEST⟩:=g_FARTHEST
 have nd:=gM.nd
 refine⟨_,(aj (aY (PW.pt (fm (a9 (pv 0) (fun _=>rfl)) (fu (aD cR (aG (lD rfl) rfl n_max L2.boot_max (aa (pv 0) af)) (mX (v:=.int 1000000) rfl g_FARTHEST ⟨_,rfl⟩) (aE _))))) (aj (cT (kA x_TooFar (hr.mono (by decide)) rfl (aa (aG (lD rfl) rfl n_max L2.boot_max (aa (pv 0) af)) af)))) aH)),?_⟩
 show zw _ _ _ _ [some (.ref a)] H
 k_data
 refine⟨!(ns.map V.int).isEmpty,.inl ⟨_,hS,rfl⟩,aP (fun c=>?_) (fun c=>?_)⟩
 ·have ne:ns≠[]:=fun z=>by rw [z] at c;cases c
  refine⟨a,ns,rfl,hS,ne,fun m hm hM=>⟨m,rfl,aP (fun c1=>⟨a,ns,rfl,hS,ne,fun m' hm' hM' x dx hx hdx nx=>?_⟩) (fun c1=>q1 fun n hn=>by have:=hM n hn;omega)⟩⟩
  have:m'=m:=by have h1:=hM m' hm';have h2:=hM' m hm;omega
  subst this
  exact iR x_TooFar.cls (aB.refl _) hx hdx nx (q2 m' hm hM (by omega))
 ·refine q1 fun n hn=>?_
  cases ns with
  | nil=>cases hn
  | cons y r=>exact absurd rfl c
end
end K
namespace L2
open PySem PySem.Spec PyProof.Rows
theorem qw {X:Cx} (K:PySem.W.Frag) (h:X.K=K):cD X (.builtin "len") (wN K):=h▸bN
end L2
namespace K
open PySem PySem.Spec PyProof.Rows L2
section
variable {P:Program} {w:World} {K:PySem.W.Frag} {mg:Str→Option Value} {base:Heap} {C:Addr}
structure Aq (e:Nat) (ps:List (Int × Int)):Prop where
 ok:∀ y∈ps,Num.Pm y.1∧y.1≤10^6∧1≤y.2∧y.2≤1000
 ne:ps.Pairwise (fun x y=>x.1≠y.1)
 eq:Num.eN ps=e
 len:ps.length≤12
theorem fJ:∀{ps:List (Int × Int)} {y:Int × Int},y∈ps→y.1.toNat^y.2.toNat∣Num.eN ps
 | p::r,y,h=>by
  show _∣p.1.toNat^p.2.toNat*Num.eN r
  rcases List.mem_cons.mp h with rfl | h
  ·exact Nat.dvd_mul_right _ _
  ·exact Nat.dvd_trans (fJ h) (Nat.dvd_mul_left _ _)
theorem vc {z:Nat}:∀{ps:List (Int × Int)},(∀ y∈ps,Num.Pm y.1)→ps.Pairwise (fun x y=>x.1≠y.1)→(∀ y∈ps,y.1.toNat^y.2.toNat∣z)→Num.eN ps∣z
 | [],_,_,_=>Nat.one_dvd _
 | p::r,h,ne,hd=>by
  show p.1.toNat^p.2.toNat*Num.eN r∣z
  obtain⟨n1,n2⟩:=List.pairwise_cons.mp ne
  have co:=Num.rT (b:=r) (fun y hy=>h y (List.mem_cons_of_mem _ hy)) [p] (fun y hy=>by rw [List.mem_singleton.mp hy];exact h p (List.mem_cons_self ..)) fun x hx y hy=>by rw [List.mem_singleton.mp hx];exact (n1 y hy).symm
  have e1:Num.eN [p]=p.1.toNat^p.2.toNat:=Nat.mul_one _
  rw [e1] at co
  exact co.mul_dvd_of_dvd_of_dvd (hd p (List.mem_cons_self ..)) (vc (fun y hy=>h y (List.mem_cons_of_mem _ hy)) n2 fun y hy=>hd y (List.mem_cons_of_mem _ hy))
def uK (x:Nat) (y:Int × Int):Int × Int:=(((y.1.toNat^y.2.toNat:Nat):Int),((x%y.1.toNat^y.2.toNat:Nat):Int))
theorem q5 {x:Nat} {y:Int × Int}:(uK x y).1∣(x:Int)-(uK x y).2:=by
 show ((y.1.toNat^y.2.toNat:Nat):Int)∣(x:Int)-((x%y.1.toNat^y.2.toNat:Nat):Int)
 have h:=Nat.div_add_mod x (y.1.toNat^y.2.toNat)
 refine⟨((x/y.1.toNat^y.2.toNat:Nat):Int),?_⟩
 rw [← Int.natCast_mul]
 omega
theorem zz {e x:Nat} {ps:List (Int × Int)} (h:Aq e ps) (hx:x<e):Crt.Told (ps.map (uK x)) e x where
 pos:=by omega
 x0:=by omega
 x1:=by omega
 dv:=fun p hp=>by
  obtain⟨y,hy,rfl⟩:=List.mem_map.mp hp
  rw [← h.eq]
  exact Int.natCast_dvd_natCast.mpr (fJ hy)
 le:=fun z hz=>by
  rw [← h.eq]
  refine Int.ofNat_dvd_left.mpr (vc (fun y hy=>(h.ok y hy).1) h.ne fun y hy=>?_)
  exact Int.ofNat_dvd_left.mp (hz _ (List.mem_map.mpr ⟨y,hy,rfl⟩))
 al:=fun p hp=>by
  obtain⟨y,hy,rfl⟩:=List.mem_map.mp hp
  exact q5
theorem vS {x:Nat} {ps:List (Int × Int)} {i j:Nat}:¬Ap (ps.map (uK x)) i j:=fun⟨p,q,g,e1,e2,G,nd⟩=>by
 rw [List.getElem?_map] at e1 e2
 obtain⟨y,_,rfl⟩:=Option.map_eq_some_iff.mp e1
 obtain⟨y',_,rfl⟩:=Option.map_eq_some_iff.mp e2
 have h1:=Int.dvd_trans G.da (q5 (x:=x) (y:=y))
 have h2:=Int.dvd_trans G.db (q5 (x:=x) (y:=y'))
 have:=Int.dvd_sub h2 h1
 rw [show (x:Int)-(uK x y').2-((x:Int)-(uK x y).2)=(uK x y).2-(uK x y').2 by omega] at this
 exact nd this
def fv (x:Nat) (y:Int × Int):PyData:=.tuple [.int y.1,.tuple (((Num.bU x y.1.toNat y.2.toNat).map fun d:Nat=>(d:Int)).map PyData.int)]
theorem vQ:∀ ns:List Int,fh (ns.map PyData.int)=true:=h8 fun _=>rfl
theorem vR {x:Nat} {y:Int × Int}:nQ (fv x y)=true:=by
 show fh [.int y.1,.tuple (((Num.bU x y.1.toNat y.2.toNat).map fun d:Nat=>(d:Int)).map PyData.int)]=true
 have:=vQ ((Num.bU x y.1.toNat y.2.toNat).map fun d:Nat=>(d:Int))
 show (true && (fh (((Num.bU x y.1.toNat y.2.toNat).map fun d:Nat=>(d:Int)).map PyData.int) && true))=true
 rw [this]
 rfl
def iA (k:KH) (p b:Int) (e x:Nat) (ps:List (Int × Int)):KH:=ps.foldl (fun k y=>u4 k p b e y.1.toNat x y.2.toNat) k
theorem oO {H:Hp}:∀{ns:List Int} {ds:List V},aM K H (ns.map PyData.int) ds→ds=ns.map V.int
 | [],_,h=>h
 | n::ns,_,⟨x,r,e,h,t⟩=>by
  subst e
  rw [oO t,show x=V.int n from h]
  rfl
theorem nk {p b:Int} {e x:Nat}:∀(ps:List (Int × Int)) (k:KH),(iA k p b e x ps).a=k.a∧(iA k p b e x ps).d=k.d∧(iA k p b e x ps).most=k.most
 | [],k=>⟨rfl,rfl,rfl⟩
 | y::r,k=>nk r (u4 k p b e y.1.toNat x y.2.toNat)
theorem l6 {k:KH} {p b:Int} {e x:Nat} {ps:List (Int × Int)} {y:Int × Int}:iA k p b e x (ps++[y])=u4 (iA k p b e x ps) p b e y.1.toNat x y.2.toNat:=by
 unfold iA
 rw [List.foldl_append]
 rfl
def uO (C:Addr) (ko:Option KH) (v:V) (H:Hp):Prop:=match ko with
 | none=>v=.non
 | some k=>v=.ref k.a∧bY C k H∧rM k
def lq (C:Addr) (ko:Option KH) (f:KH→KH) (H H':Hp):Prop:=match ko with
 | none=>aB H H'
 | some k=>c9 k.a k.d H H'∧bY C (f k) H'∧rM (f k)
def wU (x e:Nat) (ps:List (Int × Int)):PyData:=.tuple [.int x,.tuple [.str "is",.int e,.tuple (ps.map (fv x))]]
def pZ (K:PySem.W.Frag) (C:Addr):Sp:=fun vs H Q _=>∃(p b a:Int) (e x:Nat) (vo vk:V) (rows:List PyData) (ps:List (Int × Int)) (ko:Option KH),vs=[.int p,.int b,.int a,vo,vk]∧dv K H (.tuple [.int e,.tuple rows]) vo∧x6 rows ps∧Aq e ps∧uO C ko vk H∧2≤p∧p≤10^60 ∧ -(10^60)≤a∧a≤10^60∧Num.Ord p b e∧e≤10^18∧x<e∧Num.Al p a (b^x) ∧
 ∀ u H',lq C ko (fun k=>iA k p b e x ps) H H'→dv K H' (wU x e ps) u→Q u H'
def DV (K:PySem.W.Frag) (C:Addr) (k:KH) (p b:Int) (e x:Nat) (ps:List (Int × Int)) (H1:Hp) (i:Nat) (zs:List V) (H3:Hp):Prop:=c9 k.a k.d H1 H3∧bY C (iA k p b e x (ps.take i)) H3∧rM (iA k p b e x (ps.take i))∧aM K H3 ((ps.take i).map (fv x)) zs
theorem l5:ay [("p":Str),("b":Str),("a":Str),("order_paper":Str),("kept":Str),("e":Str),("parts":Str),("keeper":Str),("rows":Str),("places":Str)] [("p":Str),("b":Str),("a":Str),("order_paper":Str),("kept":Str)] (ak (top 66)):=⟨rfl,rfl,rfl,by decide +kernel,rfl,by decide +kernel,by decide +kernel⟩
theorem uk (D:av K mg "sought" (top 66)) (cl_Kept:ll K C) (o_Kept:BR K mg "Kept" C) (c_Kept___init__:bJ P w K mg base aK 1 C "__init__" ["self","most"] (sO C)) (c_digits:Callee P w K mg base aK 5 "digits" ["p","b","a","part","keeper"] (pW K C)) (c_parting_inG:Callee P w K mg base aK 1 "parting_in" ["parts"] (sR K)) (c_whole_of:Callee P w K mg base aK 1 "whole_of" ["parting"] (nJ K)) (c_number_ofT:Callee P w K mg base aK 1 "number_of" ["q","row"] (xp K)) (c_put_together:Callee P w K mg base aK 5 "put_together" ["places"] (Ab K)) (n_len:mg "len"=none) (n_tuple:mg "tuple"=none):Callee P w K mg base aK 6 "sought" [("p":Str),("b":Str),("a":Str),("order_paper":Str),("kept":Str)] (pZ K C):=by
 refine aw D (fun _ _ _ _ _ _ us hl=>match us,hl with | [_,_,_,_,_],_=>rfl) l5 (fun vs H Q E h=>by obtain⟨_,_,_,_,_,_,_,_,_,_,rfl,_⟩:=h;rfl) (fun f cdv A outer s H vs Q E hr h=>?_)
 obtain⟨p,b,a,e,x,vo,vk,rows,ps,ko,rfl,hvo,hds,oR,pre,p2,p9,a0,a1,o,e18,xe,al,q⟩:=h
 have nd:=l5.nd
 refine⟨_,(ae (cK (pv 3) (bQ (n:=2) rfl (aA (ax (i:=5) nd rfl (Or.inr rfl) (.inl rfl)) (aA (ax (i:=6) nd rfl (Or.inl rfl) (.inr rfl)) aT)))) (ae (eA (ar (i:=7) nd rfl (Or.inr rfl) (fN (aD wu (pv 4) iY (aE _)) (wB o_Kept c_Kept___init__ (hr.mono (by decide)) rfl aF (aa ah af)) (pv 4)))) (ae (ar (i:=8) nd rfl (Or.inl rfl) (bW bI rfl n_tuple L2.boot_tuple (aa (dW rfl (cm (N':=["q","many","p","b","a","keeper","e"]) (js:=[none,none,some 0,some 1,some 2,some 7,some 5]) rfl rfl (by decide +kernel) (by decide +kernel) (by repeat (first | exact True.intro | refine⟨rfl,?_⟩)) (by repeat (first | exact True.intro | refine⟨rfl,?_⟩ | refine⟨True.intro,?_⟩)) (by repeat (first | exact True.intro | refine⟨⟨rfl,rfl,.inl rfl,.inl rfl⟩,?_⟩))) (b9 (ai c_parting_inG (hr.mono (by decide)) rfl aF (aa (pv 6) af))) (fun _ _ _ _=>(fj K rfl (n:=2) rfl (aA (ax (i:=0) (show List.Nodup [("q":Str),("many":Str),("p":Str),("b":Str),("a":Str),("keeper":Str),("e":Str)] from by decide +kernel) rfl (Or.inl rfl) (.inr rfl)) (aA (ax (i:=1) (show List.Nodup [("q":Str),("many":Str),("p":Str),("b":Str),("a":Str),("keeper":Str),("e":Str)] from by decide +kernel) rfl (Or.inl rfl) (.inr rfl)) aT)))) (fun _ _ _ _=>bG) (fun _ _ _ _=>(aN (aa (pv 0) (aa (ai c_digits (hr.mono (by decide)) rfl aF (aa (pv 2) (aa (pv 3) (aa (pv 4) (aa (aN (aa (pv 6) (aa (pv 0) (aa (pv 1) af)))) (aa (pv 5) af)))))) af))))) af))) (ae (m8 (i0:=9) nd rfl (Or.inl rfl) rfl (cm (N':=["q","row"]) (js:=[none,none]) rfl rfl (by decide +kernel) (by decide +kernel) (by repeat (first | exact True.intro | refine⟨rfl,?_⟩)) (by repeat (first | exact True.intro | refine⟨rfl,?_⟩ | refine⟨True.intro,?_⟩)) (by repeat (first | exact True.intro | refine⟨⟨rfl,rfl,.inl rfl,.inl rfl⟩,?_⟩))) (fO (pv 8)) (fun _ _ _ _=>(fj K rfl (n:=2) rfl (aA (ax (i:=0) (show List.Nodup [("q":Str),("row":Str)] from by decide +kernel) rfl (Or.inl rfl) (.inr rfl)) (aA (ax (i:=1) (show List.Nodup [("q":Str),("row":Str)] from by decide +kernel) rfl (Or.inl rfl) (.inr rfl)) aT)))) (fun _ _ _ _=>bG) (fun _ _ _ _=>(aN (aa (ai c_whole_of (hr.mono (by decide)) rfl aF (aa (dG (aa (aN (aa (pv 0) (aa (aG (qw K rfl) rfl n_len PySem.boot_len (aa (pv 1) af)) af))) af)) af)) (aa (ai c_number_ofT (hr.mono (by decide)) rfl aF (aa (pv 0) (aa (pv 1) af))) af)))) (by rfl) (by first | exact .inl rfl | exact .inr rfl)) (aj (aC (aN (aa (aL aR (ai c_put_together (hr.mono (by decide)) rfl aF (aa (pv 9) af)) ah (fun _ _=>rfl)) (aa (aN (aa b8 (aa (pv 5) (aa (pv 8) af)))) af))))))))),?_⟩
 show br _ _ _ [some (.int p),some (.int b),some (.int a),some vo,some vk,none,none,none,none,none] H
 obtain⟨po,ys,rfl,hSo,ve,r1,rfl,h1,vr,r2,rfl,hvr,z⟩:=hvo
 cases z
 cases h1
 k_data
 refine⟨po,_,rfl,hSo,rfl,?_⟩
 k_data
 refine⟨fun σ' H'=>∃ k:KH,σ'=[some (.int p),some (.int b),some (.int a),some (.ref po),some vk,some (.int (e:Int)),some vr,some (.ref k.a),none,none]∧bY C k H'∧rM k∧aB H H'∧∀ H2,c9 k.a k.d H' H2→bY C (iA k p b e x ps) H2→rM (iA k p b e x ps)→lq C ko (fun k=>iA k p b e x ps) H H2,?_,?_⟩
 ·k_data
  cases ko with
  | none =>
   have pre':vk=.non:=pre
   rw [if_pos pre']
   intro x' dx hx hdx ne
   have S:aB H (upd (upd H dx (.own x')) x' (.ins C dx [])):=(ao hdx).upd hx
   refine⟨x',dx,1,rfl,ag,by decide,by decide,fun d H2 keep ndx fd kp=>?_⟩
   have S2:aB H H2:=fun b o eb=>keep b o (fun z=>by rw [z,hx] at eb;cases eb) (S b o eb)
   have hd:H d=none:=by
    rw [aq ndx] at fd
    by_cases z:d=dx
    ·rw [z];exact hdx
    ·rw [aq z] at fd;exact fd
   refine⟨rfl,⟨x',dx,d,1,0,[]⟩,rfl,kp,by show (0:Int)≤1;decide,S2,fun H3 b3 _ _ b o eb=>b3 b o (fun z=>by rw [z,hx] at eb;cases eb) (fun z=>by rw [z,hd] at eb;cases eb) (S2 b o eb)⟩
  | some k =>
   obtain⟨rfl,kp,le⟩:=pre
   rw [if_neg (by intro z;cases z)]
   exact⟨k,rfl,kp,le,aB.refl _,fun H2 b kp' le'=>⟨b,kp',le'⟩⟩
 ·rintro σ' H1 ⟨k,rfl,kp,le,s1,post⟩
  k_data
  have rl:=hds.1
  have pl12:=oR.len
  refine⟨vr,rows,ps,rfl,dv.same s1 _ hvr,hds,by omega,fun pl us H2 s2 fpl epl hus=>⟨pl,rfl,⟨_,aX.of epl⟩,?_⟩⟩
  have kp2:=kp.same s2
  have ul:us.length=ps.length:=by rw [hus.length,List.length_map]
  refine bR (xs:=us) (fun i zs H3=>DV K C k p b e x ps H2 i zs H3) ⟨c9.refl,kp2,le,rfl⟩ (Nat.le_trans (show us.length≤12 by omega) (by decide)) (fun i zs H3 hi ⟨z1,z2,z3,z4⟩=>⟨aX.of (kp2.keep z1 epl),by rw [z4.length,List.length_map,List.length_take];omega⟩) ?_ ?_
  ·rintro i v zs H3 hx ⟨b3,kp3,le3,hz⟩
   obtain⟨d,hd',hv⟩:=hus.get hx
   rw [List.getElem?_map] at hd'
   obtain⟨⟨q',t'⟩,hy,rfl⟩:=Option.map_eq_some_iff.mp hd'
   obtain⟨pt,rfl,tt⟩:=iP hv
   obtain⟨pm,q6,t1,t9⟩:=oR.ok _ (List.mem_of_getElem? hy)
   have dE:=fJ (List.mem_of_getElem? hy)
   rw [oR.eq] at dE
   replace pm:Num.Pm q':=pm
   replace q6:q'≤10^6:=q6
   replace t1:1≤t':=t1
   replace t9:t'≤1000:=t9
   have q2:=pm.two
   obtain⟨qn,rfl⟩:∃ n:Nat,q'=n:=⟨q'.toNat,by omega⟩
   obtain⟨tn,rfl⟩:∃ n:Nat,t'=n:=⟨t'.toNat,by omega⟩
   replace dE:qn^tn∣e:=dE
   have kps:=kp2.c7 b3
   obtain⟨sa,sd,sm⟩:=nk (p:=p) (b:=b) (e:=e) (x:=x) (ps.take i) k
   refine⟨pt,_,rfl,tt.c7 kps,rfl,?_⟩
   show jX (cF 0) (jX (cF 1) vj) _ [none,none,some (.int p),some (.int b),some (.int a),some (.ref k.a),some (.int (e:Int))] _ _
   k_data
   refine⟨⟨rfl,rfl,rfl,rfl,rfl,True.intro⟩,by show 3≤sizeLine;decide,fun p4 hp4=>?_⟩
   have s4:=ao (o:=.tup [V.int (e:Int),V.int (qn:Int),V.int (tn:Int)]) hp4
   refine⟨iA k p b e x (ps.take i),p,b,a,e,qn,tn,x,p4,by rw [sa],bC.of ag,kp3.same s4,le3,p2,p9,a0,a1,o,by omega,xe,al,by omega,by omega,by omega,by omega,dE,fun t H5 kp5 b5 ft ht=>⟨by show 2≤sizeLine;decide,fun p6 hp6=>?_⟩⟩
   rw [sa,sd] at b5
   have s6:=ao (o:=.tup [V.int (qn:Int),V.ref t]) hp6
   have e1:ps.take (i+1)=ps.take i++[((qn:Int),(tn:Int))]:=by rw [List.take_add_one,hy];rfl
   have bb:c9 k.a k.d H3 (upd H5 p6 (.tup [V.int (qn:Int),V.ref t])):=(c9.of s4).trans (b5.trans (c9.of s6))
   refine⟨b3.trans bb,?_,?_,?_⟩
   ·rw [e1,l6]
    exact kp5.same s6
   ·rw [e1,l6]
    exact (le3.use kp3.m0).add
   ·rw [e1,List.map_append]
    have kk:∀ a xs,Rd H3 a (.tup xs)→Rd (upd H5 p6 (.tup [V.int (qn:Int),V.ref t])) a (.tup xs):=fun c xs z=>kp3.c7 (by rw [sa,sd];exact bb) c xs z
    refine aM.append (aM.c7 kk _ (h8 (fun _=>vR) _) hz) (.one (dv.tup ag ⟨_,_,rfl,rfl,.one (dv.tup (s6 _ _ ht) ?_)⟩))
    have:=aM.ints (K:=K) (H:=upd H5 p6 (.tup [V.int (qn:Int),V.ref t])) ((Num.bU x qn tn).map fun d:Nat=>(d:Int))
    rw [List.map_map (f:=fun d:Nat=>(d:Int)) (g:=V.int)] at this
    exact this
  ·rintro zs H3 p3 ⟨b3,kp3,le3,hz⟩ hp3
   rw [show us.length=ps.length from ul,List.take_length] at hz kp3 le3
   obtain⟨sa,sd,sm⟩:=nk (p:=p) (b:=b) (e:=e) (x:=x) ps k
   refine⟨p3,rfl,zs,.inl ⟨aX.of ag,fun l hl=>⟨⟨_,bC.of ag⟩,?_⟩⟩⟩
   have S4:aB H3 (upd (upd H3 p3 (.lst zs)) l (.tup zs)):=(ao hp3).trans (ao hl)
   have el:upd (upd H3 p3 (.lst zs)) l (.tup zs) l=some (.tup zs):=ag
   generalize upd (upd H3 p3 (.lst zs)) l (.tup zs)=H4 at *
   have hz4:=aM.same S4 _ hz
   have zl:zs.length=ps.length:=by rw [hz.length,List.length_map]
   refine dy (xs:=zs) (fun i ws H5=>aB H4 H5∧aM K H5 ((ps.take i).map fun y=>jI (uK x y)) ws) ⟨aB.refl _,rfl⟩ (Nat.le_trans (show zs.length≤12 by omega) (by decide)) (fun i ws H5 hi ⟨z1,z2⟩=>⟨bC.of (z1 _ _ el),by rw [z2.length,List.length_map,List.length_take];omega⟩) ?_ ?_
   ·rintro i v ws H5 hx ⟨s5,hw⟩
    obtain⟨d,hd',hv⟩:=hz4.get hx
    rw [List.getElem?_map] at hd'
    obtain⟨⟨q',t'⟩,hy,rfl⟩:=Option.map_eq_some_iff.mp hd'
    obtain⟨pm,q6,t1,t9⟩:=oR.ok _ (List.mem_of_getElem? hy)
    have dE:=fJ (List.mem_of_getElem? hy)
    rw [oR.eq] at dE
    replace pm:Num.Pm q':=pm
    replace q6:q'≤10^6:=q6
    replace t1:1≤t':=t1
    replace t9:t'≤1000:=t9
    have q2:=pm.two
    obtain⟨qn,rfl⟩:∃ n:Nat,q'=n:=⟨q'.toNat,by omega⟩
    obtain⟨tn,rfl⟩:∃ n:Nat,t'=n:=⟨t'.toNat,by omega⟩
    replace dE:qn^tn∣e:=dE
    obtain⟨pr,ys,rfl,hSr,v1,r1,rfl,f1,v2,r2,rfl,⟨pd,ds,rfl,hSd,hdd⟩,z⟩:=hv
    cases z
    cases f1
    have ed:=oO hdd
    rw [List.map_map] at ed
    replace ed:ds=(Num.bU x qn tn).map fun d:Nat=>V.int (d:Int):=ed
    subst ed
    have dl:=Num.dA (x:=x) (q:=qn) (n:=tn)
    refine⟨pr,_,rfl,hSr.same s5,rfl,?_⟩
    show jX (cF 0) (jX (cF 1) vj) _ [none,none] _ _
    k_data
    refine⟨True.intro,mM (hSd.same s5) ?_⟩
    rw [List.length_map,dl]
    refine⟨by show 2≤sizeLine;decide,fun p6 hp6=>⟨by show 1≤sizeLine;decide,fun p7 hp7=>?_⟩⟩
    have s6:=ao (o:=.tup [V.int (qn:Int),V.int (tn:Int)]) hp6
    have s7:=ao (o:=.lst [V.ref p6]) hp7
    have e6:=s7 _ _ (show upd H5 p6 (.tup [V.int (qn:Int),V.int (tn:Int)]) p6=_ from ag)
    have e7:upd (upd H5 p6 (.tup [V.int (qn:Int),V.int (tn:Int)])) p7 (.lst [V.ref p6]) p7=some (.lst [V.ref p6]):=ag
    have S7:=s6.trans s7
    generalize upd (upd H5 p6 (.tup [V.int (qn:Int),V.int (tn:Int)])) p7 (.lst [V.ref p6])=H7 at *
    have eN1:Num.eN [((qn:Int),(tn:Int))]=qn^tn:=Nat.mul_one _
    have qe:qn^tn≤e:=Nat.le_of_dvd (by omega) dE
    refine⟨p7,[V.ref p6],[((qn:Int),(tn:Int))],rfl,e7,.one (dv.tup e6 ⟨_,_,rfl,rfl,.one rfl⟩),fun y hy=>by rw [List.mem_singleton.mp hy];exact⟨q2,by omega,by show (tn:Int)≤10^6;omega⟩,by rw [eN1];omega,fun H8 s8=>?_⟩
    rw [eN1]
    have S8:=(s5.trans S7).trans s8
    refine⟨qn,x,tn,pd,rfl,by omega,by omega,Nat.le_trans (Nat.mod_le _ _) (by omega),by omega,hSd.same S8,fun H9 s9=>⟨by show 2≤sizeLine;decide,fun p9 hp9=>?_⟩⟩
    have s10:=ao (o:=.tup [V.int ((qn^tn:Nat):Int),V.int ((x%qn^tn:Nat):Int)]) hp9
    have S10:=((S7.trans s8).trans s9).trans s10
    refine⟨s5.trans S10,?_⟩
    rw [List.take_add_one,hy,List.map_append]
    exact aM.append (aM.same S10 _ hw) (.one (dv.tup ag ⟨_,_,rfl,rfl,.one rfl⟩))
   ·rintro ws H5 p5 ⟨s5,hw⟩ hp5
    rw [show zs.length=ps.length from zl,List.take_length] at hw
    have s6:=ao (o:=.lst ws) hp5
    have hw6:=aM.same s6 _ hw
    rw [show (ps.map fun y=>jI (uK x y))=(ps.map (uK x)).map jI from by rw [List.map_map];rfl] at hw6
    refine⟨p5,ws,ps.map (uK x),rfl,aX.of ag,hw6,fun y hy=>?_,by rw [List.length_map];exact pl12,fun i j _ _ _ ap=>absurd ap vS,fun W N pw H7 _ told _ s7 fw ew=>?_⟩
    ·obtain⟨y',hy',rfl⟩:=List.mem_map.mp hy
     have dE:=fJ hy'
     rw [oR.eq] at dE
     have qe:y'.1.toNat^y'.2.toNat≤e:=Nat.le_of_dvd (by omega) dE
     have q0:0<y'.1.toNat^y'.2.toNat:=Nat.pos_of_dvd_of_pos dE (by omega)
     have xm:x%y'.1.toNat^y'.2.toNat≤x:=Nat.mod_le _ _
     show 0<((y'.1.toNat^y'.2.toNat:Nat):Int)∧((y'.1.toNat^y'.2.toNat:Nat):Int)≤10^18 ∧ -(10^80)≤((x%y'.1.toNat^y'.2.toNat:Nat):Int)∧((x%y'.1.toNat^y'.2.toNat:Nat):Int)≤10^80
     generalize x%y'.1.toNat^y'.2.toNat=z1 at *
     generalize y'.1.toNat^y'.2.toNat=z2 at *
     omega
    ·obtain⟨eW,eN⟩:=told.one (zz oR xe)
     subst eW
     subst eN
     refine bp (bC.of ew) uQ ⟨by show 3≤sizeLine;decide,fun p8 hp8=>⟨by show 2≤sizeLine;decide,fun p9 hp9=>?_⟩⟩
     have s8:=ao (o:=.tup [V.str "is",V.int (e:Int),V.ref l]) hp8
     have s9:=ao (o:=.tup [V.int (x:Int),V.ref p8]) hp9
     have SS:=(((S4.trans s5).trans s6).trans s7).trans (s8.trans s9)
     have S5:=((s5.trans s6).trans s7).trans (s8.trans s9)
     refine q _ _ (post _ ((c9.of s2).trans (b3.trans (c9.of SS))) (kp3.same SS) le3) (dv.tup ag ⟨_,_,rfl,rfl,.one (dv.tup (s9 _ _ ag) ⟨_,_,rfl,rfl,_,_,rfl,rfl,.one (dv.tup (S5 _ _ el) (aM.same S5 _ hz4))⟩)⟩)
end
end K
namespace K
open PySem PySem.Spec PyProof.Rows L2
section
variable {P:Program} {w:World} {K:PySem.W.Frag} {mg:Str→Option Value} {base:Heap} {C:Addr}
theorem lM {ps:List (Int × Int)} {ds:Nat→PyData} {ts:List Int} (hr:ps.Pairwise fun a b=>a.1<b.1) (hl:ts.length=ps.length):∀ n,n≤ps.length→((b7 ps ds ts n).map kp).Pairwise (fun a b=>a.1<b.1)∧∀ y∈(b7 ps ds ts n).map kp,∃ i,i<n∧(ps[i]?).map (·.1)=some y.1
 | 0,_=>⟨.nil,fun y hy=>by cases hy⟩
 | n+1,h=>by
  obtain⟨r,m⟩:=lM (ds:=ds) hr hl n (by omega)
  have hp:ps[n]?=some (ps[n].1,ps[n].2):=List.getElem?_eq_getElem (by omega)
  have ht:ts[n]?=some ts[n]:=List.getElem?_eq_getElem (by omega)
  rw [fK hp ht,List.map_append]
  by_cases c:0<ts[n]
  ·rw [if_pos c]
   refine⟨List.pairwise_append.mpr ⟨r,List.pairwise_singleton _ _,fun a ha b hb=>?_⟩,fun y hy=>?_⟩
   ·obtain⟨i,hi,ei⟩:=m a ha
    obtain⟨z,e1,e2⟩:=Option.map_eq_some_iff.mp ei
    rw [List.mem_singleton.mp hb,← e2]
    have hz:ps[i]=z:=by rw [List.getElem?_eq_getElem (show i<ps.length by omega)] at e1;exact Option.some.inj e1
    have:=List.pairwise_iff_getElem.mp hr i n (by omega) (by omega) hi
    rw [hz] at this
    exact this
   ·rcases List.mem_append.mp hy with z | z
    ·obtain⟨i,hi,e⟩:=m y z
     exact⟨i,by omega,e⟩
    ·rw [List.mem_singleton.mp z]
     exact⟨n,by omega,by rw [hp];rfl⟩
  ·rw [if_neg c,List.map_nil,List.append_nil]
   exact⟨r,fun y hy=>let ⟨i,hi,e⟩:=m y hy;⟨i,by omega,e⟩⟩
theorem tW {p a:Int} {e:Nat} {ps:List (Int × Int)} {ds:Nat→PyData} {ts:List Int} (hP:Num.Part (p-1) ps) (to:Num.TO p a ps ts) (o:Num.Ord p a e) (e9:e≤10^9):Num.Part e ((c8 ps ds ts).map kp):=by
 have e1:=iU (ds:=ds) to.len to.nn ps.length (Nat.le_refl _)
 rw [List.take_of_length_le (by rw [List.length_zip,List.length_map];omega),to.ord.wt o] at e1
 have hm:∀ y∈(c8 ps ds ts).map kp,Num.Pm y.1∧1≤y.2:=fun y hy=>by
  obtain⟨z,hz,rfl⟩:=List.mem_map.mp hy
  obtain⟨i,k,h1,h2,h3,_⟩:=gQ hz
  exact⟨(hP.ok _ (List.mem_of_getElem? h1)).1,by show 1≤z.2.2;omega⟩
 refine⟨fun y hy=>⟨(hm y hy).1,(hm y hy).2,?_⟩,(lM hP.rise to.len ps.length (Nat.le_refl _)).1,?_⟩
 ·have hd:=fJ hy
  have e1':Num.eN ((c8 ps ds ts).map kp)=e:=e1
  rw [e1'] at hd
  have h1:=Nat.le_of_dvd o.pos hd
  have q2:=(hm y hy).1.two
  have h2:2^y.2.toNat≤y.1.toNat^y.2.toNat:=Nat.pow_le_pow_left (by omega) _
  rcases Nat.lt_or_ge 30 y.2.toNat with z | z
  ·have:=Nat.pow_le_pow_right (show 0<2 by decide) (show 31≤y.2.toNat by omega)
   have h3:(2:Nat)^31≤10^9:=Nat.le_trans this (Nat.le_trans h2 (Nat.le_trans h1 e9))
   exact absurd h3 (by decide)
  ·omega
 ·rw [← Num.dP _ fun y hy=>(hm y hy).1]
  exact congrArg _ e1
def asc:Nat→Nat→Nat
 | _,0=>1
 | lo,n+1=>lo*asc (lo+1) n
theorem pE:∀{ps:List (Int × Int)} {lo:Nat},(∀ y∈ps,(lo:Int)≤y.1∧2≤y.1∧1≤y.2)→ps.Pairwise (fun a b=>a.1<b.1)→asc lo ps.length≤Num.eN ps
 | [],_,_,_=>Nat.le_refl _
 | p::r,lo,h,hr=>by
  obtain⟨h1,h2,h3⟩:=h p (List.mem_cons_self ..)
  obtain⟨r1,r2⟩:=List.pairwise_cons.mp hr
  show lo*asc (lo+1) r.length≤p.1.toNat^p.2.toNat*Num.eN r
  refine Nat.mul_le_mul ?_ (pE (fun y hy=>?_) r2)
  ·exact Nat.le_trans (show lo≤p.1.toNat by omega) (Nat.le_self_pow (by omega) _)
  ·have:=h y (List.mem_cons_of_mem _ hy)
   have:=r1 y hy
   omega
theorem nS:∀(n:Nat) {m lo:Nat},0<lo→n≤m→asc lo n≤asc lo m
 | 0,m,lo,l0,_=>by
  have:∀(m lo:Nat),0<lo→1≤asc lo m:=by
   intro m
   induction m with
   | zero=>intro _ _;exact Nat.le_refl _
   | succ m ih=>intro lo l0;exact Nat.mul_pos l0 (ih (lo+1) (by omega))
  exact this m lo l0
 | n+1,0,_,_,h=>absurd h (by omega)
 | n+1,m+1,lo,l0,h=>Nat.mul_le_mul_left lo (nS n (by omega) (by omega))
theorem kh {e:Nat} {ps:List (Int × Int)} (h:Num.Part e ps) (e9:e≤10^9):ps.length≤12:=by
 have h1:=pE (lo:=2) (fun y hy=>⟨(h.ok y hy).1.two,(h.ok y hy).1.two,(h.ok y hy).2.1⟩) h.rise
 have h2:Num.eN ps=e:=by
  have:=Num.dP ps fun y hy=>(h.ok y hy).1
  rw [h.prod] at this
  omega
 rcases Nat.lt_or_ge 12 ps.length with z | z
 ·have h3:asc 2 13≤asc 2 ps.length:=nS 13 (by decide) z
  exact absurd (Nat.le_trans h3 (Nat.le_trans h1 (by rw [h2];exact e9))) (by decide)
 ·exact z
theorem ur {e:Nat} {ps:List (Int × Int)} (h:Num.Part e ps) (e9:e≤10^9) (h6:∀ y∈ps,y.1≤10^6):Aq e ps where
 ok:=fun y hy=>by
  obtain⟨a,b,c⟩:=h.ok y hy
  exact⟨a,h6 y hy,b,by omega⟩
 ne:=h.rise.imp fun z=>by omega
 eq:=by
  have:=Num.dP ps fun y hy=>(h.ok y hy).1
  rw [h.prod] at this
  omega
 len:=kh h e9
def rY (e:Nat) (r:Int):PyData:=.tuple [.none,.tuple [.str "none",.int e,.int r]]
def nI (K:PySem.W.Frag) (C CN CF:Addr):Sp:=fun vs H Q E=>∃(v vk:V) (p b a g:Int) (rows:PyData) (ko:Option KH),vs=[v,.int b,.int a,vk]∧dv K H (.tuple [.int p,.int g,rows]) v∧Num.gA p (.tuple [.int p,.int g,rows]) ∧ -(10^60)≤b∧b≤10^60 ∧ -(10^60)≤a∧a≤10^60∧uO C ko vk H∧(p∣a∨p∣b→zF CN H E) ∧
 (¬p∣a→¬p∣b→∀ e:Nat,Num.Ord p b e→(e:Int)<p →
  (¬Num.Al p (a^e) 1→∀ u H',aB H H'→dv K H' (rY e (a^e%p)) u→Q u H') ∧
  (∀ x,x<e→Num.Al p a (b^x)→∀ ps,Num.Part e ps →
   ((∀ y∈ps,y.1≤10^6)→∀ u H',lq C ko (fun k=>iA k p b e x ps) H H'→dv K H' (wU x e ps) u→Q u H') ∧
   (∀ m∈ps.map (·.1),(∀ n∈ps.map (·.1),n≤m)→10^6<m→x5 CF "part" (.int m) H E)))
theorem uO.same {ko:Option KH} {v:V} {H H':Hp} (h:uO C ko v H) (s:aB H H'):uO C ko v H':=by
 cases ko with
 | none=>exact h
 | some k=>exact⟨h.1,h.2.1.same s,h.2.2⟩
theorem lq.pre {ko:Option KH} {f:KH→KH} {H H1 H':Hp} (s:aB H H1) (h:lq C ko f H1 H'):lq C ko f H H':=by
 cases ko with
 | none=>exact s.trans h
 | some k=>exact⟨(c9.of s).trans h.1,h.2⟩
theorem x5.pre {CN:Addr} {f:Str} {v:V} {H H1:Hp} {E:XK} (s:aB H H1) (h:x5 CN f v H E):x5 CN f v H1 E:=fun x dx H' s' fr e=>h x dx H' (s.trans s') (s.free fr) e
theorem pU:ay [("paper":Str),("b":Str),("a":Str),("kept":Str),("p":Str),("e":Str),("parts":Str),("rest":Str)] [("paper":Str),("b":Str),("a":Str),("kept":Str)] (ak (top 64)):=⟨rfl,rfl,rfl,by decide +kernel,rfl,by decide +kernel,by decide +kernel⟩
theorem wm {CN CF C0:Addr} (D:mn K mg "which" (top 64) #[.none]) (c_order:Callee P w K mg base (dJ P w) 14 "order" ["paper","a"] (sP K CN)) (c_power:Callee P w K mg base (dJ P w) 4 "power" ["n","a","e"] (c6 C0)) (c_refuse_far:Callee P w K mg base (dJ P w) 3 "refuse_far" ["primes"] (z8 K CF)) (c_primes_in:Callee P w K mg base aK 1 "primes_in" ["parts"] (cM K)) (c_sought:Callee P w K mg base aK 6 "sought" ["p","b","a","order_paper","kept"] (pZ K C)) (x_Nought:tw K mg "Nought" CN):jy P w K mg base (dJ P w) 15 "which" [("paper":Str),("b":Str),("a":Str),("kept":Str)] [.none] (nI K C CN CF):=by
 refine oa D (fun _ _ _ _ _ _ _ us hl=>match us,(show us.length=4 by simpa using hl) with | [_,_,_,_],_=>⟨_,rfl,rfl⟩) (fun _ _ _ _ _ _ _ us hl=>match us,(show us.length=3 by simpa using hl) with | [_,_,_],_=>⟨_,rfl,rfl⟩) pU (fun vs H Q E h=>by obtain⟨_,_,_,_,_,_,_,_,rfl,_⟩:=h;rfl) (fun f cdv A outer s H vs Q E hr h=>?_)
 obtain⟨v,vk,p,b,a,g,rows,ko,rfl,hd,hp,b0,b1,a0,a1,pre,qN,q⟩:=h
 obtain⟨pm,p9⟩:=lV hp
 have p2:=pm.two
 have nd:=pU.nd
 refine⟨_,(ae (ar (i:=4) nd rfl (Or.inl rfl) (aL aR (pv 0) ah (fun _ _=>rfl))) (ae (aY (aD bO (au aI (pv 2) (pv 4)) ah (aE _)) (aj (cT (mY x_Nought rfl))) aH) (ae (cK (ai c_order (hr.mono (by decide)) rfl km (aa (pv 0) (aa (pv 1) af))) (bQ (n:=2) rfl (aA (ax (i:=5) nd rfl (Or.inl rfl) (.inr rfl)) (aA (ax (i:=6) nd rfl (Or.inl rfl) (.inr rfl)) aT)))) (ae (ar (i:=7) nd rfl (Or.inl rfl) (ai c_power (hr.mono (by decide)) rfl aJ (aa (pv 4) (aa (pv 2) (aa (pv 5) af))))) (ae (aY (aD jg (pv 7) ah (aE _)) (iL.lR (aj (aC (aN (aa iY (aa (aN (aa b8 (aa (pv 5) (aa (pv 7) af)))) af)))))) aH) (ae (c5 (ai c_refuse_far (hr.mono (by decide)) rfl km (aa (ai c_primes_in (hr.mono (by decide)) rfl aF (aa (pv 6) af)) af))) (iL.lR (aj (aC (ai c_sought (hr.mono (by decide)) rfl aF (aa (pv 4) (aa (pv 1) (aa (pv 2) (aa (aN (aa (pv 5) (aa (pv 6) af))) (aa (pv 3) af))))))))))))))),?_⟩
 show br _ _ _ [some v,some (.int b),some (.int a),some vk,none,none,none,none] H
 obtain⟨pp,y1,y2,vr,rfl,tS,e0,eg,dr⟩:=jW hd
 cases e0
 cases eg
 k_data
 refine bp tS iO ⟨p,rfl,by omega,aP (fun c=>?_) (fun c=>?_)⟩
 ·exact fun x hx=>gf x_Nought.cls (aB.refl _) hx (qN (.inl (Int.dvd_of_emod_eq_zero c)))
 have na:¬p∣a:=fun z=>c (Int.emod_eq_zero_of_dvd z)
 refine⟨.ref pp,p,b,g,rows,rfl,hd,hp,b0,b1,fun z=>qN (.inr z),fun nb r u H1 hr1 s1 hu=>?_⟩
 obtain⟨e',ps,ds,ts,er,hP,hl29,hds,e1,e2,o,to,rfl⟩:=hr1
 obtain⟨e,rfl⟩:∃ n:Nat,e'=n:=⟨e'.toNat,by omega⟩
 rw [Int.toNat_natCast] at o
 have e9:e≤10^9:=by omega
 obtain⟨q1,q2⟩:=q na nb e o e2
 obtain⟨po,ys,rfl,hSo,ve,r1,rfl,h1,vrr,r2,rfl,hvr,z⟩:=hu
 cases z
 cases h1
 have hpart:=tW (ds:=ds) hP to o e9
 have hG:x6 ((c8 ps ds ts).map (gS p b e)) ((c8 ps ds ts).map kp):=by
  refine⟨by rw [List.length_map,List.length_map],fun i row hrow=>?_⟩
  rw [List.getElem?_map] at hrow
  obtain⟨y,hy,rfl⟩:=Option.map_eq_some_iff.mp hrow
  obtain⟨j,k,h1,h2,h3,h4⟩:=gQ (List.mem_of_getElem? hy)
  obtain⟨g',rr,eg⟩:=(hds j _ _ h1).head
  exact⟨kp y,by rw [List.getElem?_map,hy];rfl,_,_,by unfold gS;rw [h4,eg];rfl⟩
 have hQ:B5 ((c8 ps ds ts).map (gS p b e)) (((c8 ps ds ts).map kp).map (·.1)):=by
  refine⟨by rw [List.length_map,List.length_map,List.length_map],fun i row hrow=>?_⟩
  obtain⟨y,hy,d1,d2,ed⟩:=hG.2 i row hrow
  exact⟨y.1,by rw [List.getElem?_map,hy];rfl,d1,_,ed⟩
 generalize (c8 ps ds ts).map kp=pl at *
 generalize (c8 ps ds ts).map (gS p b e)=rws at *
 have rl:=hG.1
 have pl12:=kh hpart e9
 refine⟨po,_,rfl,hSo,rfl,?_⟩
 k_data
 refine⟨p,a,_,rfl,by omega,by omega,fun _ H2 s2=>?_,fun z=>absurd z (by omega)⟩
 rw [Int.toNat_natCast]
 have S2:=s1.trans s2
 refine⟨rfl,aP (fun c1=>?_) (fun c1=>?_)⟩
 ·refine⟨by show 3≤sizeLine;decide,fun p3 hp3=>⟨by show 2≤sizeLine;decide,fun p4 hp4=>?_⟩⟩
  have s3:=ao (o:=.tup [V.str "none",V.int (e:Int),V.int (a^e%p)]) hp3
  have s4:=ao (o:=.tup [V.non,V.ref p3]) hp4
  exact q1 (fun z=>c1 (congrArg V.int ((bZ p2).mpr z))) _ _ (S2.trans (s3.trans s4)) (dv.tup ag ⟨_,_,rfl,rfl,.one (dv.tup (s4 _ _ ag) ⟨_,_,rfl,rfl,_,_,rfl,rfl,.one rfl⟩)⟩)
 ·have al1:Num.Al p (a^e) 1:=(bZ p2).mp (V.int.inj (Classical.not_not.mp c1))
  obtain⟨x,xe,alx⟩:=Num.pI pm o al1
  obtain⟨q3,q4⟩:=q2 x xe alx pl hpart
  refine⟨vrr,rws,_,rfl,dv.same s2 _ hvr,hQ,by omega,fun pm' H3 s3 f3 e3=>?_⟩
  have S3:=S2.trans s3
  refine⟨pm',pl.map (·.1),rfl,aX.of e3,by rw [List.length_map];omega,fun all6=>⟨by show 2≤sizeLine;decide,fun p5 hp5=>?_⟩,fun m hm hM m6=>x5.pre S3 (q4 m hm hM m6)⟩
  have s5:=ao (o:=.tup [V.int (e:Int),vrr]) hp5
  have h6:∀ y∈pl,y.1≤10^6:=fun y hy=>all6 _ (List.mem_map.mpr ⟨y,hy,rfl⟩)
  refine⟨p,b,a,e,x,.ref p5,vk,rws,pl,ko,rfl,dv.tup ag ⟨_,_,rfl,rfl,.one (dv.same (s2.trans (s3.trans s5)) _ hvr)⟩,hG,ur hpart e9 h6,pre.same (S3.trans s5),p2,by omega,a0,a1,o,by omega,xe,alx,fun u H' post hu=>q3 h6 u H' (post.pre (S3.trans s5)) hu⟩
end
end K
namespace K
open PySem PySem.Spec PyProof.Rows L2
section
variable {P:Program} {w:World} {K:PySem.W.Frag} {mg:Str→Option Value} {base:Heap}
theorem zZ {n d:Int} (hn:1<n) (d2:2≤d) (no:∀ k,2≤k→k<d→¬k∣n) (h:n<d*d):Num.Pm n:=⟨by omega,fun e e2 en hd=>by
 rcases (by omega:e<d∨d≤e) with z | z
 ·exact no e e2 z hd
 ·obtain⟨c,hc⟩:=hd
  have c2:2≤c:=by
   rcases (by omega:c≤0∨c=1∨2≤c) with y | y | y
   ·have:=Int.mul_nonpos_of_nonneg_of_nonpos (show 0≤e by omega) y
    omega
   ·rw [y] at hc
    omega
   ·exact y
  have cd:c<d:=by
   rcases (by omega:c<d∨d≤c) with y | y
   ·exact y
   ·have:=Int.mul_le_mul z y (by omega) (by omega)
    omega
  exact no c c2 cd ⟨e,by rw [hc,Int.mul_comm]⟩⟩
def Cp (n:Nat):Bool:=(List.range 126).all fun i=>(List.range 126).all fun j=>!decide (n%(2*(126*i+j)+3)=0)
theorem Bn {n:Nat} (h:Cp n=true) (n1:3≤n) (n2:n%2=1) (n9:n<31625*31625):Num.Pm (n:Int):=by
 refine zZ (d:=31625) (by omega) (by decide) (fun k k2 kd hd=>?_) (by omega)
 have hd':k.toNat∣n:=Int.natCast_dvd_natCast.mp (by rw [show ((k.toNat:Nat):Int)=k by omega];exact hd)
 rcases (by omega:k%2=0∨k%2=1) with z | z
 ·have:=Nat.mod_eq_zero_of_dvd (Nat.dvd_trans (show 2∣k.toNat by omega) hd')
  omega
 ·have hk:((k.toNat-3)/2/126)<126:=by omega
  have h1:=List.all_eq_true.mp h ((k.toNat-3)/2/126) (List.mem_range.mpr hk)
  have h2:=List.all_eq_true.mp h1 ((k.toNat-3)/2%126) (List.mem_range.mpr (Nat.mod_lt _ (by decide)))
  have e:2*(126*((k.toNat-3)/2/126)+(k.toNat-3)/2%126)+3=k.toNat:=by omega
  rw [e,Nat.mod_eq_zero_of_dvd hd'] at h2
  simp at h2
def l8:Sp:=fun vs H Q _=>∃ n:Int,vs=[.int n]∧0≤n∧n≤10^60∧∀ b:Bool,(b=true↔Num.Pm n)→Q (.bl b) H
theorem eR:ay [("_law_n":Str),("_law_d":Str)] [("_law_n":Str)] (ak (top 71)):=⟨rfl,rfl,rfl,by decide +kernel,rfl,by decide +kernel,by decide +kernel⟩
theorem uf (D:av K mg "_law_is_prime" (top 71)) (n_int:mg "int"=none):Callee P w K mg base aK 1 "_law_is_prime" [("_law_n":Str)] l8:=by
 refine aw D (fun _ _ _ _ _ _ us hl=>match us,hl with | [_],_=>rfl) eR (fun vs H Q E h=>by obtain⟨_,rfl,_⟩:=h;rfl) (fun f cdv A outer s H vs Q E hr h=>?_)
 obtain⟨n,rfl,n0,hn,q⟩:=h
 have nd:=eR.nd
 refine⟨_,(ae (ar (i:=1) nd rfl (Or.inl rfl) ah) (ae (aV PassesOwn.never (aD pA (au aO (pv 1) (pv 1)) (pv 0) (aE _)) (ae (aY (aD bO (au aI (pv 0) (pv 1)) ah (aE _)) (aj (aC dS)) aH) (aj (ar (i:=1) nd rfl (Or.inl rfl) (au bB (au bB (pv 1) ah) (bW tF rfl n_int L2.boot_int (aa (bL cR (pv 1) ah (aE _)) af))))))) (aj (aC (bL cR (pv 0) ah (aE _)))))),?_⟩
 show br _ _ _ [some (.int n),none] H
 k_data
 refine aW (α:=Int) (fun x=>[some (.int n),some (.int x)]) (fun x H1=>H1=H∧2≤x∧x≤10^60+3∧(x=2∨x%2=1)∧∀ k,2≤k→k<x→¬k∣n) (fun x=>(n+3-x).toNat) 2 rfl ⟨rfl,by decide,by decide,.inl rfl,fun k k1 (k2:k<2) hk=>by omega⟩ ?_
 rintro x H1 ⟨rfl,x2,x9,xo,no⟩
 replace x2:2≤x:=x2
 replace x9:x≤10^60+3:=x9
 replace xo:x=2∨x%2=1:=xo
 replace no:∀ k,2≤k→k<x→¬k∣n:=no
 k_data
 refine⟨Bd.of (by omega) (by omega),Bd.of (by omega) (by omega),aP (fun c=>?_) (fun c=>?_)⟩
 ·have xx:x*2≤x*x:=Int.mul_le_mul_of_nonneg_left x2 (by omega)
  refine⟨_,fun _ _ z=>z,by omega,aP (fun c1=>?_) (fun c1=>?_)⟩
  ·refine q false ⟨fun z=>(by cases z),fun z=>absurd (Int.dvd_of_emod_eq_zero c1) (z.no x x2 (by omega))⟩
  ·have nx:¬x∣n:=fun z=>c1 (Int.emod_eq_zero_of_dvd z)
   rcases xo with rfl | xo
   ·refine⟨3,rfl,rfl,by decide,by decide,.inr (by decide),fun k k2 (k3:k<3)=>?_,by omega⟩
    rw [show k=2 by omega]
    exact nx
   ·have x3:2<x:=by omega
    rw [if_pos x3]
    refine⟨x+2,by rw [Int.add_assoc];rfl,rfl,by omega,by omega,.inr (by omega),fun k k2 k3=>?_,by omega⟩
    rcases (by omega:k<x∨k=x∨k=x+1) with z | z | z
    ·exact no k k2 z
    ·rw [z];exact nx
    ·intro hk
     exact no 2 (by decide) x3 (Int.dvd_trans (show (2:Int)∣k by omega) hk)
 ·refine q _ ?_
  rw [decide_eq_true_iff]
  exact⟨fun z=>zZ z x2 no (by omega),fun z=>by have:=z.two;omega⟩
def pY:Sp:=fun vs H Q _=>∃ n p0:Int,vs=[.int n]∧0≤n∧n≤p0∧Num.Pm p0∧p0≤10^60∧∀ r,Num.Pm r→n≤r→r≤p0→(∀ k,n≤k→k<r→¬Num.Pm k)→Q (.int r) H
theorem gH:ay [("_law_n":Str)] [("_law_n":Str)] (ak (top 72)):=⟨rfl,rfl,rfl,by decide +kernel,rfl,by decide +kernel,by decide +kernel⟩
theorem ui (D:av K mg "_law_prime" (top 72)) (c__law_is_prime:Callee P w K mg base aK 1 "_law_is_prime" ["_law_n"] l8):Callee P w K mg base aK 2 "_law_prime" [("_law_n":Str)] pY:=by
 refine aw D (fun _ _ _ _ _ _ us hl=>match us,hl with | [_],_=>rfl) gH (fun vs H Q E h=>by obtain⟨_,_,rfl,_⟩:=h;rfl) (fun f cdv A outer s H vs Q E hr h=>?_)
 obtain⟨n,p0,rfl,n0,np,pm,p9,q⟩:=h
 have nd:=gH.nd
 refine⟨_,(ae (aV PassesOwn.never (fk (a9 (ai c__law_is_prime (hr.mono (by decide)) rfl aF (aa (pv 0) af)) (fun _=>rfl))) (aj (ar (i:=0) nd rfl (Or.inl rfl) (au bB (pv 0) ah)))) (aj (aC (pv 0)))),?_⟩
 show br _ _ _ [some (.int n)] H
 k_data
 refine aW (α:=Int) (fun x=>[some (.int x)]) (fun x H1=>H1=H∧n≤x∧x≤p0∧∀ k,n≤k→k<x→¬Num.Pm k) (fun x=>(p0-x).toNat) n rfl ⟨rfl,Int.le_refl _,np,fun k k1 k2=>by omega⟩ ?_
 rintro x H1 ⟨rfl,x1,x2,no⟩
 replace x1:n≤x:=x1
 replace x2:x≤p0:=x2
 replace no:∀ k,n≤k→k<x→¬Num.Pm k:=no
 k_data
 refine⟨x,rfl,by omega,by omega,fun b hb=>⟨b,aU.mpr rfl,?_⟩⟩
 cases b with
 | true=>exact q x (hb.mp rfl) x1 x2 no
 | false =>
  have nx:¬Num.Pm x:=fun z=>by cases hb.mpr z
  have ne:x≠p0:=fun z=>nx (z▸pm)
  refine⟨_,fun _ _ z=>z,x+1,rfl,rfl,by omega,by omega,fun k k1 k2=>?_,by omega⟩
  rcases (by omega:k<x∨k=x) with z | z
  ·exact no k k1 z
  ·rw [z];exact nx
theorem Tp.more {p:Addr} {n m:Nat} {H:Hp} (h:Tp p n H) (l:n≤m):Tp p m H:=by
 obtain⟨l',i,j,ns,a,b,c,d,e⟩:=h
 exact⟨l',i,j,ns,a,b,c,d,by omega⟩
end
end K
namespace K
open PySem PySem.Spec PyProof.Rows L2
section
variable {P:Program} {w:World} {K:PySem.W.Frag} {mg:Str→Option Value} {base:Heap}
def xi:Sp:=fun vs H Q _=>∃(p:Addr) (m:Int) (n:Nat),vs=[.ref p,.int m]∧Tp p n H∧n≤10^50∧0<m∧∀ r H',0≤r→r<m→Off p H H'→Tp p (n+2) H'→Q (.int r) H'
theorem jh:ay [("_law_tape_here":Str),("_law_many":Str)] [("_law_tape_here":Str),("_law_many":Str)] (ak (top 75)):=⟨rfl,rfl,rfl,by decide +kernel,rfl,by decide +kernel,by decide +kernel⟩
theorem yJ (D:av K mg "_law_far" (top 75)) (c__law_draw:Callee P w K mg base aK 1 "_law_draw" ["_law_tape_here","_law_many"] iZ):Callee P w K mg base aK 2 "_law_far" [("_law_tape_here":Str),("_law_many":Str)] xi:=by
 refine aw D (fun _ _ _ _ _ _ us hl=>match us,hl with | [_,_],_=>rfl) jh (fun vs H Q E h=>by obtain⟨_,_,_,rfl,_⟩:=h;rfl) (fun f cdv A outer s H vs Q E hr h=>?_)
 obtain⟨p,m,n,rfl,tp,n9,m0,q⟩:=h
 have nd:=jh.nd
 refine⟨_,(aj (aC (au aI (au bB (au aO (ai c__law_draw (hr.mono (by decide)) rfl aF (aa (pv 0) (aa ah af))) ah) (ai c__law_draw (hr.mono (by decide)) rfl aF (aa (pv 0) (aa ah af)))) (pv 1)))),?_⟩
 show eY _ _ [some (.ref p),some (.int m)] H
 k_data
 refine⟨p,31623,n,rfl,tp,by omega,by decide,by decide,fun r1 H1 r10 r11 o1 t1=>⟨_,rfl,Bd.of (by omega) (by omega),yj (by decide),p,31623,n+1,rfl,t1,by omega,by decide,by decide,fun r2 H2 r20 r21 o2 t2=>⟨_,rfl,m0,?_⟩⟩⟩
 exact q _ _ (Int.emod_nonneg _ (by omega)) (Int.emod_lt_of_pos _ m0) (o1.trans o2) t2
end
end K
namespace K
open PySem PySem.Spec PyProof.Rows L2
section
variable {P:Program} {w:World} {K:PySem.W.Frag} {mg:Str→Option Value} {base:Heap}
def nF:Sp:=fun vs H Q _=>∃(n a:Int) (e:Int),vs=[.int n,.int a,.int e]∧0<n∧n≤10^100 ∧ -(10^100)≤a∧a≤10^100∧0≤e∧Q (.int (a^e.toNat%n)) H
theorem gG:ay [("_law_n":Str),("_law_a":Str),("_law_e":Str),("_law_found":Str)] [("_law_n":Str),("_law_a":Str),("_law_e":Str)] (ak (top 76)):=⟨rfl,rfl,rfl,by decide +kernel,rfl,by decide +kernel,by decide +kernel⟩
theorem yM (D:av K mg "_law_power" (top 76)):Callee P w K mg base aK 1 "_law_power" [("_law_n":Str),("_law_a":Str),("_law_e":Str)] nF:=by
 refine aw D (fun _ _ _ _ _ _ us hl=>match us,hl with | [_,_,_],_=>rfl) gG (fun vs H Q E h=>by obtain⟨_,_,_,rfl,_⟩:=h;rfl) (fun f cdv A outer s H vs Q E hr h=>?_)
 obtain⟨n,a,e,rfl,hn,hn1,a0,a1,he,q⟩:=h
 have nd:=gG.nd
 refine⟨_,(ae (ar (i:=3) nd rfl (Or.inl rfl) (au aI ah (pv 0))) (ae (aV PassesOwn.never (aD cR (pv 2) ah (aE _)) (ae (eA (aY (aD bO (au aI (pv 2) ah) ah (aE _)) (aj (ar (i:=3) nd rfl (Or.inl rfl) (au aI (au aO (pv 3) (pv 1)) (pv 0)))) aH)) (ae (ar (i:=1) nd rfl (Or.inl rfl) (au aI (au aO (pv 1) (pv 1)) (pv 0))) (aj (ar (i:=2) nd rfl (Or.inl rfl) (au bA (pv 2) ah)))))) (aj (aC (pv 3))))),?_⟩
 show br _ _ _ [some (.int n),some (.int a),some (.int e),none] H
 k_data
 refine⟨hn,?_⟩
 have r0:=fun x:Int=>Int.emod_nonneg x (show n≠0 by omega)
 have r1:=fun x:Int=>Int.emod_lt_of_pos x hn
 refine aW (α:=Nat × Int × Int) (fun x=>[some (.int n),some (.int x.2.2),some (.int (x.1:Int)),some (.int x.2.1)]) (fun x H1=>H1=H ∧ -(10^100)≤x.2.2∧x.2.2≤10^100∧0≤x.2.1∧x.2.1<n∧x.2.1*x.2.2^x.1%n=a^e.toNat%n) (fun x=>x.1) (e.toNat,1%n,a) (by rw [show ((e.toNat:Nat):Int)=e by omega]) ⟨rfl,a0,a1,r0 1,r1 1,?_⟩ ?_
 ·show 1%n*a^e.toNat%n=_
  rw [Pw.vN,Int.one_mul]
 rintro⟨l,r,b⟩ H1 ⟨rfl,h1,h2,h3,h4,h5⟩
 replace h1:-(10^100)≤b:=h1
 replace h2:b≤10^100:=h2
 replace h3:0≤r:=h3
 replace h4:r<n:=h4
 replace h5:r*b^l%n=a^e.toNat%n:=h5
 k_data
 refine aP (fun c=>?_) (fun c=>?_)
 ·refine⟨_,fun _ _ z=>z,fun σ' H2=>H2=H1∧σ'=[some (.int n),some (.int b),some (.int (l:Int)),some (.int (if l%2=1 then r*b%n else r))],?_,?_⟩
  ·k_data
   refine aP (fun c=>?_) (fun c=>?_)
   ·exact⟨Bd.of (by omega) (by omega),Bd.of (by omega) (by omega),hn,by rw [if_pos (by omega)]⟩
   ·rw [if_neg (by omega)]
  rintro σ' H2 ⟨rfl,rfl⟩
  k_data
  have z0:0≤(if l%2=1 then r*b%n else r)∧(if l%2=1 then r*b%n else r)<n:=by
   split
   ·exact⟨r0 _,r1 _⟩
   ·exact⟨h3,h4⟩
  have b0:=r0 (b*b)
  have b1:=r1 (b*b)
  refine⟨Bd.of (by omega) (by omega),Bd.of (by omega) (by omega),hn,yj (by decide),(l/2,(if l%2=1 then r*b%n else r),b*b%n),rfl,(by show (l:Int)/2=((l/2:Nat):Int);omega),rfl,by show -(10^100)≤b*b%n;omega,by show b*b%n≤10^100;omega,z0.1,z0.2,?_,?_⟩
  ·show (if l%2=1 then r*b%n else r)*(b*b%n)^(l/2)%n=_
   rw [Pw.step]
   exact h5
  ·show l/2<l
   omega
 ·have l0:l=0:=by omega
  subst l0
  rw [Int.pow_zero,Int.mul_one,Int.emod_eq_of_lt h3 h4] at h5
  rw [h5]
  exact q
end
end K
namespace L2
open PySem PySem.Spec PyProof.Rows PySem.W
theorem AX {K:PySem.W.Frag} {mg:Str→Option Value} {h:Heap} {x:Str} {C:Addr} (_:K.In h) (a:mg x=some (.ref C)) (p1:plainGet K C Str.empty=true) (p2:hasDictIn K C=true) (p3:plainOver K C=true) (p4:findIn K (.ref C) "__setattr__"=some (some (.builtin "object.__setattr__"))) (p5:makesIn K C=true) (p6:keepIn K (.ref C)=true):BR K mg x C:=AY a p1 p2 p3 p4 p5 p6
end L2
namespace K
open PySem PySem.Spec PyProof.Rows L2
section
variable {P:Program} {w:World} {K:PySem.W.Frag} {mg:Str→Option Value} {base:Heap} {C:Addr}
theorem si {p b:Int} {e:Nat} (pm:Num.Pm p) (o:Num.Ord p b e):(e:Int)∣p-1∧(e:Int)<p:=by
 have p2:=pm.two
 have h:=o.dv _ (Num.gP pm (pm.unit o.co))
 have h1:(e:Int)∣p-1:=by
  have:=Int.natCast_dvd_natCast.mpr h
  rwa [show (((p-1).toNat:Nat):Int)=p-1 by omega] at this
 exact⟨h1,by have:=Int.le_of_dvd (by omega) h1;omega⟩
end
end K
namespace K
open PySem PySem.Spec PyProof.Rows L2
theorem kg:∀{ds:List PyData},(∀ d∈ds,nQ d=true)→fh ds=true
 | [],_=>rfl
 | d::ds,h=>by
  rw [fh,h d (List.mem_cons_self ..),kg fun e z=>h e (List.mem_cons_of_mem _ z)]
  rfl
theorem mW {n:Int} {d:PyData} (h:Num.gA n d):nQ d=true:=by
 induction h with
 | mk n g ps ds h1 h2 h3 h4 h5 h6 ih =>
  simp only [nQ,fh,Bool.and_true,Bool.true_and]
  refine kg fun r hr=>?_
  obtain⟨i,q,k,h,rfl⟩:=fR hr
  simp only [nQ,fh,Bool.and_true]
  exact ih i q k h
section
variable {P:Program} {w:World} {K:PySem.W.Frag} {mg:Str→Option Value} {base:Heap} {C:Addr}
theorem Tp.BV {p0:Addr} {n:Nat} {H H':Hp} {t:PyData} {v:V} (tp:Tp p0 n H) (of:rN p0 H H') (nl:nQ t=true) (x:dv K H t v):dv K H' t v:=by
 refine dv.c7 (fun a xs z=>?_) t nl x
 rcases z with z | ⟨o,z⟩
 ·exact .inl (of _ _ (tp.ne z (by intro _ z;cases z)) z)
 ·exact .inr ⟨o,of _ _ (tp.ne z (by intro _ z;cases z)) z⟩
end
end K
namespace Num
theorem Part.nd {n:Int} {x:Int × Int} {r:List (Int × Int)} (h:Part n (x::r)):¬x.1∣bH r:=fun z=>by
 obtain⟨y,hy,e⟩:=cG (h.ok x (List.mem_cons_self ..)).1 (fun p hp=>(h.ok p (List.mem_cons_of_mem _ hp)).1) z
 have:=(List.pairwise_cons.mp h.rise).1 y hy
 omega
end Num
namespace K
open PySem PySem.Spec PyProof.Rows L2
section
variable {P:Program} {w:World} {K:PySem.W.Frag} {mg:Str→Option Value} {base:Heap}
def z7 (K:PySem.W.Frag):Sp:=fun vs H Q _=>∃ x q e t:Nat,vs=[.int x,.int q,.int e]∧2≤q∧q≤10^60∧1≤e∧q^t∣e∧¬q^(t+1)∣e∧t≤1000∧∀ p H',aB H H'→bC K H' p ((Num.bU x q t).map fun d=>V.int (d:Nat))→Q (.ref p) H'
theorem fU:ay [("_law_x":Str),("_law_q":Str),("_law_e":Str),("_law_digits_here":Str)] [("_law_x":Str),("_law_q":Str),("_law_e":Str)] (ak (top 77)):=⟨rfl,rfl,rfl,by decide +kernel,rfl,by decide +kernel,by decide +kernel⟩
theorem A2 (D:av K mg "_law_digits" (top 77)):Callee P w K mg base aK 1 "_law_digits" [("_law_x":Str),("_law_q":Str),("_law_e":Str)] (z7 K):=by
 refine aw D (fun _ _ _ _ _ _ us hl=>match us,hl with | [_,_,_],_=>rfl) fU (fun vs H Q E h=>by obtain⟨_,_,_,_,rfl,_⟩:=h;rfl) (fun f cdv A outer s H vs Q E hr h=>?_)
 obtain⟨x,q',e,t,rfl,q2,q9,e1,dt,nt,t9,q⟩:=h
 have nd:=fU.nd
 refine⟨_,(ae (ar (i:=3) nd rfl (Or.inl rfl) (aN af)) (ae (aV PassesOwn.never (aD bO (au aI (pv 2) (pv 1)) ah (aE _)) (ae (ar (i:=3) nd rfl (Or.inl rfl) (au yU (pv 3) (aN (aa (au aI (pv 0) (pv 1)) af)))) (ae (ar (i:=0) nd rfl (Or.inl rfl) (au bA (pv 0) (pv 1))) (aj (ar (i:=2) nd rfl (Or.inl rfl) (au bA (pv 2) (pv 1))))))) (aj (aC (pv 3))))),?_⟩
 show br _ _ _ [some (.int (x:Int)),some (.int (q':Int)),some (.int (e:Int)),none] H
 k_data
 refine⟨by decide,fun p0 hp0=>?_⟩
 refine aW (α:=Nat × Addr) (fun z=>[some (.int ((x/q'^z.1:Nat):Int)),some (.int (q':Int)),some (.int ((e/q'^z.1:Nat):Int)),some (.ref z.2)]) (fun z H1=>aB H H1∧z.1≤t∧bC K H1 z.2 ((Num.bU x q' z.1).map fun d:Nat=>V.int (d:Int))) (fun z=>t+1-z.1) (0,p0) (by rw [Nat.pow_zero,Nat.div_one,Nat.div_one]) ⟨ao hp0,Nat.zero_le _,bC.of ag⟩ ?_
 rintro⟨i,a⟩ H1 ⟨s1,it,ha⟩
 replace it:i≤t:=it
 replace ha:bC K H1 a ((Num.bU x q' i).map fun d:Nat=>V.int (d:Int)):=ha
 k_data
 have di:q'^i∣e:=Nat.dvd_trans (Nat.pow_dvd_pow q' it) dt
 obtain⟨f0,hf⟩:=di
 have qi:0<q'^i:=Nat.pow_pos (by omega)
 have ef:e/q'^i=f0:=by rw [hf];exact Nat.mul_div_cancel_left f0 qi
 have key:(((e/q'^i:Nat):Int)%(q':Int)=0)↔i<t:=by
  rw [← Int.natCast_emod,ef]
  constructor
  ·intro z
   have z':f0%q'=0:=by omega
   rcases (by omega:i<t∨i=t) with h | h
   ·exact h
   ·subst h
    obtain⟨c,hc⟩:=Nat.dvd_of_mod_eq_zero z'
    exact absurd ⟨c,by rw [Nat.pow_succ,hf,hc,Nat.mul_assoc]⟩ nt
  ·intro h
   obtain⟨c,hc⟩:=Nat.dvd_trans (Nat.pow_dvd_pow q' h) dt
   have:f0=q'*c:=by
    rw [hf,Nat.pow_succ,Nat.mul_assoc] at hc
    exact Nat.eq_of_mul_eq_mul_left qi hc
   rw [this,Nat.mul_mod_right]
   rfl
 refine⟨by omega,aP (fun c=>?_) (fun c=>?_)⟩
 ·have lt:=key.mp c
  have dl:=Num.dA (x:=x) (q:=q') (n:=i)
  refine⟨_,fun _ _ z=>z,by omega,by show 1≤sizeLine;decide,fun p1 hp1=>?_⟩
  have s2:=ao (o:=.tup [V.int (((x/q'^i:Nat):Int)%(q':Int))]) hp1
  refine⟨a,p1,_,_,rfl,rfl,ha.same s2,bC.of ag,by rw [List.length_map,dl];exact Nat.le_of_lt (l7 (by show i+1≤1000;omega)),fun p2 H2 s3 h2=>⟨by omega,Bd.of (by omega) (by omega),by omega,Bd.of (by omega) (by omega),(i+1,p2),?_,(s1.trans s2).trans s3,lt,?_,by show t+1-(i+1)<t+1-i;omega⟩⟩
  ·show _=[some (V.int ((x/q'^(i+1):Nat):Int)),_,some (V.int ((e/q'^(i+1):Nat):Int)),_]
   rw [Nat.pow_succ,← Nat.div_div_eq_div_mul,← Nat.div_div_eq_div_mul,Int.natCast_ediv (x/q'^i),Int.natCast_ediv (e/q'^i)]
  ·show bC K H2 p2 ((Num.bU x q' (i+1)).map fun d:Nat=>V.int (d:Int))
   rw [Num.gd,List.map_append]
   rw [← Int.natCast_emod] at h2
   exact h2
 ·have:i=t:=by have:=mt key.mpr c;omega
  subst this
  exact q a H1 s1 ha
end
end K
namespace K
open PySem PySem.Spec PyProof.Rows L2
section
variable {P:Program} {w:World} {K:PySem.W.Frag} {mg:Str→Option Value} {base:Heap}
structure jQ (n d:Int):Prop where
 two:2≤d
 no:∀ e:Int,2≤e→e<d→¬e∣n
theorem jQ.step {n d:Int} (h:jQ n d) (hk:¬d∣n):jQ n (d+1):=⟨by have:=h.two;omega,fun e e2 ed=>by
 rcases (by omega:e<d∨e=d) with z | z
 ·exact h.no e e2 z
 ·rw [z];exact hk⟩
theorem jQ.top {n d:Int} (h:jQ n d) (hn:1<n) (hd:n<d*d):jQ n n:=⟨by omega,fun e e2 ed=>by
 rintro⟨c,hc⟩
 have h2:=h.two
 have c1:1<c:=by
  rcases (by omega:c≤1∨1<c) with z | z
  ·have:=Int.mul_le_mul_of_nonneg_left z (show 0≤e by omega)
   omega
  ·exact z
 have ed':d≤e:=by
  rcases (by omega:d≤e∨e<d) with z | z
  ·exact z
  ·exact absurd ⟨c,hc⟩ (h.no e e2 z)
 have cd':d≤c:=by
  rcases (by omega:d≤c∨c<d) with z | z
  ·exact z
  ·exact absurd ⟨e,by rw [hc,Int.mul_comm]⟩ (h.no c (by omega) z)
 have:=Int.mul_le_mul ed' cd' (by omega) (by omega)
 omega⟩
def kS:Sp:=fun vs H Q _=>∃ n:Int,vs=[.int n]∧1≤n∧n≤10^9∧∀ ps p H',Num.Part n ps→ps.length≤29→aB H H'→H p=none→H' p=some (.lst ((ps.map (·.1)).map V.int))→Q (.ref p) H'
theorem d5:ay [("_law_n":Str),("_law_found":Str),("_law_d":Str)] [("_law_n":Str)] (ak (top 78)):=⟨rfl,rfl,rfl,by decide +kernel,rfl,by decide +kernel,by decide +kernel⟩
theorem pe (D:av K mg "_law_primes_of" (top 78)):Callee P w K mg base aK 1 "_law_primes_of" [("_law_n":Str)] kS:=by
 refine aw D (fun _ _ _ _ _ _ us hl=>match us,hl with | [_],_=>rfl) d5 (fun vs H Q E h=>by obtain⟨_,rfl,_⟩:=h;rfl) (fun f cdv A outer s H vs Q E hr h=>?_)
 obtain⟨n,rfl,n1,n9,q⟩:=h
 have nd:=d5.nd
 refine⟨_,(ae (ar (i:=1) nd rfl (Or.inl rfl) (dG af)) (ae (ar (i:=2) nd rfl (Or.inl rfl) ah) (ae (aV PassesOwn.never (aD cR (pv 0) ah (aE _)) (ae (eA (aY (aD cR (au aO (pv 2) (pv 2)) (pv 0) (aE _)) (aj (ar (i:=2) nd rfl (Or.inl rfl) (pv 0))) aH)) (ae (eA (aY (aD bO (au aI (pv 0) (pv 2)) ah (aE _)) (aj (c5 (kq PySem.F.plainAttrs_list PySem.F.slot_list_append PySem.F.type_list_append eK (pv 1) (aa (pv 2) af)))) aH)) (ae (aV PassesOwn.never (aD bO (au aI (pv 0) (pv 2)) ah (aE _)) (aj (ar (i:=0) nd rfl (Or.inl rfl) (au bA (pv 0) (pv 2))))) (aj (ar (i:=2) nd rfl (Or.inl rfl) (au bB (pv 2) ah))))))) (aj (aC (pv 1)))))),?_⟩
 show br _ _ _ [some (.int n),none,none] H
 k_data
 refine⟨by decide,fun pp hpp=>?_⟩
 refine aW (α:=Int × Int) (fun x=>[some (.int x.1),some (.ref pp),some (.int x.2)]) (fun x H1=>aB H H1∧∃(ps:List (Int × Int)) (pr:Int),H1 pp=some (.lst ((ps.map (·.1)).map V.int))∧Num.Way n ps x.1 pr∧jQ x.1 x.2∧x.2≤10^9+10) (fun x=>(10^9+20-x.2).toNat+x.1.toNat*10^10) (n,2) rfl ⟨ao hpp,[],2,ag,.start (by omega),⟨by show (2:Int)≤2;decide,fun d d0 (d1:d<2)=>by omega⟩,by show (2:Int)≤10^9+10;decide⟩ ?_
 rintro⟨left,d⟩ H1 ⟨hs,ps,pr,epp,W,Ie,d9⟩
 replace W:Num.Way n ps left pr:=W
 replace Ie:jQ left d:=Ie
 replace d9:d≤10^9+10:=d9
 have l1:=W.pos
 have d2:=Ie.two
 have ln:left≤n:=by
  have z:=W.two
  have p0:=Num.bh (show (0:Int)<2 by decide) ps.length
  have:=Int.mul_le_mul_of_nonneg_right (show (1:Int)≤2^ps.length by omega) (show 0≤left by omega)
  omega
 have len:=W.len n9
 k_data
 refine aP (fun c3=>?_) (fun c3=>?_)
 ·refine⟨_,fun _ _ z=>z,fun σ' H'=>∃ e:Int,σ'=[some (.int left),some (.ref pp),some (.int e)]∧H'=H1∧jQ left e∧e≤left∧(e=d∨e∣left),?_,?_⟩
  ·k_data
   refine⟨Bd.of (by omega) (by omega),Bd.of (by omega) (by omega),aP (fun c=>?_) (fun c=>?_)⟩
   ·exact⟨Ie.top (by omega) (by omega),Int.le_refl _,.inr (Int.dvd_refl _)⟩
   ·have:=Int.mul_le_mul_of_nonneg_right (show 1≤d by omega) (show 0≤d by omega)
    exact⟨Ie,by omega,.inl True.intro⟩
  rintro σ' H' ⟨e,rfl,rfl,Je,el,ed⟩
  have e2:=Je.two
  k_data
  refine⟨fun σ' H2=>σ'=[some (.int left),some (.ref pp),some (.int e)]∧aB H H2∧H2 pp=some (.lst (((ps.map (·.1))++if left%e=0 then [e] else []).map V.int)),?_,?_⟩
  ·k_data
   refine⟨by omega,aP (fun c=>?_) (fun c=>?_)⟩
   ·refine⟨.inl ⟨rfl,_,aX.of epp⟩,pp,_,_,rfl,rfl,epp,by rw [List.length_map,List.length_map];exact Nat.lt_of_le_of_lt (show ps.length≤29 by omega) (by decide),hs.upd hpp,?_⟩
    rw [ag,if_pos c,List.map_append (f:=V.int)]
    rfl
   ·rw [if_neg c,List.append_nil]
    exact⟨hs,epp⟩
  rintro σ' H2 ⟨rfl,s2,ep2⟩
  k_data
  refine aW (α:=Int × Nat) (fun x=>[some (.int x.1),some (.ref pp),some (.int e)]) (fun x H3=>H3=H2∧left=e^x.2*x.1∧1≤x.1∧x.1≤left) (fun x=>x.1.toNat) (left,0) rfl ⟨rfl,by rw [Int.pow_zero,Int.one_mul],by omega,Int.le_refl _⟩ ?_
  rintro⟨lf,k⟩ H3 ⟨rfl,f1,f2,f3⟩
  replace f1:left=e^k*lf:=f1
  replace f2:1≤lf:=f2
  replace f3:lf≤left:=f3
  k_data
  refine⟨by omega,?_⟩
  refine aP (fun c4=>?_) (fun c4=>?_)
  ·obtain⟨y,hy⟩:=Int.dvd_of_emod_eq_zero c4
   have ey:lf/e=y:=by rw [hy];exact Int.mul_ediv_cancel_left _ (by omega)
   have y1:1≤y:=by
    rcases (by omega:y≤0∨1≤y) with z | z
    ·have:=Int.mul_nonpos_of_nonneg_of_nonpos (show 0≤e by omega) z
     omega
    ·exact z
   have yl:y<lf:=by
    rw [hy]
    have:=Int.mul_le_mul_of_nonneg_right e2 (show 0≤y by omega)
    omega
   refine⟨_,fun _ _ z=>z,by omega,Bd.of (by omega) (by omega),(y,k+1),?_,rfl,?_,y1,by show y≤left;omega,by show y.toNat<lf.toNat;omega⟩
   ·rw [ey]
   ·show left=e^(k+1)*y
    rw [f1,hy,Int.pow_succ,Int.mul_assoc]
  ·have ng:¬e∣lf:=fun z=>c4 (Int.emod_eq_zero_of_dvd z)
   have Jl:jQ lf (e+1):=jQ.step ⟨e2,fun d d2 de z=>Je.no d d2 de (by rw [f1];exact Int.dvd_mul_of_dvd_right z)⟩ ng
   rcases Nat.eq_zero_or_pos k with z | k1
   ·subst z
    rw [Int.pow_zero,Int.one_mul] at f1
    subst f1
    have:e=d:=ed.elim id fun z=>absurd z ng
    subst this
    rw [if_neg c4,List.append_nil] at ep2
    refine⟨(left,e+1),rfl,rfl,s2,⟨ps,ep2,pr,W,Jl,by show e+1≤10^9+10;omega⟩,?_⟩
    show (10^9+20-(e+1)).toNat+left.toNat*10^10<(10^9+20-e).toNat+left.toNat*10^10
    omega
   ·have el':e∣left:=by
     obtain⟨k',rfl⟩:∃ k',k=k'+1:=⟨k-1,by omega⟩
     rw [f1,Int.pow_succ]
     exact Int.dvd_mul_of_dvd_left ⟨e^k',Int.mul_comm _ _⟩
    have hL:Ld.fB left e:=⟨e2,el',Je.no⟩
    have W2:=W.step n9 c3 hL f1 f2 k1 ng
    have lt:lf<left:=by
     obtain⟨k',rfl⟩:∃ k',k=k'+1:=⟨k-1,by omega⟩
     have p0:=Num.bh (show 0<e by omega) k'
     have h1:e≤e^(k'+1):=by
      rw [Int.pow_succ]
      have:=Int.mul_le_mul_of_nonneg_right (show 1≤e^k' by omega) (show 0≤e by omega)
      omega
     have:=Int.mul_le_mul_of_nonneg_right (show 2≤e^(k'+1) by omega) (show 0≤lf by omega)
     omega
    rw [if_pos (Int.emod_eq_zero_of_dvd el')] at ep2
    refine⟨(lf,e+1),rfl,rfl,s2,⟨ps++[(e,(k:Int))],by rw [List.map_append];exact ep2,e,W2,Jl,by show e+1≤10^9+10;omega⟩,?_⟩
    show (10^9+20-(e+1)).toNat+lf.toNat*10^10<(10^9+20-d).toNat+left.toNat*10^10
    omega
 ·have z:left=1:=by omega
  subst z
  exact q ps pp H1 W.done (W.len n9) hs hpp epp
end
end K
namespace K
open PySem PySem.Spec PyProof.Rows L2
theorem kj:∀{ps:List (Int × Int)} {y:Int × Int},(∀ z∈ps,Num.Pm z.1)→ps.Pairwise (fun a b=>a.1<b.1)→y∈ps→¬y.1.toNat^(y.2.toNat+1)∣Num.eN ps
 | p::r,y,hp,hr,hy,hd=>by
  obtain⟨r1,r2⟩:=List.pairwise_cons.mp hr
  have q2:=(hp y hy).two
  replace hd:y.1.toNat^(y.2.toNat+1)∣p.1.toNat^p.2.toNat*Num.eN r:=hd
  rcases List.mem_cons.mp hy with rfl | hy'
  ·have nd:¬y.1.toNat∣Num.eN r:=Num.zP (hp y hy) (fun z hz=>hp z (List.mem_cons_of_mem _ hz)) fun z hz=>by have:=r1 z hz;omega
   rw [Nat.pow_succ] at hd
   exact nd (Nat.dvd_of_mul_dvd_mul_left (Nat.pow_pos (by omega)) hd)
  ·have co:=Num.rT (b:=[y]) (fun z hz=>by rw [List.mem_singleton.mp hz];exact hp y hy) [p] (fun z hz=>by rw [List.mem_singleton.mp hz];exact hp p (List.mem_cons_self ..)) fun x hx z hz=>by
    rw [List.mem_singleton.mp hx,List.mem_singleton.mp hz]
    have:=r1 y hy'
    omega
   have e1:Num.eN [p]=p.1.toNat^p.2.toNat:=Nat.mul_one _
   have nq:=Num.oW (hp y hy)
   have co2:Nat.Coprime (y.1.toNat^(y.2.toNat+1)) (p.1.toNat^p.2.toNat):=by
    refine Num.uV nq (fun z=>?_) _
    have h3:(y.1:Int)∣p.1^p.2.toNat:=by
     have:=Int.natCast_dvd_natCast.mpr z
     rwa [Int.natCast_pow,show ((y.1.toNat:Nat):Int)=y.1 by omega,show ((p.1.toNat:Nat):Int)=p.1 by have:=(hp p (List.mem_cons_self ..)).two;omega] at this
    have:=Num.rg (hp p (List.mem_cons_self ..)) (hp y hy) _ h3
    have:=r1 y hy'
    omega
   exact kj (fun z hz=>hp z (List.mem_cons_of_mem _ hz)) r2 hy' (co2.dvd_of_dvd_mul_left hd)
end K
namespace K
open PySem PySem.Spec PyProof.Rows L2
section
variable {P:Program} {w:World} {K:PySem.W.Frag} {mg:Str→Option Value} {base:Heap}
def rj (p b:Int) (i:Nat):List V:=(List.range i).map fun j=>V.int (b^j%p)
theorem pM {p b:Int} {i:Nat}:rj p b (i+1)=rj p b i++[V.int (b^i%p)]:=by
 unfold rj
 rw [List.range_succ,List.map_append]
 rfl
theorem m9 {p b:Int} {i:Nat}:(rj p b i).length=i:=by
 unfold rj
 rw [List.length_map,List.length_range]
theorem pL {p b:Int} {i:Nat}:(rj p b i).all dB=true:=by
 unfold rj
 rw [List.all_eq_true]
 intro x hx
 obtain⟨j,_,rfl⟩:=List.mem_map.mp hx
 rfl
theorem Bp {p b:Int} {i j:Nat} {z:V} (h:(rj p b i)[j]?=some z):j<i∧z=V.int (b^j%p):=by
 have hj:j<i:=by
  have:=(List.getElem?_eq_some_iff.mp h).1
  rwa [m9] at this
 refine⟨hj,?_⟩
 unfold rj at h
 rw [List.getElem?_map,List.getElem?_range hj] at h
 cases h
 rfl
theorem wL {p b c:Int} {i:Nat}:Ci (.int c) (rj p b i)=true↔∃ j,j<i∧b^j%p=c:=by
 unfold Ci rj
 rw [List.any_eq_true]
 constructor
 ·rintro⟨x,hx,e⟩
  obtain⟨j,hj,rfl⟩:=List.mem_map.mp hx
  exact⟨j,List.mem_range.mp hj,by simpa [oH] using e⟩
 ·rintro⟨j,hj,e⟩
  exact⟨_,List.mem_map.mpr ⟨j,List.mem_range.mpr hj,rfl⟩,by simpa [oH] using e⟩
def xh (K:PySem.W.Frag):Sp:=fun vs H Q _=>∃(p b a:Int) (e:Nat),vs=[.int p,.int b,.int a]∧Num.Pm p∧p≤1000 ∧ -(10^60)≤b∧b≤10^60 ∧ -(10^60)≤a∧a≤10^60∧Num.Ord p b e∧(e:Int)<p∧(∀ u H',(∀ x,x<e→¬Num.Al p a (b^x))→aB H H'→dv K H' (rY e (a^e%p)) u→Q u H')∧∀ x ps u H',x<e→Num.Al p a (b^x)→Num.Part e ps→aB H H'→dv K H' (wU x e ps) u→Q u H'
theorem dZ:ay [("_law_p":Str),("_law_b":Str),("_law_a":Str),("_law_powers":Str),("_law_e":Str),("_law_x":Str)] [("_law_p":Str),("_law_b":Str),("_law_a":Str)] (ak (top 79)):=⟨rfl,rfl,rfl,by decide +kernel,rfl,by decide +kernel,by decide +kernel⟩
theorem A3 (D:av K mg "_law_due_power" (top 79)) (c__law_power:Callee P w K mg base aK 1 "_law_power" ["_law_n","_law_a","_law_e"] nF) (c__law_digits:Callee P w K mg base aK 1 "_law_digits" ["_law_x","_law_q","_law_e"] (z7 K)) (c__law_primes_of:Callee P w K mg base aK 1 "_law_primes_of" ["_law_n"] kS) (n_tuple:mg "tuple"=none) (n_len:mg "len"=none):Callee P w K mg base aK 2 "_law_due_power" [("_law_p":Str),("_law_b":Str),("_law_a":Str)] (xh K):=by
 refine aw D (fun _ _ _ _ _ _ us hl=>match us,hl with | [_,_,_],_=>rfl) dZ (fun vs H Q E h=>by obtain⟨_,_,_,_,rfl,_⟩:=h;rfl) (fun f cdv A outer s H vs Q E hr h=>?_)
 obtain⟨p,b,a,e,rfl,pm,p9,b0,b1,a0,a1,o,ep,qn,qi⟩:=h
 have p2:=pm.two
 have e0:=o.pos
 have nd:=dZ.nd
 refine⟨_,(ae (ar (i:=3) nd rfl (Or.inl rfl) (dG (aa ah af))) (ae (aV PassesOwn.never (aD jg (au aI (au aO (aL gi (pv 3) (kz gX ah) (fun _ _=>rfl)) (pv 1)) (pv 0)) ah (aE _)) (aj (c5 (kq PySem.F.plainAttrs_list PySem.F.slot_list_append PySem.F.type_list_append eK (pv 3) (aa (au aI (au aO (aL gi (pv 3) (kz gX ah) (fun _ _=>rfl)) (pv 1)) (pv 0)) af))))) (ae (ar (i:=4) nd rfl (Or.inr rfl) (aG bN rfl n_len PySem.boot_len (aa (pv 3) af))) (ae (aY (aD mT (au aI (pv 2) (pv 0)) (pv 3) (by with_unfolding_all rfl)) (aj (aC (aN (aa iY (aa (aN (aa b8 (aa (pv 4) (aa (ai c__law_power (hr.mono (by decide)) rfl aF (aa (pv 0) (aa (pv 2) (aa (pv 4) af)))) af)))) af))))) aH) (ae (ar (i:=5) nd rfl (Or.inr rfl) (kq PySem.F.plainAttrs_list PySem.F.slot_list_index PySem.F.type_list_index vM (pv 3) (aa (au aI (pv 2) (pv 0)) af))) (aj (aC (aN (aa (pv 5) (aa (aN (aa b8 (aa (pv 4) (aa (bW bI rfl n_tuple L2.boot_tuple (aa (dW rfl (cm (N':=["_law_q","_law_x","_law_e"]) (js:=[none,some 5,some 4]) rfl rfl (by decide +kernel) (by decide +kernel) (by repeat (first | exact True.intro | refine⟨rfl,?_⟩)) (by repeat (first | exact True.intro | refine⟨rfl,?_⟩ | refine⟨True.intro,?_⟩)) (by repeat (first | exact True.intro | refine⟨⟨rfl,rfl,.inl rfl,.inl rfl⟩,?_⟩))) (b9 (ai c__law_primes_of (hr.mono (by decide)) rfl aF (aa (pv 4) af))) (fun _ _ _ _=>(ax (i:=0) (show List.Nodup [("_law_q":Str),("_law_x":Str),("_law_e":Str)] from by decide +kernel) rfl (Or.inl rfl) (.inr rfl))) (fun _ _ _ _=>bG) (fun _ _ _ _=>(aN (aa (pv 0) (aa (ai c__law_digits (hr.mono (by decide)) rfl aF (aa (pv 1) (aa (pv 0) (aa (pv 2) af)))) af))))) af)) af)))) af)))))))))),?_⟩
 show br _ _ _ [some (.int p),some (.int b),some (.int a),none,none,none] H
 k_data
 have r0:=fun x:Int=>Int.emod_nonneg x (show p≠0 by omega)
 have r1:=fun x:Int=>Int.emod_lt_of_pos x (show 0<p by omega)
 refine⟨by decide,fun pl hpl=>?_⟩
 refine aW (α:=Nat) (fun _=>[some (.int p),some (.int b),some (.int a),some (.ref pl),none,none]) (fun i H1=>aB H H1∧i<e∧H1 pl=some (.lst (rj p b (i+1)))) (fun i=>e-i) 0 rfl ⟨ao hpl,e0,?_⟩ ?_
 ·rw [ag]
  show _=some (HO.lst [V.int (b^0%p)])
  rw [Int.pow_zero,Int.emod_eq_of_lt (by decide) (by omega)]
 rintro i H1 ⟨s1,ie,hl⟩
 replace ie:i<e:=ie
 have ix:∀{Q:VK},Q (V.int (b^i%p)) H1→Br K (.ref pl) (.int (-1)) H1 Q:=fun {Q} h=>⟨pl,_,-1,_,rfl,rfl,aX.of hl,by rw [pM];exact uR _ _,h⟩
 have nx:b^i%p*b%p=b^(i+1)%p:=by rw [Pw.vN,Int.pow_succ]
 have h0:=r0 (b^i)
 have h1:=r1 (b^i)
 have bx:Bd (b^i%p):=Bd.of (by omega) (by omega)
 have bb:Bd b:=Bd.of (by omega) (by omega)
 k_data
 refine ix ⟨_,rfl,bx,bb,by omega,?_⟩
 rw [nx]
 refine aP (fun c=>?_) (fun c=>?_)
 ·have ie':i+1<e:=by
   rcases (by omega:i+1<e∨i+1=e) with z | z
   ·exact z
   ·subst z
    exact absurd ((bZ p2).mpr o.one) c
  refine⟨_,fun _ _ z=>z,.inl ⟨rfl,_,aX.of hl⟩,ix ⟨_,rfl,bx,bb,by omega,?_⟩⟩
  rw [nx]
  refine⟨pl,_,_,rfl,rfl,hl,by rw [m9];exact Nat.lt_of_le_of_lt (show i+1≤1000 by omega) (by decide),rfl,s1.upd hpl,i+1,ie',?_,by show e-(i+1)<e-i;omega⟩
  rw [ag,← pM]
 ·have ie':i+1=e:=by
   have h3:b^(i+1)%p=1:=by
    rcases (by omega:b^(i+1)%p=1∨b^(i+1)%p≠1) with z | z
    ·exact z
    ·exact absurd z c
   have:=Nat.le_of_dvd (by omega) (o.dv _ ((bZ p2).mp h3))
   omega
  rw [ie'] at hl
  refine dQ (aX.of hl) ?_
  rw [m9]
  refine⟨by omega,pl,_,rfl,.inl (aX.of hl),rfl,pL,_,rfl,?_⟩
  cases hin:Ci (V.int (a%p)) (rj p b e) with
  | false =>
   rw [if_pos (by rfl)]
   refine⟨p,a,_,rfl,by omega,by omega,by omega,by omega,by omega,?_⟩
   rw [Int.toNat_natCast]
   refine⟨by show 3≤sizeLine;decide,fun p3 hp3=>⟨by show 2≤sizeLine;decide,fun p4 hp4=>?_⟩⟩
   have s3:=ao (o:=.tup [V.str "none",V.int (e:Int),V.int (a^e%p)]) hp3
   have s4:=ao (o:=.tup [V.non,V.ref p3]) hp4
   refine qn _ _ (fun x xe al=>?_) (s1.trans (s3.trans s4)) (dv.tup ag ⟨_,_,rfl,rfl,.one (dv.tup (s4 _ _ ag) ⟨_,_,rfl,rfl,_,_,rfl,rfl,.one rfl⟩)⟩)
   have:=wL.mpr ⟨x,xe,Num.Al.iff.mp al.symm⟩
   rw [hin] at this
   cases this
  | true =>
   rw [if_neg (by decide)]
   obtain⟨x,xe,hx⟩:=wL.mp hin
   have al:Num.Al p a (b^x):=(Num.Al.iff.mpr hx).symm
   have hat:(rj p b e)[x]?=some (V.int (b^x%p)):=by
    unfold rj
    rw [List.getElem?_map,List.getElem?_range xe]
    rfl
   refine⟨.inl ⟨rfl,_,aX.of hl⟩,by omega,pl,_,_,x,rfl,rfl,hl,rfl,pL,⟨_,hat,by simp [oH,hx]⟩,fun j z hj hz=>?_,e,rfl,by omega,by omega,fun ps ql H2 hps p29 s2 fql eql=>⟨ql,rfl,⟨_,aX.of eql⟩,?_⟩⟩
   ·obtain⟨je,rfl⟩:=Bp hz
    rcases hc:oH (V.int (b^j%p)) (V.int (a%p)) with _ | _
    ·rfl
    ·have h3:b^j%p=a%p:=by simpa [oH] using hc
     have:=o.ik je xe (h3.trans hx.symm)
     omega
   have eE:Num.eN ps=e:=by
    have:=Num.dP ps fun y hy=>(hps.ok y hy).1
    rw [hps.prod] at this
    omega
   refine bR (xs:=(ps.map (·.1)).map V.int) (fun i zs H5=>aB H2 H5∧aM K H5 ((ps.take i).map (fv x)) zs) ⟨aB.refl _,rfl⟩ (by rw [List.length_map,List.length_map];exact Nat.le_trans p29 (by decide)) (fun i zs H5 hi ⟨z1,z2⟩=>⟨aX.of (z1 _ _ eql),by rw [z2.length,List.length_map,List.length_take];omega⟩) ?_ ?_
   ·rintro i w' zs H5 hx ⟨s5,hz⟩
    rw [List.getElem?_map,List.getElem?_map] at hx
    obtain⟨q',hx1,rfl⟩:=Option.map_eq_some_iff.mp hx
    obtain⟨⟨q'',t'⟩,hy,rfl⟩:=Option.map_eq_some_iff.mp hx1
    obtain⟨pq,t1,t9⟩:=hps.ok _ (List.mem_of_getElem? hy)
    have dE:=fJ (List.mem_of_getElem? hy)
    have nE:=kj (fun z hz=>(hps.ok z hz).1) hps.rise (List.mem_of_getElem? hy)
    rw [eE] at dE nE
    replace pq:Num.Pm q'':=pq
    replace t1:1≤t':=t1
    replace t9:t'≤30:=t9
    have q2:=pq.two
    have qe:q''∣(e:Int):=by
     rw [← hps.prod]
     exact Num.cE (List.mem_of_getElem? hy) t1
    have qe':=Int.le_of_dvd (by omega) qe
    obtain⟨qn',rfl⟩:∃ n:Nat,q''=n:=⟨q''.toNat,by omega⟩
    obtain⟨tn,rfl⟩:∃ n:Nat,t'=n:=⟨t'.toNat,by omega⟩
    replace dE:qn'^tn∣e:=dE
    replace nE:¬qn'^(tn+1)∣e:=nE
    show cF 0 _ [none,some (.int (x:Int)),some (.int (e:Int))] _ _
    k_data
    refine⟨⟨rfl,rfl,True.intro⟩,x,qn',e,tn,rfl,by omega,by omega,by omega,dE,nE,by omega,fun pd H6 s6 hSd=>⟨by show 2≤sizeLine;decide,fun p7 hp7=>?_⟩⟩
    have s7:=ao (o:=.tup [V.int (qn':Int),V.ref pd]) hp7
    refine⟨(s5.trans s6).trans s7,?_⟩
    rw [List.take_add_one,hy,List.map_append]
    refine aM.append (aM.same (s6.trans s7) _ hz) (.one (dv.tup ag ⟨_,_,rfl,rfl,.one ⟨pd,_,rfl,hSd.same s7,?_⟩⟩))
    have:=aM.ints (K:=K) (H:=upd H6 p7 (.tup [V.int (qn':Int),V.ref pd])) ((Num.bU x qn' tn).map fun d:Nat=>(d:Int))
    rw [List.map_map (f:=fun d:Nat=>(d:Int)) (g:=V.int)] at this
    exact this
   ·rintro zs H5 p5 ⟨s5,hz⟩ hp5
    rw [List.length_map,List.length_map,List.take_length] at hz
    have s6:=ao (o:=.lst zs) hp5
    refine⟨p5,rfl,zs,.inl ⟨aX.of ag,fun pt hpt=>⟨by show 3≤sizeLine;decide,fun p7 hp7=>⟨by show 2≤sizeLine;decide,fun p8 hp8=>?_⟩⟩⟩⟩
    have s7:=ao (o:=.tup zs) hpt
    have s8:=ao (o:=.tup [V.str "is",V.int (e:Int),V.ref pt]) hp7
    have s9:=ao (o:=.tup [V.int (x:Int),V.ref p7]) hp8
    have S9:=s6.trans (s7.trans (s8.trans s9))
    exact qi x ps _ _ xe al hps (s1.trans (s2.trans (s5.trans S9))) (dv.tup ag ⟨_,_,rfl,rfl,.one (dv.tup (s9 _ _ ag) ⟨_,_,rfl,rfl,_,_,rfl,rfl,.one (dv.tup ((s8.trans s9) _ _ ag) (aM.same S9 _ hz))⟩)⟩)
end
end K
namespace K
open PySem PySem.Spec PyProof.Rows L2
section
variable {P:Program} {w:World} {K:PySem.W.Frag} {mg:Str→Option Value} {base:Heap}
theorem zk {a d L:Int} (hd:0<d) (h0:-L≤a) (h1:a≤L):-L≤a/d∧a/d≤L:=by
 have L0:0≤L:=by omega
 have h2:L*1≤L*d:=Int.mul_le_mul_of_nonneg_left (show 1≤d by omega) L0
 refine⟨Int.le_ediv_of_mul_le hd (by rw [Int.neg_mul];omega),Int.ediv_le_of_le_mul hd (by omega)⟩
def z9 (K:PySem.W.Frag):Sp:=fun vs H Q _=>∃(a:Addr) (ns:List Int),vs=[.ref a]∧aX K H a (ns.map V.int)∧ns.length≤63∧∀ H',Q (.bl true) H'
end
end K
namespace K
open PySem PySem.Spec PyProof.Rows L2
section
variable {P:Program} {w:World} {K:PySem.W.Frag} {mg:Str→Option Value} {base:Heap} {C:Addr}
structure kZ (p g:Int) (ps:List (Int × Int)) (ds:Nat→PyData):Prop where
 pm:Num.Pm p
 p9:p≤10^9
 hP:Num.Part (p-1) ps
 l29:ps.length≤29
 hds:∀ i q k,ps[i]?=some (q,k)→Num.gA q (ds i)
 g1:1≤g
 gp:g<p
 o:Num.Ord p g (p-1).toNat
 sm:pV (.tuple [.int p,.int g,.tuple (Num.rowsOf ps ds)])
 sz:gN (.tuple [.int p,.int g,.tuple (Num.rowsOf ps ds)])≤10^6
def xc (K:PySem.W.Frag):Sp:=fun vs H Q _=>∃ x q e t:Nat,vs=[.int e,.int q,.int x]∧2≤q∧q≤10^60∧1≤e∧q^t∣e∧¬q^(t+1)∣e∧t≤1000∧∀ p H',aB H H'→bC K H' p ((Num.bU x q t).map fun d=>V.int (d:Nat))→Q (.ref p) H'
theorem iw:ay [("e":Str),("q":Str),("x":Str),("found":Str),("left":Str),("number":Str)] [("e":Str),("q":Str),("x":Str)] (ak (top 36)):=⟨rfl,rfl,rfl,by decide +kernel,rfl,by decide +kernel,by decide +kernel⟩
theorem yG (D:av K mg "digits_by" (top 36)) (n_tuple:mg "tuple"=none):Callee P w K mg base aK 1 "digits_by" [("e":Str),("q":Str),("x":Str)] (xc K):=by
 refine aw D (fun _ _ _ _ _ _ us hl=>match us,hl with | [_,_,_],_=>rfl) iw (fun vs H Q E h=>by obtain⟨_,_,_,_,rfl,_⟩:=h;rfl) (fun f cdv A outer s H vs Q E hr h=>?_)
 obtain⟨x,q',e,t,rfl,q2,q9,e1,dt,nt,t9,q⟩:=h
 have nd:=iw.nd
 refine⟨_,(ae (ar (i:=3) nd rfl (Or.inl rfl) (dG af)) (ae (ar (i:=4) nd rfl (Or.inl rfl) (pv 0)) (ae (ar (i:=5) nd rfl (Or.inl rfl) (pv 2)) (ae (aV PassesOwn.never (aD bO (au aI (pv 4) (pv 1)) ah (aE _)) (ae (c5 (kq PySem.F.plainAttrs_list PySem.F.slot_list_append PySem.F.type_list_append eK (pv 3) (aa (au aI (pv 5) (pv 1)) af))) (ae (cL (i:=4) nd rfl (Or.inl rfl) (pv 1) (dF eG)) (aj (cL (i:=5) nd rfl (Or.inl rfl) (pv 1) (dF eG)))))) (aj (aC (bW bI rfl n_tuple L2.boot_tuple (aa (pv 3) af)))))))),?_⟩
 show br _ _ _ [some (.int (e:Int)),some (.int (q':Int)),some (.int (x:Int)),none,none,none] H
 k_data
 refine⟨by decide,fun p0 hp0=>?_⟩
 refine aW (α:=Nat) (fun i=>[some (.int (e:Int)),some (.int (q':Int)),some (.int (x:Int)),some (.ref p0),some (.int ((e/q'^i:Nat):Int)),some (.int ((x/q'^i:Nat):Int))]) (fun i H1=>aB H H1∧i≤t∧H1 p0=some (.lst ((Num.bU x q' i).map fun d:Nat=>V.int (d:Int)))) (fun i=>t+1-i) 0 (by rw [Nat.pow_zero,Nat.div_one,Nat.div_one]) ⟨ao hp0,Nat.zero_le _,ag⟩ ?_
 rintro i H1 ⟨s1,it,ha⟩
 replace it:i≤t:=it
 k_data
 have di:q'^i∣e:=Nat.dvd_trans (Nat.pow_dvd_pow q' it) dt
 obtain⟨f0,hf⟩:=di
 have qi:0<q'^i:=Nat.pow_pos (by omega)
 have ef:e/q'^i=f0:=by rw [hf];exact Nat.mul_div_cancel_left f0 qi
 have key:(((e/q'^i:Nat):Int)%(q':Int)=0)↔i<t:=by
  rw [← Int.natCast_emod,ef]
  constructor
  ·intro z
   have z':f0%q'=0:=by omega
   rcases (by omega:i<t∨i=t) with h | h
   ·exact h
   ·subst h
    obtain⟨c,hc⟩:=Nat.dvd_of_mod_eq_zero z'
    exact absurd ⟨c,by rw [Nat.pow_succ,hf,hc,Nat.mul_assoc]⟩ nt
  ·intro h
   obtain⟨c,hc⟩:=Nat.dvd_trans (Nat.pow_dvd_pow q' h) dt
   have:f0=q'*c:=by
    rw [hf,Nat.pow_succ,Nat.mul_assoc] at hc
    exact Nat.eq_of_mul_eq_mul_left qi hc
   rw [this,Nat.mul_mod_right]
   rfl
 have dl:=Num.dA (x:=x) (q:=q') (n:=i)
 refine⟨by omega,aP (fun c=>?_) (fun c=>?_)⟩
 ·have lt:=key.mp c
  refine⟨_,fun _ _ z=>z,.inl ⟨rfl,_,aX.of ha⟩,by omega,p0,_,_,rfl,rfl,ha,by rw [List.length_map,dl];exact Nat.lt_of_le_of_lt (show i≤1000 by omega) (by decide),by omega,Bd.of (by omega) (by omega),by omega,Bd.of (by omega) (by omega),i+1,?_,s1.upd hp0,lt,?_,by show t+1-(i+1)<t+1-i;omega⟩
  ·show _=[_,_,_,_,some (V.int ((e/q'^(i+1):Nat):Int)),some (V.int ((x/q'^(i+1):Nat):Int))]
   rw [Nat.pow_succ,← Nat.div_div_eq_div_mul,← Nat.div_div_eq_div_mul,Int.natCast_ediv (x/q'^i),Int.natCast_ediv (e/q'^i)]
  ·rw [ag,Num.gd,List.map_append,← Int.natCast_emod]
   rfl
 ·have:i=t:=by have:=mt key.mpr c;omega
  subst this
  refine⟨_,.inl ⟨aX.of ha,fun p1 hp1=>?_⟩⟩
  exact q p1 _ (s1.trans (ao hp1)) (bC.of ag)
end
end K
namespace K
open PySem PySem.Spec PyProof.Rows L2
section
variable {P:Program} {w:World} {K:PySem.W.Frag} {mg:Str→Option Value} {base:Heap} {C:Addr}
theorem pQ:∀{l m:List Int},l.Pairwise (·<·)→m.Pairwise (·<·)→(∀ a,a∈l↔a∈m)→l=m
 | [],[],_,_,_=>rfl
 | [],y::m,_,_,h=>by cases (h y).mpr (List.mem_cons_self ..)
 | x::l,[],_,_,h=>by cases (h x).mp (List.mem_cons_self ..)
 | x::l,y::m,h1,h2,h=>by
  obtain⟨a1,a2⟩:=List.pairwise_cons.mp h1
  obtain⟨b1,b2⟩:=List.pairwise_cons.mp h2
  have e:x=y:=by
   rcases List.mem_cons.mp ((h x).mp (List.mem_cons_self ..)) with z | z
   ·exact z
   ·rcases List.mem_cons.mp ((h y).mpr (List.mem_cons_self ..)) with z' | z'
    ·exact z'.symm
    ·have:=b1 x z;have:=a1 y z';omega
  subst e
  rw [pQ a2 b2 fun a=>?_]
  constructor
  ·intro z
   rcases List.mem_cons.mp ((h a).mp (List.mem_cons_of_mem _ z)) with y | y
   ·have:=a1 a z;omega
   ·exact y
  ·intro z
   rcases List.mem_cons.mp ((h a).mpr (List.mem_cons_of_mem _ z)) with y | y
   ·have:=b1 a z;omega
   ·exact y
def kI (ps:List (Int × Int)) (e:Nat):List Int:=(ps.map (·.1)).filter fun q=>decide ((e:Int)%q=0)
theorem uA {n:Int} {e:Nat} {ps pl:List (Int × Int)} (h:Num.Part n ps) (h':Num.Part e pl) (hd:(e:Int)∣n):kI ps e=pl.map (·.1):=by
 refine pQ ?_ ?_ fun a=>?_
 ·exact List.Pairwise.sublist List.filter_sublist (List.pairwise_map.mpr h.rise)
 ·exact List.pairwise_map.mpr h'.rise
 ·unfold kI
  rw [List.mem_filter]
  constructor
  ·rintro⟨h1,h2⟩
   obtain⟨y,hy,rfl⟩:=List.mem_map.mp h1
   obtain⟨z,hz,ez⟩:=Num.cG (h.ok y hy).1 (fun z hz=>(h'.ok z hz).1) (by rw [h'.prod];exact Int.dvd_of_emod_eq_zero (of_decide_eq_true h2))
   exact List.mem_map.mpr ⟨z,hz,ez⟩
  ·intro h1
   obtain⟨y,hy,rfl⟩:=List.mem_map.mp h1
   have d1:y.1∣(e:Int):=by rw [← h'.prod];exact Num.cE hy (h'.ok y hy).2.1
   obtain⟨z,hz,ez⟩:=Num.cG (h'.ok y hy).1 (fun z hz=>(h.ok z hz).1) (by rw [h.prod];exact Int.dvd_trans d1 hd)
   exact⟨List.mem_map.mpr ⟨z,hz,ez⟩,decide_eq_true (Int.emod_eq_zero_of_dvd d1)⟩
def tq (pl:List (Int × Int)) (q:Int):Int:=((pl.find? fun y=>decide (y.1=q)).map (·.2)).getD 0
theorem xW:∀{pl:List (Int × Int)} {y:Int × Int},pl.Pairwise (fun a b=>a.1<b.1)→y∈pl→tq pl y.1=y.2
 | z::r,y,h,hy=>by
  obtain⟨h1,h2⟩:=List.pairwise_cons.mp h
  rcases List.mem_cons.mp hy with rfl | hy'
  ·unfold tq
   rw [List.find?_cons_of_pos (by simp)]
   rfl
  ·have:=h1 y hy'
   have e:tq (z::r) y.1=tq r y.1:=by
    unfold tq
    rw [List.find?_cons_of_neg (by simp;omega)]
   rw [e]
   exact xW h2 hy'
theorem zq {pl:List (Int × Int)} {x:Nat} (h:pl.Pairwise (fun a b=>a.1<b.1)):pl.map (fv x)=(pl.map (·.1)).map fun q=>fv x (q,tq pl q):=by
 rw [List.map_map]
 refine List.map_congr_left fun y hy=>?_
 show fv x y=fv x (y.1,tq pl y.1)
 rw [xW h hy]
def xf (K:PySem.W.Frag):Sp:=fun vs H Q _=>∃(v:V) (p g:Int) (ps pl:List (Int × Int)) (ds:Nat→PyData) (x e:Nat),vs=[v,.int e,.int x]∧dv K H (.tuple [.int p,.int g,.tuple (Num.rowsOf ps ds)]) v∧kZ p g ps ds∧1≤e∧(e:Int)∣p-1∧e≤10^9∧Num.Part e pl∧pl.length≤12∧∀ u H',aB H H'→dv K H' (.tuple (pl.map (fv x))) u→Q u H'
theorem gI:ay [("paper":Str),("e":Str),("x":Str)] [("paper":Str),("e":Str),("x":Str)] (ak (top 35)):=⟨rfl,rfl,rfl,by decide +kernel,rfl,by decide +kernel,by decide +kernel⟩
theorem yH (D:av K mg "digit_rows" (top 35)) (c_digits_by:Callee P w K mg base aK 1 "digits_by" ["e","q","x"] (xc K)) (c_primes_in:Callee P w K mg base aK 1 "primes_in" ["parts"] (cM K)) (n_tuple:mg "tuple"=none):Callee P w K mg base aK 2 "digit_rows" [("paper":Str),("e":Str),("x":Str)] (xf K):=by
 refine aw D (fun _ _ _ _ _ _ us hl=>match us,hl with | [_,_,_],_=>rfl) gI (fun vs H Q E h=>by obtain⟨_,_,_,_,_,_,_,_,rfl,_⟩:=h;rfl) (fun f cdv A outer s H vs Q E hr h=>?_)
 obtain⟨v,p,g,ps,pl,ds,x,e,rfl,hd,R,e1,ed,e9,hpl,few,q⟩:=h
 have nd:=gI.nd
 refine⟨_,(aj (aC (bW bI rfl n_tuple L2.boot_tuple (aa (dW rfl (cm (N':=["q","e","x"]) (js:=[none,some 1,some 2]) rfl rfl (by decide +kernel) (by decide +kernel) (by repeat (first | exact True.intro | refine⟨rfl,?_⟩)) (by repeat (first | exact True.intro | refine⟨rfl,?_⟩ | refine⟨True.intro,?_⟩)) (by repeat (first | exact True.intro | refine⟨⟨rfl,rfl,.inl rfl,.inl rfl⟩,?_⟩))) (b9 (ai c_primes_in (hr.mono (by decide)) rfl aF (aa (aL aR (pv 0) ah (fun _ _=>rfl)) af))) (fun _ _ _ _=>(ax (i:=0) (show List.Nodup [("q":Str),("e":Str),("x":Str)] from by decide +kernel) rfl (Or.inl rfl) (.inr rfl))) (fun _ _ _ _=>(kB (aD bO (au aI (pv 1) (pv 0)) ah (aE _)))) (fun _ _ _ _=>(aN (aa (pv 0) (aa (ai c_digits_by (hr.mono (by decide)) rfl aF (aa (pv 1) (aa (pv 0) (aa (pv 2) af)))) af))))) af)))),?_⟩
 show eY _ _ [some v,some (.int (e:Int)),some (.int (x:Int))] H
 obtain⟨pp,y1,y2,vr,rfl,tS,e0,eg,dr⟩:=jW hd
 cases e0
 cases eg
 k_data
 refine bp tS rfl ⟨_,_,ps.map (·.1),rfl,dr,hJ R.hds,by rw [Num.bw];exact Nat.le_trans R.l29 (by decide),fun l H1 s1 fl el=>⟨l,rfl,⟨_,aX.of el⟩,?_⟩⟩
 have eE:Num.eN pl=e:=by
  have:=Num.dP pl fun y hy=>(hpl.ok y hy).1
  rw [hpl.prod] at this
  omega
 have qlen:∀ i,(kI (ps.take i) e).length≤i:=fun i=>by
  unfold kI
  exact Nat.le_trans (List.length_filter_le _ _) (by rw [List.length_map,List.length_take];omega)
 refine bR (xs:=(ps.map (·.1)).map V.int) (fun i zs H5=>aB H1 H5∧aM K H5 ((kI (ps.take i) e).map fun q=>fv x (q,tq pl q)) zs) ⟨aB.refl _,rfl⟩ (by rw [List.length_map,List.length_map];exact Nat.le_trans R.l29 (by decide)) (fun i zs H5 hi ⟨z1,z2⟩=>⟨aX.of (z1 _ _ el),by rw [z2.length,List.length_map];exact qlen i⟩) ?_ ?_
 ·rintro i w' zs H5 hx ⟨s5,hz⟩
  rw [List.getElem?_map,List.getElem?_map] at hx
  obtain⟨q',hx1,rfl⟩:=Option.map_eq_some_iff.mp hx
  obtain⟨⟨q'',k'⟩,hy,rfl⟩:=Option.map_eq_some_iff.mp hx1
  have pq:=(R.hP.ok _ (List.mem_of_getElem? hy)).1
  replace pq:Num.Pm q'':=pq
  have q2:=pq.two
  have et:ps.take (i+1)=ps.take i++[(q'',k')]:=by rw [List.take_add_one,hy];rfl
  show cF 0 _ [none,some (.int (e:Int)),some (.int (x:Int))] _ _
  k_data
  refine⟨⟨rfl,rfl,True.intro⟩,by omega,aP (fun c=>?_) (fun c=>?_)⟩
  ·obtain⟨y,hy1,ey⟩:=Num.cG pq (fun z hz=>(hpl.ok z hz).1) (by rw [hpl.prod];exact Int.dvd_of_emod_eq_zero c)
   obtain⟨_,t1,t9⟩:=hpl.ok y hy1
   have dE:=fJ hy1
   have nE:=kj (fun z hz=>(hpl.ok z hz).1) hpl.rise hy1
   have qe:=Int.le_of_dvd (by omega) (Int.dvd_of_emod_eq_zero c)
   rw [eE,ey] at dE nE
   have tt:=xW hpl.rise hy1
   rw [ey] at tt
   obtain⟨qn,rfl⟩:∃ n:Nat,q''=n:=⟨q''.toNat,by omega⟩
   obtain⟨tn,htn⟩:∃ n:Nat,y.2=n:=⟨y.2.toNat,by omega⟩
   rw [htn] at dE nE tt t9
   replace dE:qn^tn∣e:=dE
   replace nE:¬qn^(tn+1)∣e:=nE
   refine⟨x,qn,e,tn,rfl,by omega,by omega,by omega,dE,nE,by omega,fun pd H6 s6 hSd=>⟨by show 2≤sizeLine;decide,fun p7 hp7=>?_⟩⟩
   have s7:=ao (o:=.tup [V.int (qn:Int),V.ref pd]) hp7
   refine⟨(s5.trans s6).trans s7,?_⟩
   have eq1:kI (ps.take (i+1)) e=kI (ps.take i) e++[(qn:Int)]:=by
    rw [et]
    unfold kI
    rw [List.map_append,List.filter_append]
    simp [c]
   rw [eq1,List.map_append]
   refine aM.append (aM.same (s6.trans s7) _ hz) (.one ?_)
   show dv K _ (fv x ((qn:Int),tq pl (qn:Int))) _
   rw [tt]
   refine dv.tup ag ⟨_,_,rfl,rfl,.one ⟨pd,_,rfl,hSd.same s7,?_⟩⟩
   have:=aM.ints (K:=K) (H:=upd H6 p7 (.tup [V.int (qn:Int),V.ref pd])) ((Num.bU x qn tn).map fun d:Nat=>(d:Int))
   rw [List.map_map (f:=fun d:Nat=>(d:Int)) (g:=V.int)] at this
   exact this
  ·refine⟨s5,?_⟩
   have eq1:kI (ps.take (i+1)) e=kI (ps.take i) e:=by
    rw [et]
    unfold kI
    rw [List.map_append,List.filter_append]
    simp [c]
   rw [eq1]
   exact hz
 ·rintro zs H5 p5 ⟨s5,hz⟩ hp5
  rw [List.length_map,List.length_map,List.take_length,uA R.hP hpl ed,← zq hpl.rise] at hz
  have s6:=ao (o:=.lst zs) hp5
  refine⟨p5,rfl,zs,.inl ⟨aX.of ag,fun pt hpt=>?_⟩⟩
  have s7:=ao (o:=.tup zs) hpt
  exact q _ _ (s1.trans (s5.trans (s6.trans s7))) (dv.tup ag (aM.same (s6.trans s7) _ hz))
def xt (K:PySem.W.Frag):Sp:=fun vs H Q _=>∃(t:Addr) (a b:Int),vs=[.ref t]∧bC K H t [.int a,.int b]∧Q (.bl true) H
theorem kO:ay [("thing":Str)] [("thing":Str)] (ak (top 14)):=⟨rfl,rfl,rfl,by decide +kernel,rfl,by decide +kernel,by decide +kernel⟩
theorem yQ (D:av K mg "is_pair" (top 14)) (c_is_tuple_of:Callee P w K mg base aK 1 "is_tuple_of" ["thing","many"] (qc K)) (c_is_whole:Callee P w K mg base aK 1 "is_whole" ["thing"] (By K)):Callee P w K mg base aK 2 "is_pair" [("thing":Str)] (xt K):=by
 refine aw D (fun _ _ _ _ _ _ us hl=>match us,hl with | [_],_=>rfl) kO (fun vs H Q E h=>by obtain⟨_,_,_,rfl,_⟩:=h;rfl) (fun f cdv A outer s H vs Q E hr h=>?_)
 obtain⟨t,a,b,rfl,hS,q⟩:=h
 have nd:=kO.nd
 refine⟨_,(aj (aC (bP (ai c_is_tuple_of (hr.mono (by decide)) rfl aF (aa (pv 0) (aa ah af))) (bP (ai c_is_whole (hr.mono (by decide)) rfl aF (aa (aL aR (pv 0) ah (fun _ _=>rfl)) af)) (cS (ai c_is_whole (hr.mono (by decide)) rfl aF (aa (aL aR (pv 0) ah (fun _ _=>rfl)) af))))))),?_⟩
 show eY _ _ [some (.ref t)] H
 k_data
 refine⟨.tuple [.int a,.int b],_,2,rfl,⟨t,_,rfl,hS,_,_,rfl,rfl,.one rfl⟩,⟨true,rfl,?_⟩⟩
 rw [if_pos rfl]
 refine bp hS iO ⟨.int a,_,rfl,rfl,true,rfl,?_⟩
 rw [if_pos rfl]
 exact bp hS uQ ⟨.int b,_,rfl,rfl,q⟩
def ma (K:PySem.W.Frag):Sp:=fun vs H Q _=>∃(v:V) (t:Addr) (p g b a:Int) (ps:List (Int × Int)) (ds:Nat→PyData) (x e:Nat),vs=[v,.int b,.int a,.ref t]∧dv K H (.tuple [.int p,.int g,.tuple (Num.rowsOf ps ds)]) v∧kZ p g ps ds∧bC K H t [.int e,.int x]∧Num.Ord p b e∧x<e∧e≤10^9∧Num.Al p a (b^x)∧∀ H',aB H H'→Q (.bl true) H'
theorem jo:ay [("paper":Str),("b":Str),("a":Str),("place":Str),("p":Str),("e":Str),("x":Str)] [("paper":Str),("b":Str),("a":Str),("place":Str)] (ak (top 34)):=⟨rfl,rfl,rfl,by decide +kernel,rfl,by decide +kernel,by decide +kernel⟩
theorem qS {C0:Addr} (D:av K mg "is_which" (top 34)) (c_is_pair:Callee P w K mg base aK 2 "is_pair" ["thing"] (xt K)) (c_is_order:Callee P w K mg base aK 6 "is_order" ["paper","a","e"] (i3 K)) (c_power:Callee P w K mg base (dJ P w) 4 "power" ["n","a","e"] (c6 C0)):Callee P w K mg base aK 7 "is_which" [("paper":Str),("b":Str),("a":Str),("place":Str)] (ma K):=by
 refine aw D (fun _ _ _ _ _ _ us hl=>match us,hl with | [_,_,_,_],_=>rfl) jo (fun vs H Q E h=>by obtain⟨_,_,_,_,_,_,_,_,_,_,rfl,_⟩:=h;rfl) (fun f cdv A outer s H vs Q E hr h=>?_)
 obtain⟨v,t,p,g,b,a,ps,ds,x,e,rfl,hd,R,hS,o,xe,e9,al,q⟩:=h
 have p2:=R.pm.two
 have p9:=R.p9
 have nd:=jo.nd
 refine⟨_,(ae (aY (fk (PW.pt (fm (a9 (ai c_is_pair (hr.mono (by decide)) rfl aF (aa (pv 3) af)) (fun _=>rfl)) (fu (a9 (ai c_is_order (hr.mono (by decide)) rfl aF (aa (pv 0) (aa (pv 1) (aa (aL aR (pv 3) ah (fun _ _=>rfl)) af)))) (fun _=>rfl)))))) (aj (aC dS)) aH) (ae (ar (i:=4) nd rfl (Or.inl rfl) (aL aR (pv 0) ah (fun _ _=>rfl))) (ae (cK (pv 3) (bQ (n:=2) rfl (aA (ax (i:=5) nd rfl (Or.inl rfl) (.inr rfl)) (aA (ax (i:=6) nd rfl (Or.inl rfl) (.inr rfl)) aT)))) (aj (aC (bP (pG pA dR ah (pv 6) (pv 5)) (cS (bL bO (ai c_power (hr.mono (by decide)) rfl aJ (aa (pv 4) (aa (pv 1) (aa (pv 6) af)))) (au aI (pv 2) (pv 4)) (aE _))))))))),?_⟩
 show br _ _ _ [some v,some (.int b),some (.int a),some (.ref t),none,none,none] H
 obtain⟨pp,y1,y2,vr,rfl,tS,e0,eg,dr⟩:=jW hd
 cases e0
 cases eg
 k_data
 refine⟨t,_,_,rfl,hS,true,aU.mpr rfl,?_⟩
 rw [if_pos rfl]
 have e0':=o.pos
 refine bp hS iO ⟨.ref pp,p,b,e,.int g,_,ps,rfl,hd,hJ R.hds,R.pm,R.hP,by omega,Nat.le_trans R.l29 (by decide),by omega,by omega,fun bb H1 hb s1=>?_⟩
 have hbb:bb=true:=hb.mpr ⟨by omega,by rw [Int.toNat_natCast];exact o⟩
 subst hbb
 refine⟨true,aU.mpr rfl,?_⟩
 rw [if_neg (by decide)]
 refine bp (tS.same s1) iO ⟨t,_,rfl,hS.same s1,rfl,?_⟩
 k_data
 unfold rB
 k_data
 rw [if_pos (by omega),if_pos (by omega)]
 refine⟨p,b,_,rfl,by omega,by omega,fun _ H2 s2=>⟨by omega,rfl,?_⟩,fun z=>absurd z (by omega)⟩
 rw [Int.toNat_natCast,decide_eq_true (congrArg V.int (Num.Al.iff.mp al.symm))]
 exact q H2 (s1.trans s2)
def mf (K:PySem.W.Frag):Sp:=fun vs H Q _=>∃(v u:V) (p g b a:Int) (ps:List (Int × Int)) (ds:Nat→PyData) (e:Nat),vs=[v,.int b,.int a,u]∧dv K H (.tuple [.int p,.int g,.tuple (Num.rowsOf ps ds)]) v∧kZ p g ps ds∧dv K H (.tuple [.str "none",.int e,.int (a^e%p)]) u∧Num.Ord p b e∧e≤10^9∧¬p∣a∧¬Num.Al p (a^e) 1∧∀ H',aB H H'→Q (.bl true) H'
theorem eh:ay [("paper":Str),("b":Str),("a":Str),("shown":Str),("p":Str),("e":Str),("rest":Str)] [("paper":Str),("b":Str),("a":Str),("shown":Str)] (ak (top 33)):=⟨rfl,rfl,rfl,by decide +kernel,rfl,by decide +kernel,by decide +kernel⟩
theorem qV {C0:Addr} (D:av K mg "shows_no_power" (top 33)) (c_is_whole:Callee P w K mg base aK 1 "is_whole" ["thing"] (By K)) (c_is_order:Callee P w K mg base aK 6 "is_order" ["paper","a","e"] (i3 K)) (c_power:Callee P w K mg base (dJ P w) 4 "power" ["n","a","e"] (c6 C0)) (c_is_just:Callee P w K mg base aK 15 "is_just" ["thing","right"] (i4 K 7)):Callee P w K mg base aK 16 "shows_no_power" [("paper":Str),("b":Str),("a":Str),("shown":Str)] (mf K):=by
 refine aw D (fun _ _ _ _ _ _ us hl=>match us,hl with | [_,_,_,_],_=>rfl) eh (fun vs H Q E h=>by obtain⟨_,_,_,_,_,_,_,_,_,rfl,_⟩:=h;rfl) (fun f cdv A outer s H vs Q E hr h=>?_)
 obtain⟨v,u,p,g,b,a,ps,ds,e,rfl,hd,R,hu,o,e9,na,n1,q⟩:=h
 have p2:=R.pm.two
 have p9:=R.p9
 have nd:=eh.nd
 refine⟨_,(ae (ar (i:=4) nd rfl (Or.inl rfl) (aL aR (pv 0) ah (fun _ _=>rfl))) (ae (ar (i:=5) nd rfl (Or.inl rfl) (aL aR (pv 3) ah (fun _ _=>rfl))) (ae (aY (PW.pt (pN (aD bO (au aI (pv 2) (pv 4)) ah (aE _)) (nc (fk (PW.pt (fm (a9 (ai c_is_whole (hr.mono (by decide)) rfl aF (aa (pv 5) af)) (fun _=>rfl)) (fu (a9 (ai c_is_order (hr.mono (by decide)) rfl aF (aa (pv 0) (aa (pv 1) (aa (pv 5) af)))) (fun _=>rfl))))))))) (aj (aC dS)) aH) (ae (ar (i:=6) nd rfl (Or.inl rfl) (ai c_power (hr.mono (by decide)) rfl aJ (aa (pv 4) (aa (pv 2) (aa (pv 5) af))))) (aj (aC (bP (bL jg (pv 6) ah (aE _)) (cS (ai c_is_just (hr.mono (by decide)) rfl aF (aa (pv 3) (aa (aN (aa b8 (aa (pv 5) (aa (pv 6) af)))) af))))))))))),?_⟩
 show br _ _ _ [some v,some (.int b),some (.int a),some u,none,none,none] H
 obtain⟨pp,y1,y2,vr,rfl,tS,e0,eg,dr⟩:=jW hd
 cases e0
 cases eg
 obtain⟨pu,z1,z2,z3,rfl,tU,u0,u1,u2⟩:=jW hu
 cases u0
 cases u1
 cases u2
 k_data
 have e0':=o.pos
 have cn:PyData.canLay0 (.tuple [.str "none",.int e,.int (a^e%p)])=true:=by
  have cs:PyData.canLay0 (.str "none")=true:=by decide +kernel
  simp only [PyData.canLay0,PyData.canLayAll0] at cs ⊢
  simpa using cs
 refine bp tS iO (bp tU uQ ⟨p,rfl,by omega,?_⟩)
 rw [if_neg (fun z=>na (Int.dvd_of_emod_eq_zero z))]
 refine⟨.int e,_,rfl,rfl,true,aU.mpr rfl,?_⟩
 rw [if_pos rfl]
 refine⟨.ref pp,p,b,e,.int g,_,ps,rfl,hd,hJ R.hds,R.pm,R.hP,by omega,Nat.le_trans R.l29 (by decide),by omega,by omega,fun bb H1 hb s1=>?_⟩
 have hbb:bb=true:=hb.mpr ⟨by omega,by rw [Int.toNat_natCast];exact o⟩
 subst hbb
 refine⟨true,aU.mpr rfl,?_⟩
 rw [if_neg (by decide)]
 refine⟨p,a,_,rfl,by omega,by omega,fun _ H2 s2=>?_,fun z=>absurd z (by omega)⟩
 rw [Int.toNat_natCast]
 refine⟨rfl,?_⟩
 rw [if_pos (fun z=>n1 ((bZ p2).mp (V.int.inj z)))]
 refine⟨by show 3≤sizeLine;decide,fun p3 hp3=>?_⟩
 have s3:=ao (o:=.tup [V.str "none",V.int (e:Int),V.int (a^e%p)]) hp3
 refine⟨_,_,.tuple [.str "none",.int e,.int (a^e%p)],.tuple [.str "none",.int e,.int (a^e%p)],rfl,dv.same (s1.trans (s2.trans s3)) _ hu,dv.tup ag ⟨_,_,rfl,rfl,_,_,rfl,rfl,.one rfl⟩,cn,?_,fun b' H' hb' s'=>?_⟩
 ·simp only [rD,rm,List.length_cons,List.length_nil,and_true]
  exact⟨by decide,by decide +kernel⟩
 ·have:b'=true:=hb'.mpr rfl
  subst this
  exact q H' ((s1.trans (s2.trans s3)).trans s')
theorem ni:∀{L:Nat} {ds:List PyData},(∀ d∈ds,rD L d)→rm L ds
 | L,[],_=>by simp only [rm]
 | L,d::ds,h=>by
  simp only [rm]
  exact⟨h d (List.mem_cons_self ..),ni fun e z=>h e (List.mem_cons_of_mem _ z)⟩
theorem mL:∀{ds:List PyData},(∀ d∈ds,PyData.canLay0 d=true)→PyData.canLayAll0 ds=true
 | [],_=>rfl
 | d::ds,h=>by
  show (PyData.canLay0 d && PyData.canLayAll0 ds)=true
  rw [h d (List.mem_cons_self ..),mL fun e z=>h e (List.mem_cons_of_mem _ z)]
  rfl
theorem vJ {x:Nat} {y:Int × Int}:PyData.canLay0 (fv x y)=true:=by
 show (true && (PyData.canLayAll0 (((Num.bU x y.1.toNat y.2.toNat).map fun d:Nat=>(d:Int)).map PyData.int) && true))=true
 rw [mL fun d hd=>by obtain⟨i,_,rfl⟩:=List.mem_map.mp hd;rfl]
 rfl
theorem AR {x e:Nat} {pl:List (Int × Int)}:PyData.canLay0 (.tuple [.str "is",.int e,.tuple (pl.map (fv x))])=true:=by
 have cs:PyData.canLay0 (.str "is")=true:=by decide +kernel
 show (PyData.canLay0 (.str "is") && (true && (PyData.canLayAll0 (pl.map (fv x)) && true)))=true
 rw [cs,mL fun d hd=>by obtain⟨y,_,rfl⟩:=List.mem_map.mp hd;exact vJ]
 rfl
theorem CD {x e:Nat} {pl:List (Int × Int)} (hpl:Num.Part e pl) (few:pl.length≤12):rD 7 (.tuple [.str "is",.int e,.tuple (pl.map (fv x))]):=by
 have cs:PyData.canLay0 (.str "is")=true:=by decide +kernel
 have hrow:rm 5 (pl.map (fv x)):=ni fun d hd=>by
  obtain⟨y,hy,rfl⟩:=List.mem_map.mp hd
  have t30:=(hpl.ok y hy).2.2
  have hin:rm 3 (((Num.bU x y.1.toNat y.2.toNat).map fun d:Nat=>(d:Int)).map PyData.int):=ni fun d hd=>by
   obtain⟨i,_,rfl⟩:=List.mem_map.mp hd
   simp [rD]
  have hl:(Num.bU x y.1.toNat y.2.toNat).length≤10^6:=by rw [Num.dA];omega
  simp only [fv,rD,rm,List.length_cons,List.length_nil,List.length_map,and_true,true_and]
  exact⟨by decide,hl,hin⟩
 simp only [rD,rm,List.length_cons,List.length_nil,List.length_map,and_true,true_and]
 exact⟨by decide,cs,by omega,hrow⟩
def sU (K:PySem.W.Frag):Sp:=fun vs H Q _=>∃(v u:V) (p g b a:Int) (ps:List (Int × Int)) (ds:Nat→PyData) (e:Nat),vs=[v,.int b,.int a,u]∧dv K H (.tuple [.int p,.int g,.tuple (Num.rowsOf ps ds)]) v∧kZ p g ps ds∧Num.Ord p b e∧¬p∣a∧((¬Num.Al p (a^e) 1∧dv K H (rY e (a^e%p)) u)∨∃ x pl,x<e∧Num.Al p a (b^x)∧Num.Part e pl∧dv K H (wU x e pl) u)∧∀ H',aB H H'→Q (.bl true) H'
theorem fY:ay [("paper":Str),("b":Str),("a":Str),("thing":Str),("x":Str),("shown":Str),("e":Str)] [("paper":Str),("b":Str),("a":Str),("thing":Str)] (ak (top 32)):=⟨rfl,rfl,rfl,by decide +kernel,rfl,by decide +kernel,by decide +kernel⟩
theorem wg (D:av K mg "shows_which" (top 32)) (c_is_prime_paper:Callee P w K mg base aK 8 "is_prime_paper" ["thing"] (CK K)) (c_is_tuple_of:Callee P w K mg base aK 1 "is_tuple_of" ["thing","many"] (qc K)) (c_shows_no_power:Callee P w K mg base aK 16 "shows_no_power" ["paper","b","a","shown"] (mf K)) (c_is_which:Callee P w K mg base aK 7 "is_which" ["paper","b","a","place"] (ma K)) (c_is_just:Callee P w K mg base aK 15 "is_just" ["thing","right"] (i4 K 7)) (c_digit_rows:Callee P w K mg base aK 2 "digit_rows" ["paper","e","x"] (xf K)):Callee P w K mg base aK 17 "shows_which" [("paper":Str),("b":Str),("a":Str),("thing":Str)] (sU K):=by
 refine aw D (fun _ _ _ _ _ _ us hl=>match us,hl with | [_,_,_,_],_=>rfl) fY (fun vs H Q E h=>by obtain⟨_,_,_,_,_,_,_,_,_,rfl,_⟩:=h;rfl) (fun f cdv A outer s H vs Q E hr h=>?_)
 obtain⟨v,u,p,g,b,a,ps,ds,e,rfl,hd,R,o,na,hu,q⟩:=h
 have p2:=R.pm.two
 have p9:=R.p9
 obtain⟨ed,ep⟩:=si R.pm o
 have e0':=o.pos
 have nd:=fY.nd
 refine⟨_,(ae (aY (fk (PW.pt (fm (a9 (ai c_is_prime_paper (hr.mono (by decide)) rfl aF (aa (pv 0) af)) (fun _=>rfl)) (fm (a9 (ai c_is_tuple_of (hr.mono (by decide)) rfl aF (aa (pv 3) (aa ah af))) (fun _=>rfl)) (fu (a9 (ai c_is_tuple_of (hr.mono (by decide)) rfl aF (aa (aL aR (pv 3) ah (fun _ _=>rfl)) (aa ah af))) (fun _=>rfl))))))) (aj (aC dS)) aH) (ae (cK (pv 3) (bQ (n:=2) rfl (aA (ax (i:=4) nd rfl (Or.inl rfl) (.inr rfl)) (aA (ax (i:=5) nd rfl (Or.inl rfl) (.inr rfl)) aT)))) (ae (ar (i:=6) nd rfl (Or.inl rfl) (aL aR (pv 5) ah (fun _ _=>rfl))) (ae (aY (aD wu (pv 4) iY (aE _)) (aj (aC (ai c_shows_no_power (hr.mono (by decide)) rfl aF (aa (pv 0) (aa (pv 1) (aa (pv 2) (aa (pv 5) af))))))) aH) (aj (aC (bP (ai c_is_which (hr.mono (by decide)) rfl aF (aa (pv 0) (aa (pv 1) (aa (pv 2) (aa (aN (aa (pv 6) (aa (pv 4) af))) af))))) (cS (ai c_is_just (hr.mono (by decide)) rfl aF (aa (pv 5) (aa (aN (aa b8 (aa (pv 6) (aa (ai c_digit_rows (hr.mono (by decide)) rfl aF (aa (pv 0) (aa (pv 6) (aa (pv 4) af)))) af)))) af))))))))))),?_⟩
 show br _ _ _ [some v,some (.int b),some (.int a),some u,none,none,none] H
 k_data
 have pp:=(Bo p2 R.hP R.hds).mpr ⟨R.g1,R.gp,R.o⟩
 refine⟨_,v,rfl,hd,R.sm,R.sz,fun bb H1 hb s1=>?_⟩
 have hbb:bb=true:=hb.mpr pp
 subst hbb
 refine⟨true,aU.mpr rfl,?_⟩
 rw [if_pos rfl]
 have hd1:=dv.same s1 _ hd
 rcases hu with⟨n1,hu⟩|⟨x,pl,xe,al,hpl,hu⟩
 ·have hu1:=dv.same s1 _ hu
  obtain⟨pf,zs,rfl,hSf,v1,r1,rfl,f1,v2,r2,rfl,hf2,z⟩:=id hu1
  cases z
  cases f1
  obtain⟨pg,w1,w2,w3,rfl,tG,u0,u1,u2⟩:=jW hf2
  cases u0
  cases u1
  refine⟨_,_,2,rfl,hu1,true,aU.mpr rfl,?_⟩
  rw [if_pos rfl]
  refine bp hSf uQ ⟨_,_,3,rfl,hf2,true,aU.mpr rfl,?_⟩
  rw [if_neg (by decide)]
  refine⟨pf,_,rfl,hSf,rfl,?_⟩
  k_data
  refine bp tG uQ ?_
  k_data
  exact⟨v,_,p,g,b,a,ps,ds,e,rfl,hd1,R,hf2,o,by omega,na,n1,fun H' s'=>q H' (s1.trans s')⟩
 ·have hu1:=dv.same s1 _ hu
  obtain⟨pf,zs,rfl,hSf,v1,r1,rfl,f1,v2,r2,rfl,hf2,z⟩:=id hu1
  cases z
  cases f1
  obtain⟨pg,w1,w2,w3,rfl,tG,u0,u1,u2⟩:=jW hf2
  cases u0
  cases u1
  refine⟨_,_,2,rfl,hu1,true,aU.mpr rfl,?_⟩
  rw [if_pos rfl]
  refine bp hSf uQ ⟨_,_,3,rfl,hf2,true,aU.mpr rfl,?_⟩
  rw [if_neg (by decide)]
  refine⟨pf,_,rfl,hSf,rfl,?_⟩
  k_data
  refine bp tG uQ ?_
  k_data
  refine⟨by show 2≤sizeLine;decide,fun t ht=>?_⟩
  have s2:=ao (o:=.tup [V.int (e:Int),V.int (x:Int)]) ht
  refine⟨v,t,p,g,b,a,ps,ds,x,e,rfl,dv.same s2 _ hd1,R,bC.of ag,o,xe,by omega,al,fun H3 s3=>⟨true,rfl,?_⟩⟩
  rw [if_pos rfl]
  have few:=kh hpl (by omega)
  refine⟨v,p,g,ps,pl,ds,x,e,rfl,dv.same (s2.trans s3) _ hd1,R,by omega,ed,by omega,hpl,few,fun w' H4 s4 hw=>⟨by show 3≤sizeLine;decide,fun p5 hp5=>?_⟩⟩
  have s5:=ao (o:=.tup [V.str "is",V.int (e:Int),w']) hp5
  have S5:=s2.trans (s3.trans (s4.trans s5))
  refine⟨_,_,.tuple [.str "is",.int e,.tuple (pl.map (fv x))],.tuple [.str "is",.int e,.tuple (pl.map (fv x))],rfl,dv.same S5 _ hf2,dv.tup ag ⟨_,_,rfl,rfl,_,_,rfl,rfl,.one (dv.same s5 _ hw)⟩,AR,CD hpl few,fun b' H' hb' s'=>?_⟩
  have:b'=true:=hb'.mpr rfl
  subst this
  exact q H' (s1.trans (S5.trans s'))
end
end K
namespace K
open PySem PySem.Spec PyProof.Rows L2
section
variable {P:Program} {w:World} {K:PySem.W.Frag} {mg:Str→Option Value} {base:Heap} {C:Addr}
def me:Sp:=fun vs H Q _=>∃(p0:Addr) (p:Int) (n:Nat),vs=[.ref p0,.int p]∧Tp p0 n H∧n≤10^40∧Num.Pm p∧p≤10^9∧∀ t b a H',-(10^60)≤b→b≤10^60 → -(10^60)≤a→a≤10^60→¬p∣b→¬p∣a→rN p0 H H'→Tp p0 (n+9) H'→H' t=some (.tup [.int b,.int a])→Q (.ref t) H'
theorem vO {p b y:Int} (h:¬p∣b):¬p∣b+p*y:=fun z=>h (by have:=Int.dvd_sub z (Int.dvd_mul_right p y);rwa [Int.add_sub_cancel] at this)
def DU (p0:Addr) (p b:Int) (n:Nat) (H:Hp) (σ':L2.St) (H':Hp):Prop:=∃ a:Int,σ'=[some (.ref p0),some (.int p),some (.int b),some (.int a)]∧0≤a∧a<p∧¬p∣a∧Off p0 H H'∧Tp p0 n H'
theorem fC:ay [("_law_tape_here":Str),("_law_p":Str),("_law_b":Str),("_law_a":Str)] [("_law_tape_here":Str),("_law_p":Str)] (ak (top 81)):=⟨rfl,rfl,rfl,by decide +kernel,rfl,by decide +kernel,by decide +kernel⟩
theorem qU (D:av K mg "_law_numbers" (top 81)) (c__law_draw:Callee P w K mg base aK 1 "_law_draw" ["_law_tape_here","_law_many"] iZ) (c__law_far:Callee P w K mg base aK 2 "_law_far" ["_law_tape_here","_law_many"] xi) (c__law_power:Callee P w K mg base aK 1 "_law_power" ["_law_n","_law_a","_law_e"] nF):Callee P w K mg base aK 3 "_law_numbers" [("_law_tape_here":Str),("_law_p":Str)] me:=by
 refine aw D (fun _ _ _ _ _ _ us hl=>match us,hl with | [_,_],_=>rfl) fC (fun vs H Q E h=>by obtain⟨_,_,_,rfl,_⟩:=h;rfl) (fun f cdv A outer s H vs Q E hr h=>?_)
 obtain⟨p0,p,n,rfl,tp,n9,pm,p9,q⟩:=h
 have p2:=pm.two
 have nd:=fC.nd
 refine⟨_,(ae (ar (i:=2) nd rfl (Or.inl rfl) (au bB ah (ai c__law_far (hr.mono (by decide)) rfl aF (aa (pv 0) (aa (au cq (pv 1) ah) af))))) (ae (ar (i:=3) nd rfl (Or.inl rfl) (au bB ah (ai c__law_far (hr.mono (by decide)) rfl aF (aa (pv 0) (aa (au cq (pv 1) ah) af))))) (ae (eA (aY (aD cR (ai c__law_draw (hr.mono (by decide)) rfl aF (aa (pv 0) (aa ah af))) ah (aE _)) (aj (ar (i:=3) nd rfl (Or.inl rfl) (ai c__law_power (hr.mono (by decide)) rfl aF (aa (pv 1) (aa (pv 2) (aa (ai c__law_far (hr.mono (by decide)) rfl aF (aa (pv 0) (aa (pv 1) af))) af)))))) aH)) (aj (aC (aN (aa (au bB (pv 2) (au aO (pv 1) (au cq (ai c__law_draw (hr.mono (by decide)) rfl aF (aa (pv 0) (aa ah af))) ah))) (aa (au bB (pv 3) (au aO (pv 1) (au cq (ai c__law_draw (hr.mono (by decide)) rfl aF (aa (pv 0) (aa ah af))) ah))) af)))))))),?_⟩
 show br _ _ _ [some (.ref p0),some (.int p),none,none] H
 k_data
 refine⟨p0,p-1,n,rfl,tp,by omega,by omega,fun r1 H1 r10 r11 o1 t1=>⟨_,rfl,p0,p-1,n+2,rfl,t1,by omega,by omega,fun r2 H2 r20 r21 o2 t2=>⟨_,rfl,?_⟩⟩⟩
 have nb:¬p∣1+r1:=fun z=>by have:=Int.le_of_dvd (by omega) z;omega
 have na:¬p∣1+r2:=fun z=>by have:=Int.le_of_dvd (by omega) z;omega
 refine⟨DU p0 p (1+r1) (n+7) H,?_,?_⟩
 ·k_data
  refine⟨p0,4,n+4,rfl,t2,by omega,by decide,by decide,fun r3 H3 r30 r31 o3 t3=>⟨_,rfl,aP (fun c=>?_) (fun c=>?_)⟩⟩
  ·refine⟨p0,p,n+5,rfl,t3,by omega,by omega,fun r4 H4 r40 r41 o4 t4=>⟨p,1+r1,_,rfl,by omega,by omega,by omega,by omega,r40,?_⟩⟩
   exact⟨_,rfl,Int.emod_nonneg _ (by omega),Int.emod_lt_of_pos _ (by omega),pm.unit (((pm.co nb).pow _).vV (Num.Al.rest p _).symm),((o1.trans o2).trans o3).trans o4,t4⟩
  ·exact⟨_,rfl,by omega,by omega,na,(o1.trans o2).trans o3,t3.more (by omega)⟩
 rintro σ' H5 ⟨a,rfl,a0,a1,na',o5,t5⟩
 k_data
 refine⟨p0,99,n+7,rfl,t5,by omega,by decide,by decide,fun r6 H6 r60 r61 o6 t6=>⟨_,rfl,Bd.of (by omega) (by omega),Bd.of (by omega) (by omega),p0,99,n+8,rfl,t6,by omega,by decide,by decide,fun r7 H7 r70 r71 o7 t7=>⟨_,rfl,Bd.of (by omega) (by omega),Bd.of (by omega) (by omega),by show 2≤sizeLine;decide,fun t ht=>?_⟩⟩⟩
 have bd:∀ z:Int,-50≤z→z≤50→p*z≤p*50∧p * -50≤p*z:=fun z z0 z1=>⟨Int.mul_le_mul_of_nonneg_left z1 (by omega),Int.mul_le_mul_of_nonneg_left z0 (by omega)⟩
 have b1:=bd (r6-49) (by omega) (by omega)
 have b2:=bd (r7-49) (by omega) (by omega)
 have s8:=ao (o:=.tup [V.int (1+r1+p*(r6-49)),V.int (a+p*(r7-49))]) ht
 exact q t _ _ _ (by omega) (by omega) (by omega) (by omega) (vO nb) (vO na') (((o5.trans o6).trans o7).Dv.trans (rN.of s8)) (t7.same s8) ag
def sQ (K:PySem.W.Frag):Sp:=fun vs H Q _=>∃(p0:Addr) (v:V) (n:Nat) (p g:Int) (ps:List (Int × Int)) (ds:Nat→PyData),vs=[.ref p0,v]∧Tp p0 n H∧n≤10^40∧dv K H (.tuple [.int p,.int g,.tuple (Num.rowsOf ps ds)]) v∧kZ p g ps ds∧∀ g' t H',1≤g'→g'<p→Num.Ord p g' (p-1).toNat→rN p0 H H'→Tp p0 (n+1) H'→dv K H' (.tuple [.int p,.int g',.tuple (Num.rowsOf ps ds)]) (.ref t)→Q (.ref t) H'
theorem dc:ay [("_law_tape_here":Str),("_law_paper":Str),("_law_p":Str),("_law_full":Str)] [("_law_tape_here":Str),("_law_paper":Str)] (ak (top 80)):=⟨rfl,rfl,rfl,by decide +kernel,rfl,by decide +kernel,by decide +kernel⟩
theorem wa (D:av K mg "_law_other_paper" (top 80)) (c__law_draw:Callee P w K mg base aK 1 "_law_draw" ["_law_tape_here","_law_many"] iZ) (c__law_power:Callee P w K mg base aK 1 "_law_power" ["_law_n","_law_a","_law_e"] nF) (n_any:mg "any"=none):Callee P w K mg base aK 2 "_law_other_paper" [("_law_tape_here":Str),("_law_paper":Str)] (sQ K):=by
 refine aw D (fun _ _ _ _ _ _ us hl=>match us,hl with | [_,_],_=>rfl) dc (fun vs H Q E h=>by obtain⟨_,_,_,_,_,_,_,rfl,_⟩:=h;rfl) (fun f cdv A outer s H vs Q E hr h=>?_)
 obtain⟨p0,v,n,p,g,ps,ds,rfl,tp,n9,hd,R,q⟩:=h
 have p2:=R.pm.two
 have p9:=R.p9
 have nd:=dc.nd
 refine⟨_,(ae (ar (i:=2) nd rfl (Or.inr rfl) (aL aR (pv 1) ah (fun _ _=>rfl))) (ae (ar (i:=3) nd rfl (Or.inr rfl) (au bB ah (ai c__law_draw (hr.mono (by decide)) rfl aF (aa (pv 0) (aa (au cq (pv 2) ah) af))))) (ae (aV PassesOwn.never (a9 (aG (uT rfl) rfl n_any L2.boot_any (aa (dW rfl (cm (N':=["_law_part","_law_p","_law_full"]) (js:=[none,some 2,some 3]) rfl rfl (by decide +kernel) (by decide +kernel) (by repeat (first | exact True.intro | refine⟨rfl,?_⟩)) (by repeat (first | exact True.intro | refine⟨rfl,?_⟩ | refine⟨True.intro,?_⟩)) (by repeat (first | exact True.intro | refine⟨⟨rfl,rfl,.inl rfl,.inl rfl⟩,?_⟩))) (fO (aL aR (pv 1) ah (fun _ _=>rfl))) (fun _ _ _ _=>(ax (i:=0) (show List.Nodup [("_law_part":Str),("_law_p":Str),("_law_full":Str)] from by decide +kernel) rfl (Or.inl rfl) (.inr rfl))) (fun _ _ _ _=>bG) (fun _ _ _ _=>(bL bO (ai c__law_power (hr.mono (by decide)) rfl aF (aa (pv 1) (aa (pv 2) (aa (au bA (au cq (pv 1) ah) (aL (bK K rfl) (aL (bK K rfl) (pv 0) ah (fun _ _=>rfl)) ah (fun _ _=>rfl))) af)))) ah (aE _)))) af)) (fun _=>rfl)) (aj (ar (i:=3) nd rfl (Or.inr rfl) (au bB (au aI (pv 3) (au cq (pv 2) ah)) ah)))) (aj (aC (aN (aa (pv 2) (aa (pv 3) (aa (aL aR (pv 1) ah (fun _ _=>rfl)) af))))))))),?_⟩
 show br _ _ _ [some (.ref p0),some v,none,none] H
 have nl:nQ (.tuple [.int p,.int g,.tuple (Num.rowsOf ps ds)])=true:=by
  simp only [nQ,fh,Bool.and_true,Bool.true_and]
  refine kg fun r hr=>?_
  obtain⟨i,q,k,h,rfl⟩:=fR hr
  simp only [nQ,fh,Bool.and_true]
  exact mW (R.hds i q k h)
 obtain⟨pp,y1,y2,vr,rfl,tS,e0,eg,dr⟩:=jW (id hd)
 cases e0
 cases eg
 k_data
 refine bp tS iO ⟨p,rfl,p0,p-1,n,rfl,tp,by omega,by omega,by omega,fun r1 H1 r10 r11 o1 t1=>⟨_,rfl,?_⟩⟩
 have hd1:=tp.BV o1.Dv nl hd
 obtain⟨pp',y1,y2,vr',epp,tS1,e0,eg,dr1⟩:=jW (id hd1)
 cases epp
 cases e0
 cases eg
 have g1:=R.g1
 have gp:=R.gp
 refine aW (α:=Int) (fun z=>[some (.ref p0),some (.ref pp),some (.int p),some (.int z)]) (fun z H2=>aB H1 H2∧1≤z∧z<p) (fun z=>if z≤g then (g-z).toNat else (g-z+(p-1)).toNat) (1+r1) rfl ⟨aB.refl _,by show 1≤1+r1;omega,by show 1+r1<p;omega⟩ ?_
 rintro z H2 ⟨s2,z1,zp⟩
 replace z1:1≤z:=z1
 replace zp:z<p:=zp
 have hd2:=dv.same s2 _ hd1
 obtain⟨pr,xs,rfl,hSr,hxs⟩:=dv.same s2 _ dr1
 have xl:xs.length=ps.length:=by rw [hxs.length,Num.bw]
 k_data
 refine bp (tS1.same s2) rfl ⟨pr,rfl,⟨_,hSr⟩,?_⟩
 refine dy (xs:=xs) (fun i zs H3=>H3=H2∧zs=(ps.take i).map fun y=>V.bl (decide (z^((p-1)/y.1).toNat%p=1))) ⟨rfl,rfl⟩ (by rw [xl];exact Nat.le_trans R.l29 (by decide)) (fun i zs H3 hi ⟨z1,z2⟩=>⟨by rw [z1];exact hSr,by rw [z2,List.length_map,List.length_take];omega⟩) ?_ ?_
 ·rintro i x zs H3 hx ⟨rfl,rfl⟩
  obtain⟨q',k',pt,u,hy,rfl,t1',du⟩:=sy hxs hx
  obtain⟨g2,rr,eg⟩:=(R.hds i q' k' hy).head
  rw [eg] at du
  obtain⟨pq,zs',rfl,t2',y3,r3,rfl,f3,_⟩:=du
  cases f3
  have q2:=(R.hP.ok _ (List.mem_of_getElem? hy)).1.two
  replace q2:2≤q':=q2
  have qp:q'∣p-1:=by rw [← R.hP.prod];exact Num.cE (List.mem_of_getElem? hy) (R.hP.ok _ (List.mem_of_getElem? hy)).2.1
  have qle:=Int.le_of_dvd (by omega) qp
  show cF 0 _ [none,some (.int p),some (.int z)] _ _
  k_data
  refine⟨⟨rfl,rfl,True.intro⟩,bp t1' iO (bp t2' iO ⟨_,rfl,by omega,Bd.of (by omega) (by omega),p,z,_,rfl,by omega,by omega,by omega,by omega,Int.ediv_nonneg (by omega) (by omega),rfl,rfl,?_⟩)⟩
  rw [List.take_add_one,hy,List.map_append]
  simp
 ·rintro zs H3 p3 ⟨rfl,rfl⟩ hp3
  rw [xl,List.take_length] at *
  have s3:=ao (o:=.lst (ps.map fun y=>V.bl (decide (z^((p-1)/y.1).toNat%p=1)))) hp3
  refine Au (bs:=ps.map fun y=>decide (z^((p-1)/y.1).toNat%p=1)) (aX.of (by rw [ag,List.map_map];rfl)) ⟨_,aU.mpr rfl,?_⟩
  generalize upd H3 p3 _=H4 at *
  have lo:∀{c:Int},BQ p c (p-1) (ps.map (·.1))↔Num.Ord p c (p-1).toNat:=jF p2 R.hP (by omega)
  cases hb:(ps.map fun y=>decide (z^((p-1)/y.1).toNat%p=1)).any id with
  | true =>
   rw [if_pos rfl]
   have zg:z≠g:=fun e=>by
    subst e
    obtain⟨x,hx,e1⟩:=List.any_eq_true.mp hb
    obtain⟨y,hy,rfl⟩:=List.mem_map.mp hx
    exact (lo.mpr R.o).2 y.1 (List.mem_map.mpr ⟨y,hy,rfl⟩) (of_decide_eq_true e1)
   have em:z%(p-1)+1=if z<p-1 then z+1 else 1:=by
    split
    ·rw [Int.emod_eq_of_lt (by omega) (by omega)]
    ·rw [show z=p-1 by omega,Int.emod_self]
     rfl
   refine⟨_,fun _ _ z=>z,by omega,z%(p-1)+1,rfl,s2.trans s3,?_⟩
   rw [em]
   split
   ·refine⟨by omega,by omega,?_⟩
    first | (split<;>split<;>omega) | (split<;>omega) | omega
   ·refine⟨by omega,by omega,?_⟩
    first | (split<;>split<;>omega) | (split<;>omega) | omega
  | false =>
   rw [if_neg (by decide)]
   have no:¬p∣z:=fun h=>by have:=Int.le_of_dvd (by omega) h;omega
   have oz:Num.Ord p z (p-1).toNat:=lo.mp ⟨(bZ p2).mpr (Num.gP R.pm no),fun q' hq' e1=>by
    obtain⟨y,hy,rfl⟩:=List.mem_map.mp hq'
    have hm:decide (z^((p-1)/y.1).toNat%p=1)∈ps.map fun y=>decide (z^((p-1)/y.1).toNat%p=1):=List.mem_map.mpr ⟨y,hy,rfl⟩
    rw [decide_eq_true e1] at hm
    have:(ps.map fun y=>decide (z^((p-1)/y.1).toNat%p=1)).any id=true:=List.any_eq_true.mpr ⟨true,hm,rfl⟩
    rw [hb] at this
    cases this⟩
   refine bp ((tS1.same s2).same s3) rfl ⟨by show 3≤sizeLine;decide,fun t ht=>?_⟩
   have s4:=ao (o:=.tup [V.int p,V.int z,V.ref pr]) ht
   have S4:=s2.trans (s3.trans s4)
   exact q z t _ z1 zp oz (o1.Dv.trans (rN.of S4)) (t1.same S4) (dv.tup ag ⟨_,_,rfl,rfl,_,_,rfl,rfl,.one ⟨pr,xs,rfl,(hSr.same s3).same s4,aM.same (s3.trans s4) _ hxs⟩⟩)
end
end K
namespace L2
open PySem PySem.Spec PyProof.Rows
theorem Bb {X:Cx}:fG X (compareOp .Is) (fun x y H Q=>∃ b c:Bool,x=.bl b∧y=.bl c∧Q (.bl (b==c)) H):=by
 intro pins s σ H x y v u Q I rx ry h
 obtain⟨b,c,rfl,rfl,q⟩:=h
 cases rx
 cases ry
 exact PyProof.Rows.is_bool (aQ I q rfl)
theorem sh {X:Cx}:fG X (compareOp .IsNot) (fun x y H Q=>∃ b c:Bool,x=.bl b∧y=.bl c∧Q (.bl (b != c)) H):=by
 intro pins s σ H x y v u Q I rx ry h
 obtain⟨b,c,rfl,rfl,q⟩:=h
 cases rx
 cases ry
 exact PyProof.Rows.isnot_bool (aQ I q rfl)
end L2
namespace K
open PySem PySem.Spec PyProof.Rows L2
section
variable {P:Program} {w:World} {K:PySem.W.Frag} {mg:Str→Option Value} {base:Heap} {C:Addr}
theorem Bm:Num.Pm 149:=⟨by decide,fun d d2 dl hd=>by
 obtain⟨k,rfl⟩:∃ k:Nat,d=k:=⟨d.toNat,by omega⟩
 have h:∀ k:Nat,k<149→2≤k→149%k≠0:=by decide +kernel
 exact h k (by omega) (by omega) (Nat.mod_eq_zero_of_dvd (Int.natCast_dvd_natCast.mp hd))⟩
theorem sC {p g:Int} {ps:List (Int × Int)} {ds:Nat→PyData} (pap:Num.gA p (.tuple [.int p,.int g,.tuple (Num.rowsOf ps ds)])) (hg:Num.LF p g) (hP:Num.Part (p-1) ps) (l:ps.length≤29) (hds:∀ i q k,ps[i]?=some (q,k)→Num.gA q (ds i)):kZ p g ps ds:=by
 obtain⟨pm,p9⟩:=lV pap
 exact⟨pm,p9,hP,l,hds,hg.one,hg.lt,hg.ord,Be pap,Nat.le_trans (uq pap) (by decide)⟩
theorem kZ.other {p g g':Int} {ps:List (Int × Int)} {ds:Nat→PyData} (R:kZ p g ps ds) (h1:1≤g') (h2:g'<p) (o:Num.Ord p g' (p-1).toNat):kZ p g' ps ds:=by
 have sm:=R.sm
 have p9:=R.p9
 refine⟨R.pm,R.p9,R.hP,R.l29,R.hds,h1,h2,o,?_,R.sz⟩
 simp only [pV,fI,and_true] at sm ⊢
 exact⟨sm.1,by omega,sm.2.2⟩
theorem mZ {n:Nat} (h:Cp n=true∧3≤n∧n%2=1∧n<31625*31625):Num.Pm (n:Int):=Bn h.1 h.2.1 h.2.2.1 h.2.2.2
theorem mF {n c d q:Int} (pq:Num.Pm q) (h:q∣n) (e:n=c*d) (hc:0<c) (hc9:c≤10^6) (hd:0<d) (hd9:d≤10^6):q≤10^6:=by
 rw [e] at h
 rcases Classical.em (q∣c) with z | z
 ·have:=Int.le_of_dvd hc z;omega
 ·have:=Int.le_of_dvd hd (pq.or h z);omega
theorem AB:∀ p∈([1000003,1500007,1769473,11999797]:List Int),Num.Pm p∧p≤10^9∧∀ q,Num.Pm q→q∣p-1→q≤10^6:=by
 intro p hp
 simp only [List.mem_cons,List.not_mem_nil,or_false] at hp
 rcases hp with rfl | rfl | rfl | rfl
 ·exact⟨mZ (n:=1000003) (by decide +kernel),by decide,fun q pq h=>mF pq h (c:=6) (d:=166667) (by decide) (by decide) (by decide) (by decide) (by decide)⟩
 ·exact⟨mZ (n:=1500007) (by decide +kernel),by decide,fun q pq h=>mF pq h (c:=6) (d:=250001) (by decide) (by decide) (by decide) (by decide) (by decide)⟩
 ·exact⟨mZ (n:=1769473) (by decide +kernel),by decide,fun q pq h=>mF pq h (c:=27) (d:=65536) (by decide) (by decide) (by decide) (by decide) (by decide)⟩
 ·exact⟨mZ (n:=11999797) (by decide +kernel),by decide,fun q pq h=>mF pq h (c:=12) (d:=999983) (by decide) (by decide) (by decide) (by decide) (by decide)⟩
def Told (K:PySem.W.Frag) (p b a:Int) (e:Nat) (H:Hp) (u:V):Prop:=(¬Num.Al p (a^e) 1∧dv K H (rY e (a^e%p)) u)∨∃ x pl,x<e∧Num.Al p a (b^x)∧Num.Part e pl∧dv K H (wU x e pl) u
theorem Told.same {p b a:Int} {e:Nat} {H H':Hp} {u:V} (h:Told K p b a e H u) (s:aB H H'):Told K p b a e H' u:=by
 rcases h with⟨h1,h2⟩|⟨x,pl,h1,h2,h3,h4⟩
 ·exact .inl ⟨h1,dv.same s _ h2⟩
 ·exact .inr ⟨x,pl,h1,h2,h3,dv.same s _ h4⟩
theorem nU {CN CF:Addr} {H:Hp} {Q:VK} {E:XK} {v:V} {p g a b:Int} {rows:PyData} {e:Nat} (hd:dv K H (.tuple [.int p,.int g,rows]) v) (hp:Num.gA p (.tuple [.int p,.int g,rows])) (o:Num.Ord p b e) (sm:∀ q,Num.Pm q→q∣p-1→q≤10^6) (na:¬p∣a) (b0:-(10^60)≤b) (b1:b≤10^60) (a0:-(10^60)≤a) (a1:a≤10^60)
  (q:∀ u H',aB H H'→Told K p b a e H' u→Q u H'):nI K C CN CF [v,.int b,.int a,.non] H Q E:=by
 obtain⟨pm,p9⟩:=lV hp
 have nb:¬p∣b:=pm.unit o.co
 obtain⟨ed,_⟩:=si pm o
 refine⟨v,.non,p,b,a,g,rows,none,rfl,hd,hp,b0,b1,a0,a1,rfl,fun h=>h.elim (fun h=>absurd h na) fun h=>absurd h nb,fun _ _ e' o' _=>?_⟩
 have ee:=o'.wt o
 subst ee
 refine⟨fun n1 u H' s' hu=>q u H' s' (.inl ⟨n1,hu⟩),fun x xe al ps hps=>⟨fun _ u H' s' hu=>q u H' s' (.inr ⟨x,ps,xe,al,hps,hu⟩),fun m hm _ m6=>?_⟩⟩
 obtain⟨y,hy,rfl⟩:=List.mem_map.mp hm
 have hy2:=hps.ok y hy
 have:=sm y.1 hy2.1 (Int.dvd_trans (by rw [← hps.prod];exact Num.cE hy hy2.2.1) ed)
 omega
theorem vb {H:Hp} {Q:VK} {E:XK} {p a b:Int} {e:Nat} (pm:Num.Pm p) (p9:p≤1000) (o:Num.Ord p b e) (b0:-(10^60)≤b) (b1:b≤10^60) (a0:-(10^60)≤a) (a1:a≤10^60)
  (q:∀ u H',aB H H'→Told K p b a e H' u→Q u H'):xh K [.int p,.int b,.int a] H Q E:=by
 refine⟨p,b,a,e,rfl,pm,p9,b0,b1,a0,a1,o,(si pm o).2,fun u H7 no s7 hu=>q u H7 s7 (.inl ⟨fun al1=>?_,hu⟩),fun x pl u H7 xe al hpl s7 hu=>q u H7 s7 (.inr ⟨x,pl,xe,al,hpl,hu⟩)⟩
 obtain⟨x,xe,al⟩:=Num.pI pm o al1
 exact no x xe al
structure Dc (K:PySem.W.Frag) (p0:Addr) (p g g':Int) (ps:List (Int × Int)) (ds:Nat→PyData) (v u:V) (n:Nat) (H:Hp):Prop where
 tp:Tp p0 n H
 hv:dv K H (.tuple [.int p,.int g,.tuple (Num.rowsOf ps ds)]) v
 hu:dv K H (.tuple [.int p,.int g',.tuple (Num.rowsOf ps ds)]) u
theorem w5:ay [("_law_script":Str),("_law_tape_here":Str),("_law_p":Str),("_law_paper":Str),("_law_other":Str),("_law_turn":Str),("_law_b":Str),("_law_a":Str),("_law_due":Str),("_law_one":Str),("_law_great":Str)] [("_law_script":Str)] (ak (top 82)):=⟨rfl,rfl,rfl,by decide +kernel,rfl,by decide +kernel,by decide +kernel⟩
theorem A5 {CN CF:Addr} {fl:Addr} {fdl:FuncData} (F:uL K "law" "law" (top 82) fl fdl) (c__law_tape:Callee P w K mg base aK 1 "_law_tape" ["_law_script"] (xu K)) (c__law_draw:Callee P w K mg base aK 1 "_law_draw" ["_law_tape_here","_law_many"] iZ) (c__law_prime:Callee P w K mg base aK 2 "_law_prime" ["_law_n"] pY) (c_prime_paper:Callee P w K mg base (dJ P w) 67 "prime_paper" ["n"] (pX K)) (c__law_other_paper:Callee P w K mg base aK 2 "_law_other_paper" ["_law_tape_here","_law_paper"] (sQ K)) (c__law_numbers:Callee P w K mg base aK 3 "_law_numbers" ["_law_tape_here","_law_p"] me) (c__law_due_power:Callee P w K mg base aK 2 "_law_due_power" ["_law_p","_law_b","_law_a"] (xh K)) (c_shows_which:Callee P w K mg base aK 17 "shows_which" ["paper","b","a","thing"] (sU K)) (c_which:jy P w K mg base (dJ P w) 15 "which" ["paper","b","a","kept"] [.none] (nI K C CN CF)) (n_range:mg "range"=none):cQ P w K mg base aK 68 fl fdl [("_law_script":Str)] (z9 K):=by
 refine yr F w5 (fun vs H Q E h=>by obtain⟨a,b,rfl,_⟩:=h;rfl) (fun cdv A outer s H vs Q E hr h=>?_)
 obtain⟨sc,ns,rfl,hS,h63,q⟩:=h
 have nd:=w5.nd
 refine⟨_,(ae (ar (i:=1) nd rfl (Or.inl rfl) (ai c__law_tape (hr.mono (by decide)) rfl aF (aa (pv 0) af))) (ae (ar (i:=2) nd rfl (Or.inl rfl) (ai c__law_prime (hr.mono (by decide)) rfl aF (aa (au bB ah (ai c__law_draw (hr.mono (by decide)) rfl aF (aa (pv 1) (aa ah af)))) af))) (ae (ar (i:=3) nd rfl (Or.inl rfl) (ai c_prime_paper (hr.mono (by decide)) rfl aJ (aa (pv 2) af))) (ae (ar (i:=4) nd rfl (Or.inl rfl) (ai c__law_other_paper (hr.mono (by decide)) rfl aF (aa (pv 1) (aa (pv 3) af)))) (ae (cZ PassesOwn.never rfl (gk rfl n_range (aa ah af)) (ax (i:=5) nd rfl (Or.inl rfl) (.inr rfl)) (ae (cK (ai c__law_numbers (hr.mono (by decide)) rfl aF (aa (pv 1) (aa (pv 2) af))) (bQ (n:=2) rfl (aA (ax (i:=6) nd rfl (Or.inl rfl) (.inr rfl)) (aA (ax (i:=7) nd rfl (Or.inl rfl) (.inr rfl)) aT)))) (ae (ar (i:=8) nd rfl (Or.inl rfl) (ai c__law_due_power (hr.mono (by decide)) rfl aF (aa (pv 2) (aa (pv 6) (aa (pv 7) af))))) (aj (cZ PassesOwn.never rfl (b9 (dG (aa (pv 3) (aa (pv 4) (aa (pv 3) af))))) (ax (i:=9) nd rfl (Or.inl rfl) (.inr rfl)) (aj (aY (PW.pt (pN (aD sh (ai c_shows_which (hr.mono (by decide)) rfl aF (aa (pv 9) (aa (pv 6) (aa (pv 7) (aa (pv 8) af))))) dS (aE _)) (nc (aD sh (ai c_shows_which (hr.mono (by decide)) rfl aF (aa (pv 9) (aa (pv 6) (aa (pv 7) (aa (pF c_which (.cons (show RelV V.non _ from rfl) .nil) (hr.mono (by decide)) rfl aJ (aa (pv 3) (aa (pv 6) (aa (pv 7) af)))) af))))) dS (aE _))))) (aj (aC dS)) aH))))))) (ae (ar (i:=10) nd rfl (Or.inl rfl) (ai c_prime_paper (hr.mono (by decide)) rfl aJ (aa (aL gi (dG (aa ah (aa ah (aa ah (aa ah af))))) (ai c__law_draw (hr.mono (by decide)) rfl aF (aa (pv 1) (aa ah af))) (fun _ _=>rfl)) af))) (ae (cK (ai c__law_numbers (hr.mono (by decide)) rfl aF (aa (pv 1) (aa (aL aR (pv 10) ah (fun _ _=>rfl)) af))) (bQ (n:=2) rfl (aA (ax (i:=6) nd rfl (Or.inl rfl) (.inr rfl)) (aA (ax (i:=7) nd rfl (Or.inl rfl) (.inr rfl)) aT)))) (aj (aC (bL Bb (ai c_shows_which (hr.mono (by decide)) rfl aF (aa (pv 10) (aa (pv 6) (aa (pv 7) (aa (pF c_which (.cons (show RelV V.non _ from rfl) .nil) (hr.mono (by decide)) rfl aJ (aa (pv 10) (aa (pv 6) (aa (pv 7) af)))) af))))) dS (aE _))))))))))),?_⟩
 show br _ _ _ [some (.ref sc),none,none,none,none,none,none,none,none,none,none] H
 k_data
 refine⟨sc,ns,rfl,hS,h63,fun p0 H1 s1 f1 tp1=>⟨p0,148,0,rfl,tp1,by decide,by decide,by decide,fun r H2 r0 r1 o2 t2=>⟨_,rfl,2+r,149,rfl,by omega,by omega,Bm,by decide,fun p pm pn p9 _=>⟨p,rfl,pm,by omega,fun d v H3 pap s3 hv=>?_⟩⟩⟩⟩
 have p2:=pm.two
 obtain⟨g,ps,ds,rfl,hg,hP,hl29,hds⟩:=mV pap
 have R:=sC pap hg hP hl29 hds
 have nl:=mW pap
 have t3:=t2.same s3
 refine⟨p0,v,1,p,g,ps,ds,rfl,t3,by decide,hv,R,fun g' ot H4 g1' gp' og of4 t4 hu=>?_⟩
 have R':=R.other g1' gp' og
 have nl':nQ (.tuple [.int p,.int g',.tuple (Num.rowsOf ps ds)])=true:=nl
 have sm:∀ q,Num.Pm q→q∣p-1→q≤10^6:=fun q _ hq=>by have:=Int.le_of_dvd (by omega) hq;omega
 refine fe (fun i σ' H'=>(∃ o5 o6 o7 o8 o9,σ'=[some (.ref sc),some (.ref p0),some (.int p),some v,some (.ref ot),o5,o6,o7,o8,o9,none])∧Dc K p0 p g g' ps ds v (.ref ot) (2+9*i) H') ⟨⟨_,_,_,_,_,rfl⟩,t4,t3.BV of4 nl hv,hu⟩ ?_ ?_
 ·rintro i σ' H5 hi ⟨⟨o5,o6,o7,o8,o9,rfl⟩,iv⟩
  have hi3:i<2:=by simpa using hi
  k_data
  refine⟨p0,p,_,rfl,iv.tp,by omega,pm,by omega,fun t b a H6 b0 b1 a0 a1 nb na of6 t6 et=>⟨t,_,rfl,bC.of et,rfl,?_⟩⟩
  have iv6:Dc K p0 p g g' ps ds v (.ref ot) (2+9*(i+1)) H6:=⟨t6,iv.tp.BV of6 nl iv.hv,iv.tp.BV of6 nl' iv.hu⟩
  k_data
  obtain⟨e,o,_⟩:=Num.iX (N:=(p-1).toNat) (by omega) (Num.gP pm nb)
  obtain⟨_,ep⟩:=si pm o
  refine vb pm (by omega) o b0 b1 a0 a1 fun u H7 s7 tl7=>⟨by show 3≤sizeLine;decide,fun ql hql=>?_⟩
  have s8:=ao (o:=.lst [v,.ref ot,v]) hql
  have e8:upd H7 ql (.lst [v,.ref ot,v]) ql=some (.lst [v,.ref ot,v]):=ag
  generalize upd H7 ql _=H8 at *
  have S8:=s7.trans s8
  have tl8:=tl7.same s8
  have iv8:Dc K p0 p g g' ps ds v (.ref ot) (2+9*(i+1)) H8:=⟨iv6.tp.same S8,dv.same S8 _ iv6.hv,dv.same S8 _ iv6.hu⟩
  refine⟨⟨_,aX.of e8⟩,?_⟩
  refine eJ (xs:=[v,.ref ot,v]) (fun j σ' H'=>(∃ o9',σ'=[some (.ref sc),some (.ref p0),some (.int p),some v,some (.ref ot),some (.int (i:Int)),some (.int b),some (.int a),some u,o9',none])∧aB H8 H') ⟨⟨_,rfl⟩,aB.refl _⟩ (fun j σ' H' _ h=>aX.of (h.2 _ _ e8)) ?_ ?_
  ·rintro j x σ' H9 hx ⟨⟨o9',rfl⟩,s9⟩
   obtain⟨gx,hx9,Rx⟩:∃ gx,dv K H9 (.tuple [.int p,.int gx,.tuple (Num.rowsOf ps ds)]) x∧kZ p gx ps ds:=by
    have hx':=List.mem_of_getElem? hx
    simp only [List.mem_cons,List.not_mem_nil,or_false] at hx'
    rcases hx' with rfl | rfl | rfl
    ·exact⟨g,dv.same s9 _ iv8.hv,R⟩
    ·exact⟨g',dv.same s9 _ iv8.hu,R'⟩
    ·exact⟨g,dv.same s9 _ iv8.hv,R⟩
   k_data
   refine⟨x,u,p,gx,b,a,ps,ds,e,rfl,hx9,Rx,o,na,tl8.same s9,fun H10 s10=>⟨true,rfl,?_⟩⟩
   rw [if_neg (by decide)]
   refine nU (dv.same (s9.trans s10) _ iv8.hv) pap o sm na b0 b1 a0 a1 fun u2 H11 s11 tl2=>⟨x,u2,p,gx,b,a,ps,ds,e,rfl,dv.same (s10.trans s11) _ hx9,Rx,o,na,tl2,fun H12 s12=>⟨true,rfl,?_⟩⟩
   rw [if_neg (by decide)]
   exact s9.trans (s10.trans (s11.trans s12))
  ·rintro σ' H9 ⟨⟨o9',rfl⟩,s9⟩
   exact⟨⟨_,_,_,_,_,rfl⟩,iv8.tp.same s9,dv.same s9 _ iv8.hv,dv.same s9 _ iv8.hu⟩
 ·rintro σ' H5 ⟨⟨o5,o6,o7,o8,o9,rfl⟩,iv⟩
  k_data
  refine⟨by show 4≤sizeLine;decide,fun ql hql=>?_⟩
  have s6:=ao (o:=.lst ([1000003,1500007,1769473,11999797].map V.int)) hql
  have e6:upd H5 ql (.lst ([1000003,1500007,1769473,11999797].map V.int)) ql=some (.lst ([1000003,1500007,1769473,11999797].map V.int)):=ag
  show iZ _ (upd H5 ql (.lst ([1000003,1500007,1769473,11999797].map V.int))) _ _
  generalize upd H5 ql _=H6 at *
  have t6:=iv.tp.same s6
  refine⟨p0,4,_,rfl,t6,by decide,by decide,by decide,fun r7 H7 r70 r71 o7' t7=>mK (xs:=[1000003,1500007,1769473,11999797].map V.int) (aX.of (by rw [o7' ql (t6.ne e6 (by intro _ z;cases z))];exact e6)) r70 r71 fun vq hvq=>?_⟩
  obtain⟨p',hp',rfl⟩:=List.mem_map.mp hvq
  obtain⟨pm',p9',sm'⟩:=AB p' hp'
  refine⟨p',rfl,pm',p9',fun d' v' H8 pap' s8 hv'=>?_⟩
  obtain⟨g2,ps2,ds2,rfl,hg2,hP2,hl2,hds2⟩:=mV pap'
  have R2:=sC pap' hg2 hP2 hl2 hds2
  have nl2:=mW pap'
  obtain⟨pp,y1,y2,vr,rfl,tS,e0,eg,dr⟩:=jW (id hv')
  cases e0
  cases eg
  have t8:=t7.same s8
  refine bp tS iO ⟨p0,p',_,rfl,t8,by decide,pm',p9',fun t b a H9 b0 b1 a0 a1 nb na of9 t9 et=>⟨t,_,rfl,bC.of et,rfl,?_⟩⟩
  have hv9:=t8.BV of9 nl2 hv'
  k_data
  have p2':=pm'.two
  obtain⟨e,o,_⟩:=Num.iX (N:=(p' - 1).toNat) (by omega) (Num.gP pm' nb)
  refine nU hv9 pap' o sm' na b0 b1 a0 a1 fun u H10 s10 tl=>⟨.ref pp,u,p',g2,b,a,ps2,ds2,e,rfl,dv.same s10 _ hv9,R2,o,na,tl,fun H11 s11=>⟨true,rfl,q H11⟩⟩
end
end K
namespace PySem.W.Fast
theorem tw9236022295408419634:True:=⟨⟩
theorem tw631683697358299200:True:=⟨⟩
theorem tw4358017338854861920:True:=⟨⟩
theorem tw14241490652165155072:True:=⟨⟩
theorem tw10158806401021832768:True:=⟨⟩
theorem tw11562602114963744352:True:=⟨⟩
theorem tw15493151053295214208:True:=⟨⟩
theorem tw8395950283105063584:True:=⟨⟩
theorem tw8300352606367200992:True:=⟨⟩
theorem tw774356526330432256:True:=⟨⟩
theorem tw656710989750390688:True:=⟨⟩
theorem tw11747158053557998721:True:=⟨⟩
theorem tw7381984802370470049:True:=⟨⟩
theorem tw15300529513100782849:True:=⟨⟩
theorem tw8043479597756715521:True:=⟨⟩
theorem tw5556119277777133089:True:=⟨⟩
theorem tw12858527208315947681:True:=⟨⟩
theorem tw3267387296019195681:True:=⟨⟩
theorem tw2170603005608759169:True:=⟨⟩
theorem tw1654521204699014146:True:=⟨⟩
theorem tw5379009428487451682:True:=⟨⟩
theorem tw16067910469555498146:True:=⟨⟩
theorem tw2510948175576559874:True:=⟨⟩
theorem tw8323552563595406850:True:=⟨⟩
theorem tw9671945828962003746:True:=⟨⟩
theorem tw14836773627576922946:True:=⟨⟩
theorem tw4703728326194829218:True:=⟨⟩
theorem tw1794955684891224002:True:=⟨⟩
theorem tw7783000545291660258:True:=⟨⟩
theorem tw364072188188967939:True:=⟨⟩
theorem tw14590626658556770339:True:=⟨⟩
theorem tw17252410521444597859:True:=⟨⟩
theorem tw15263511437798362211:True:=⟨⟩
theorem tw13344821642222332163:True:=⟨⟩
theorem tw11051138900236429571:True:=⟨⟩
theorem tw5303297386972675331:True:=⟨⟩
theorem tw15666883701697229091:True:=⟨⟩
theorem tw17237775373617292835:True:=⟨⟩
theorem tw3256847183025366627:True:=⟨⟩
theorem tw2756104591054301827:True:=⟨⟩
theorem tw5587641046067259075:True:=⟨⟩
theorem tw15658430553594785507:True:=⟨⟩
theorem tw16444011802549472067:True:=⟨⟩
theorem tw5355533507333152579:True:=⟨⟩
theorem tw7847675948425145155:True:=⟨⟩
theorem tw13627379561616657347:True:=⟨⟩
theorem tw4547579334706868484:True:=⟨⟩
theorem tw12408194575633384964:True:=⟨⟩
theorem tw13586038381001358980:True:=⟨⟩
theorem tw4856639054717573860:True:=⟨⟩
theorem tw1132103233380912004:True:=⟨⟩
theorem tw16035202889519855749:True:=⟨⟩
theorem tw15258061431915262277:True:=⟨⟩
theorem tw3674761572805435941:True:=⟨⟩
theorem tw16196537310202828357:True:=⟨⟩
theorem tw6108004828594099813:True:=⟨⟩
theorem tw10914870538097700485:True:=⟨⟩
theorem tw2828585334804845253:True:=⟨⟩
theorem tw3392918699892932293:True:=⟨⟩
theorem tw895936147949891333:True:=⟨⟩
theorem tw17595822435287077765:True:=⟨⟩
theorem tw17081025084170441605:True:=⟨⟩
theorem tw4600324412149402533:True:=⟨⟩
theorem tw17284039745057810534:True:=⟨⟩
theorem tw2353393832411651206:True:=⟨⟩
theorem tw8584558658542391494:True:=⟨⟩
theorem tw10244003516798540006:True:=⟨⟩
theorem tw8190468948875539718:True:=⟨⟩
theorem tw6459532744700906790:True:=⟨⟩
theorem tw4471617498717767142:True:=⟨⟩
theorem tw16182382102527933958:True:=⟨⟩
theorem tw2546494535872183846:True:=⟨⟩
theorem tw1067463056314686150:True:=⟨⟩
theorem tw16946184187346170790:True:=⟨⟩
theorem tw14626128668836221031:True:=⟨⟩
theorem tw14825700333568595079:True:=⟨⟩
theorem tw6751458136027728071:True:=⟨⟩
theorem tw2723923382513488455:True:=⟨⟩
theorem tw3505260248151894759:True:=⟨⟩
theorem tw7571916488216114983:True:=⟨⟩
theorem tw4719658980521217863:True:=⟨⟩
theorem tw14011283349877897031:True:=⟨⟩
theorem tw16031012861943749640:True:=⟨⟩
theorem tw10355491655989870728:True:=⟨⟩
theorem tw6585773243099312296:True:=⟨⟩
theorem tw1670305479468103976:True:=⟨⟩
theorem tw5214664661764805992:True:=⟨⟩
theorem tw13635647883834757608:True:=⟨⟩
theorem tw7516819630362012168:True:=⟨⟩
theorem tw15269715493672860168:True:=⟨⟩
theorem tw7575714187752330792:True:=⟨⟩
theorem tw11591962253570925288:True:=⟨⟩
theorem tw2243142782232391400:True:=⟨⟩
theorem tw16401869910516602792:True:=⟨⟩
theorem tw7819307455715460040:True:=⟨⟩
theorem tw4411243280486228073:True:=⟨⟩
theorem tw16080577566097558729:True:=⟨⟩
theorem tw7639696055602575849:True:=⟨⟩
theorem tw11461988768410397385:True:=⟨⟩
theorem tw433635524533188329:True:=⟨⟩
theorem tw9369659167187684169:True:=⟨⟩
theorem tw5424479752437031018:True:=⟨⟩
theorem tw12313224214677944458:True:=⟨⟩
theorem tw13945703415380242634:True:=⟨⟩
theorem tw1977430718565317866:True:=⟨⟩
theorem tw10915592064663971082:True:=⟨⟩
theorem tw6680735019077696778:True:=⟨⟩
theorem tw2634867979054396714:True:=⟨⟩
theorem tw2609271594894692682:True:=⟨⟩
theorem tw8287524589546414506:True:=⟨⟩
theorem tw15236984200866569674:True:=⟨⟩
theorem tw11755369429837698698:True:=⟨⟩
theorem tw481685128033704650:True:=⟨⟩
theorem tw16316050550534814506:True:=⟨⟩
theorem tw5562665405311579018:True:=⟨⟩
theorem tw1016174388754604010:True:=⟨⟩
theorem tw290685984132305995:True:=⟨⟩
theorem tw13838436034631388491:True:=⟨⟩
theorem tw4859047377554309515:True:=⟨⟩
theorem tw9416770729145493963:True:=⟨⟩
theorem tw7778841162815457771:True:=⟨⟩
theorem tw5102410318504688107:True:=⟨⟩
theorem tw17956145109988593227:True:=⟨⟩
theorem tw11918094477967953515:True:=⟨⟩
theorem tw476172692362735275:True:=⟨⟩
theorem tw4713026117903300299:True:=⟨⟩
theorem tw9274987818013713163:True:=⟨⟩
theorem tw6839319949918833483:True:=⟨⟩
theorem tw3429920794525543371:True:=⟨⟩
theorem tw11128008369661565004:True:=⟨⟩
theorem tw18360453048791249036:True:=⟨⟩
theorem tw16932343912599416236:True:=⟨⟩
theorem tw4685508566030952972:True:=⟨⟩
theorem tw2550999425326296588:True:=⟨⟩
theorem tw3272201392713449100:True:=⟨⟩
theorem tw5615811567924786956:True:=⟨⟩
theorem tw13728983317883357996:True:=⟨⟩
theorem tw2368932842610420588:True:=⟨⟩
theorem tw17559348065794133932:True:=⟨⟩
theorem tw17286089193014910093:True:=⟨⟩
theorem tw1652745822575467693:True:=⟨⟩
theorem tw15309185683504636109:True:=⟨⟩
theorem tw9724344707437472109:True:=⟨⟩
theorem tw13411171186625419757:True:=⟨⟩
theorem tw13995741152720399853:True:=⟨⟩
theorem tw16599817615809352269:True:=⟨⟩
theorem tw16979511094846785165:True:=⟨⟩
theorem tw6383455627565616877:True:=⟨⟩
theorem tw13118060985951784845:True:=⟨⟩
theorem tw12698281109536312462:True:=⟨⟩
theorem tw5821115288873589966:True:=⟨⟩
theorem tw6744592248947039566:True:=⟨⟩
theorem tw15436103729171005934:True:=⟨⟩
theorem tw6962361194995345966:True:=⟨⟩
theorem tw3794134314235793998:True:=⟨⟩
theorem tw4601162267695623822:True:=⟨⟩
theorem tw15423945976562867854:True:=⟨⟩
theorem tw13434328060083008270:True:=⟨⟩
theorem tw1209530282837717838:True:=⟨⟩
theorem tw11956695350755937134:True:=⟨⟩
theorem tw9858368263270653806:True:=⟨⟩
theorem tw8463880087163797358:True:=⟨⟩
theorem tw358515377694204910:True:=⟨⟩
theorem tw2364674427735686255:True:=⟨⟩
theorem tw7813485053242357935:True:=⟨⟩
theorem tw9304798281598312815:True:=⟨⟩
theorem tw9563545180924947823:True:=⟨⟩
theorem tw15637956088758548847:True:=⟨⟩
theorem tw14242750670575283599:True:=⟨⟩
theorem tw10557109834170433999:True:=⟨⟩
theorem tw9093965205005583919:True:=⟨⟩
theorem tw16422966119319095887:True:=⟨⟩
theorem tw16068431414387247855:True:=⟨⟩
theorem tw3833454940006430447:True:=⟨⟩
theorem tw13535410454510298927:True:=⟨⟩
theorem tw3797066958125958991:True:=⟨⟩
theorem tw11549726795698881423:True:=⟨⟩
theorem tw17081079462107553775:True:=⟨⟩
theorem tw15618196330886377488:True:=⟨⟩
theorem tw11120976851639791824:True:=⟨⟩
theorem tw5747613886767393104:True:=⟨⟩
theorem tw7939397498266402192:True:=⟨⟩
theorem tw7982400106771925488:True:=⟨⟩
theorem tw619900341004129904:True:=⟨⟩
theorem tw4872698046552645360:True:=⟨⟩
theorem tw6357099867064392432:True:=⟨⟩
theorem tw8272765721894450096:True:=⟨⟩
theorem tw10914256132739495953:True:=⟨⟩
theorem tw3013286809986697329:True:=⟨⟩
theorem tw1541956029333953745:True:=⟨⟩
theorem tw2301384267129942225:True:=⟨⟩
theorem tw6034123786473010449:True:=⟨⟩
theorem tw3060346012560554321:True:=⟨⟩
theorem tw8223691888142937457:True:=⟨⟩
theorem tw11245739708355365361:True:=⟨⟩
theorem tw7591226780681150033:True:=⟨⟩
theorem tw1047920534275165841:True:=⟨⟩
theorem tw576084058205862545:True:=⟨⟩
theorem tw7177770084085902001:True:=⟨⟩
theorem tw3902584662545935057:True:=⟨⟩
theorem tw7840784259747957553:True:=⟨⟩
theorem tw12321455709239458002:True:=⟨⟩
theorem tw12929286150391541074:True:=⟨⟩
theorem tw1330562542474275186:True:=⟨⟩
theorem tw11833651449109974482:True:=⟨⟩
theorem tw6991030449013121490:True:=⟨⟩
theorem tw16724499382252039634:True:=⟨⟩
theorem tw8902695365367606898:True:=⟨⟩
theorem tw7866436363523505842:True:=⟨⟩
theorem tw17090262220699345714:True:=⟨⟩
theorem tw4600012073588016946:True:=⟨⟩
theorem tw5594223915629269938:True:=⟨⟩
theorem tw5725831999010697363:True:=⟨⟩
theorem tw7829371260421177587:True:=⟨⟩
theorem tw3076221244356948211:True:=⟨⟩
theorem tw2777211373416358291:True:=⟨⟩
theorem tw4672381824562485747:True:=⟨⟩
theorem tw9939967954332099123:True:=⟨⟩
theorem tw15305852002408094259:True:=⟨⟩
theorem tw12608529042754583187:True:=⟨⟩
theorem tw9216517531957051027:True:=⟨⟩
theorem tw2290947134955459315:True:=⟨⟩
theorem tw17093634370123628307:True:=⟨⟩
theorem tw2673767216947899219:True:=⟨⟩
theorem tw17327041681589700788:True:=⟨⟩
theorem tw12139751933640679668:True:=⟨⟩
theorem tw15219325257120030004:True:=⟨⟩
theorem tw1462175703137742260:True:=⟨⟩
theorem tw14644234956339631700:True:=⟨⟩
theorem tw7132746090479377172:True:=⟨⟩
theorem tw10272335761759426388:True:=⟨⟩
theorem tw5028910160349245300:True:=⟨⟩
theorem tw9855097917904537588:True:=⟨⟩
theorem tw9682285078828350452:True:=⟨⟩
theorem tw11667851170690794549:True:=⟨⟩
theorem tw5764502882530422901:True:=⟨⟩
theorem tw16916502882380549301:True:=⟨⟩
theorem tw16540382827449837749:True:=⟨⟩
theorem tw17320124242947814709:True:=⟨⟩
theorem tw8058341544049094997:True:=⟨⟩
theorem tw3684104953453067637:True:=⟨⟩
theorem tw11630456424619410869:True:=⟨⟩
theorem tw16486152980287125941:True:=⟨⟩
theorem tw5043716391922770517:True:=⟨⟩
theorem tw15049187510664689269:True:=⟨⟩
theorem tw1647754345095283413:True:=⟨⟩
theorem tw8467835289567590133:True:=⟨⟩
theorem tw15339394177001318261:True:=⟨⟩
theorem tw8309502316407580565:True:=⟨⟩
theorem tw11575000116551857077:True:=⟨⟩
theorem tw9566306922736004085:True:=⟨⟩
theorem tw9368189755025361014:True:=⟨⟩
theorem tw12797120918132268406:True:=⟨⟩
theorem tw4433660317309643318:True:=⟨⟩
theorem tw14309516191320863318:True:=⟨⟩
theorem tw10516990493400495702:True:=⟨⟩
theorem tw14503759941410738806:True:=⟨⟩
theorem tw9128838727497731798:True:=⟨⟩
theorem tw8054357740680612726:True:=⟨⟩
theorem tw3524468485396310006:True:=⟨⟩
theorem tw1610154603599429622:True:=⟨⟩
theorem tw13711620629569789975:True:=⟨⟩
theorem tw7334698287094061143:True:=⟨⟩
theorem tw5728586504333695159:True:=⟨⟩
theorem tw13351999916886484151:True:=⟨⟩
theorem tw4641459738521353463:True:=⟨⟩
theorem tw6722909832977447223:True:=⟨⟩
theorem tw10770060139113275927:True:=⟨⟩
theorem tw14736072881322003127:True:=⟨⟩
theorem tw11006802655578100567:True:=⟨⟩
theorem tw14717707351794070391:True:=⟨⟩
theorem tw5445200519286204343:True:=⟨⟩
theorem tw197365977463271383:True:=⟨⟩
theorem tw12038714756589023191:True:=⟨⟩
theorem tw6857187306762370072:True:=⟨⟩
theorem tw5857476216008067448:True:=⟨⟩
theorem tw18112520590210053656:True:=⟨⟩
theorem tw14048189125098891832:True:=⟨⟩
theorem tw5195105647324289880:True:=⟨⟩
theorem tw2629214049491285848:True:=⟨⟩
theorem tw5008745178346955768:True:=⟨⟩
theorem tw14756247751155787768:True:=⟨⟩
theorem tw1846495683948864569:True:=⟨⟩
theorem tw9994754178597874073:True:=⟨⟩
theorem tw8343850170197938745:True:=⟨⟩
theorem tw15717797488612387545:True:=⟨⟩
theorem tw306293523966718745:True:=⟨⟩
theorem tw9996748771141480377:True:=⟨⟩
theorem tw783893692337682361:True:=⟨⟩
theorem tw13491364878026644473:True:=⟨⟩
theorem tw16919718148365359130:True:=⟨⟩
theorem tw11162143765446338682:True:=⟨⟩
theorem tw15548179849564247322:True:=⟨⟩
theorem tw17132705837370572154:True:=⟨⟩
theorem tw4634432293253872154:True:=⟨⟩
theorem tw15301300893383726714:True:=⟨⟩
theorem tw235134736000469626:True:=⟨⟩
theorem tw2495059466849904314:True:=⟨⟩
theorem tw11699476535196165050:True:=⟨⟩
theorem tw17754545794290613210:True:=⟨⟩
theorem tw11285155794840476699:True:=⟨⟩
theorem tw7950255678504141915:True:=⟨⟩
theorem tw4322202150478464091:True:=⟨⟩
theorem tw2650491355140209787:True:=⟨⟩
theorem tw3389106979508946107:True:=⟨⟩
theorem tw10020315986824127771:True:=⟨⟩
theorem tw5913602108527845787:True:=⟨⟩
theorem tw9704431132544075227:True:=⟨⟩
theorem tw7755325246966107611:True:=⟨⟩
theorem tw3113948100780977659:True:=⟨⟩
theorem tw10153325759504098875:True:=⟨⟩
theorem tw9132958947021101787:True:=⟨⟩
theorem tw12838505199171528539:True:=⟨⟩
theorem tw12069151282701410299:True:=⟨⟩
theorem tw10670125695223994428:True:=⟨⟩
theorem tw5085731032445705276:True:=⟨⟩
theorem tw3370467172941537372:True:=⟨⟩
theorem tw7965974612009701468:True:=⟨⟩
theorem tw14763062645534129244:True:=⟨⟩
theorem tw15494049366254583932:True:=⟨⟩
theorem tw9946700096044133500:True:=⟨⟩
theorem tw1521827921230554364:True:=⟨⟩
theorem tw2586498205907510780:True:=⟨⟩
theorem tw7865889965383276540:True:=⟨⟩
theorem tw12296862026549506205:True:=⟨⟩
theorem tw12236245245662560477:True:=⟨⟩
theorem tw11790108809126586589:True:=⟨⟩
theorem tw80323076811444893:True:=⟨⟩
theorem tw18052163925560319645:True:=⟨⟩
theorem tw12347018117122296541:True:=⟨⟩
theorem tw2529503240065092445:True:=⟨⟩
theorem tw4579106426203311997:True:=⟨⟩
theorem tw9180085950160311293:True:=⟨⟩
theorem tw7007761992365221950:True:=⟨⟩
theorem tw6917017278437726430:True:=⟨⟩
theorem tw3613731160397650302:True:=⟨⟩
theorem tw933806720086329790:True:=⟨⟩
theorem tw3999196263888023998:True:=⟨⟩
theorem tw12831282725895839262:True:=⟨⟩
theorem tw11817558346633368094:True:=⟨⟩
theorem tw11044677193480358558:True:=⟨⟩
theorem tw6190095069114046:True:=⟨⟩
theorem tw15635087888472769246:True:=⟨⟩
theorem tw17059926602827118366:True:=⟨⟩
theorem tw17081764381605914398:True:=⟨⟩
theorem tw9947850916972277630:True:=⟨⟩
theorem tw11545333820332068766:True:=⟨⟩
theorem tw10075344740598053790:True:=⟨⟩
theorem tw6765061890127592799:True:=⟨⟩
theorem tw13117280798586970687:True:=⟨⟩
theorem tw13035498724081950367:True:=⟨⟩
theorem tw9783096344373730015:True:=⟨⟩
theorem tw10627867856987356127:True:=⟨⟩
theorem tw4455549383042037759:True:=⟨⟩
end PySem.W.Fast
namespace K
open PySem PySem.Spec PyProof.Rows L2
theorem tT:mv "TooFar.__init__" "part" "part" (inClass (top 5) 0):=⟨⟨rfl,rfl,rfl,by decide +kernel,rfl,by decide +kernel,by decide +kernel⟩,⟨_,_,_,_,rfl,fun _=>rfl,fun _=>rfl⟩,rfl,rfl,by decide,by decide,fun _ _ _ _ _ _ us hl=>match us,hl with | [_,_],_=>rfl⟩
theorem qG:mv "NoPrime.__init__" "divisor" "divisor" (inClass (top 6) 0):=⟨⟨rfl,rfl,rfl,by decide +kernel,rfl,by decide +kernel,by decide +kernel⟩,⟨_,_,_,_,rfl,fun _=>rfl,fun _=>rfl⟩,rfl,rfl,by decide,by decide,fun _ _ _ _ _ _ us hl=>match us,hl with | [_,_],_=>rfl⟩
theorem mI:mv "NoInverse.__init__" "divisor" "divisor" (inClass (top 7) 0):=⟨⟨rfl,rfl,rfl,by decide +kernel,rfl,by decide +kernel,by decide +kernel⟩,⟨_,_,_,_,rfl,fun _=>rfl,fun _=>rfl⟩,rfl,rfl,by decide,by decide,fun _ _ _ _ _ _ us hl=>match us,hl with | [_,_],_=>rfl⟩
end K
open PySem PySem.W PyProof.Rows L2
set_option maxHeartbeats 0 in
theorem PySem.Challenge.cw_rootprime_k58_whole_right_powers_are_let_holds : PySem.Challenge.rw_rootprime_k58_whole_right_powers_are_let.Holds := by
 w_on;o_law;k_head;(case hw=>w_witness2)
 k_fill
 refine L2.xY (l:=PySem.Challenge.rw_rootprime_k58_whole_right_powers_are_let) (n:=63) (k:=68) (x := "_law_script") (CX:=L2.aK) (sp:=K.z9) rfl (by decide) rfl ⟨rfl,by decide,by decide⟩ (fun w h Y=>PySem.W.kIn_of Y) ?F ?S ?C
 case F =>
  intro w mg fa h KX G hmg
  have d_divisor:L2.av (L2.aZ KX) mg "divisor" (K.top 9):=by
   dsimp only [L2.aZ]
   refine' L2.az KX G ?a ?l ?c ?k
   (case a=>k_is);(case l=>k_is);(case c=>k_is);(case k=>k_is)
  have d_inverse:L2.av (L2.aZ KX) mg "inverse" (K.top 10):=by
   dsimp only [L2.aZ]
   refine' L2.az KX G ?a ?l ?c ?k
   (case a=>k_is);(case l=>k_is);(case c=>k_is);(case k=>k_is)
  have d_is_whole:L2.av (L2.aZ KX) mg "is_whole" (K.top 12):=by
   dsimp only [L2.aZ]
   refine' L2.az KX G ?a ?l ?c ?k
   (case a=>k_is);(case l=>k_is);(case c=>k_is);(case k=>k_is)
  have d_is_tuple_of:L2.av (L2.aZ KX) mg "is_tuple_of" (K.top 13):=by
   dsimp only [L2.aZ]
   refine' L2.az KX G ?a ?l ?c ?k
   (case a=>k_is);(case l=>k_is);(case c=>k_is);(case k=>k_is)
  have d_is_pair:L2.av (L2.aZ KX) mg "is_pair" (K.top 14):=by
   dsimp only [L2.aZ]
   refine' L2.az KX G ?a ?l ?c ?k
   (case a=>k_is);(case l=>k_is);(case c=>k_is);(case k=>k_is)
  have d_is_just:L2.av (L2.aZ KX) mg "is_just" (K.top 15):=by
   dsimp only [L2.aZ]
   refine' L2.az KX G ?a ?l ?c ?k
   (case a=>k_is);(case l=>k_is);(case c=>k_is);(case k=>k_is)
  have d_are_just:L2.av (L2.aZ KX) mg "are_just" (K.top 16):=by
   dsimp only [L2.aZ]
   refine' L2.az KX G ?a ?l ?c ?k
   (case a=>k_is);(case l=>k_is);(case c=>k_is);(case k=>k_is)
  have d_primes_in:L2.av (L2.aZ KX) mg "primes_in" (K.top 17):=by
   dsimp only [L2.aZ]
   refine' L2.az KX G ?a ?l ?c ?k
   (case a=>k_is);(case l=>k_is);(case c=>k_is);(case k=>k_is)
  have d_parting_in:L2.av (L2.aZ KX) mg "parting_in" (K.top 18):=by
   dsimp only [L2.aZ]
   refine' L2.az KX G ?a ?l ?c ?k
   (case a=>k_is);(case l=>k_is);(case c=>k_is);(case k=>k_is)
  have d_power:L2.av (L2.aZ KX) mg "power" (K.top 20):=by
   dsimp only [L2.aZ]
   refine' L2.az KX G ?a ?l ?c ?k
   (case a=>k_is);(case l=>k_is);(case c=>k_is);(case k=>k_is)
  have d_is_least:L2.av (L2.aZ KX) mg "is_least" (K.top 21):=by
   dsimp only [L2.aZ]
   refine' L2.az KX G ?a ?l ?c ?k
   (case a=>k_is);(case l=>k_is);(case c=>k_is);(case k=>k_is)
  have d_is_prime_paper:L2.av (L2.aZ KX) mg "is_prime_paper" (K.top 23):=by
   dsimp only [L2.aZ]
   refine' L2.az KX G ?a ?l ?c ?k
   (case a=>k_is);(case l=>k_is);(case c=>k_is);(case k=>k_is)
  have d_is_order:L2.av (L2.aZ KX) mg "is_order" (K.top 24):=by
   dsimp only [L2.aZ]
   refine' L2.az KX G ?a ?l ?c ?k
   (case a=>k_is);(case l=>k_is);(case c=>k_is);(case k=>k_is)
  have d_are_prime_papers:L2.av (L2.aZ KX) mg "are_prime_papers" (K.top 25):=by
   dsimp only [L2.aZ]
   refine' L2.az KX G ?a ?l ?c ?k
   (case a=>k_is);(case l=>k_is);(case c=>k_is);(case k=>k_is)
  have d_is_right_above:L2.av (L2.aZ KX) mg "is_right_above" (K.top 26):=by
   dsimp only [L2.aZ]
   refine' L2.az KX G ?a ?l ?c ?k
   (case a=>k_is);(case l=>k_is);(case c=>k_is);(case k=>k_is)
  have d_is_paper_form:L2.av (L2.aZ KX) mg "is_paper_form" (K.top 27):=by
   dsimp only [L2.aZ]
   refine' L2.az KX G ?a ?l ?c ?k
   (case a=>k_is);(case l=>k_is);(case c=>k_is);(case k=>k_is)
  have d_come_to:L2.av (L2.aZ KX) mg "come_to" (K.top 28):=by
   dsimp only [L2.aZ]
   refine' L2.az KX G ?a ?l ?c ?k
   (case a=>k_is);(case l=>k_is);(case c=>k_is);(case k=>k_is)
  have d_is_row_form:L2.av (L2.aZ KX) mg "is_row_form" (K.top 29):=by
   dsimp only [L2.aZ]
   refine' L2.az KX G ?a ?l ?c ?k
   (case a=>k_is);(case l=>k_is);(case c=>k_is);(case k=>k_is)
  have d_without:L2.av (L2.aZ KX) mg "without" (K.top 30):=by
   dsimp only [L2.aZ]
   refine' L2.az KX G ?a ?l ?c ?k
   (case a=>k_is);(case l=>k_is);(case c=>k_is);(case k=>k_is)
  have d_shows_which:L2.av (L2.aZ KX) mg "shows_which" (K.top 32):=by
   dsimp only [L2.aZ]
   refine' L2.az KX G ?a ?l ?c ?k
   (case a=>k_is);(case l=>k_is);(case c=>k_is);(case k=>k_is)
  have d_shows_no_power:L2.av (L2.aZ KX) mg "shows_no_power" (K.top 33):=by
   dsimp only [L2.aZ]
   refine' L2.az KX G ?a ?l ?c ?k
   (case a=>k_is);(case l=>k_is);(case c=>k_is);(case k=>k_is)
  have d_is_which:L2.av (L2.aZ KX) mg "is_which" (K.top 34):=by
   dsimp only [L2.aZ]
   refine' L2.az KX G ?a ?l ?c ?k
   (case a=>k_is);(case l=>k_is);(case c=>k_is);(case k=>k_is)
  have d_digit_rows:L2.av (L2.aZ KX) mg "digit_rows" (K.top 35):=by
   dsimp only [L2.aZ]
   refine' L2.az KX G ?a ?l ?c ?k
   (case a=>k_is);(case l=>k_is);(case c=>k_is);(case k=>k_is)
  have d_digits_by:L2.av (L2.aZ KX) mg "digits_by" (K.top 36):=by
   dsimp only [L2.aZ]
   refine' L2.az KX G ?a ?l ?c ?k
   (case a=>k_is);(case l=>k_is);(case c=>k_is);(case k=>k_is)
  have d_least_divisor:L2.av (L2.aZ KX) mg "least_divisor" (K.top 39):=by
   dsimp only [L2.aZ]
   refine' L2.az KX G ?a ?l ?c ?k
   (case a=>k_is);(case l=>k_is);(case c=>k_is);(case k=>k_is)
  have d_least_divisor_from:L2.av (L2.aZ KX) mg "least_divisor_from" (K.top 40):=by
   dsimp only [L2.aZ]
   refine' L2.az KX G ?a ?l ?c ?k
   (case a=>k_is);(case l=>k_is);(case c=>k_is);(case k=>k_is)
  have d_parted:L2.av (L2.aZ KX) mg "parted" (K.top 41):=by
   dsimp only [L2.aZ]
   refine' L2.az KX G ?a ?l ?c ?k
   (case a=>k_is);(case l=>k_is);(case c=>k_is);(case k=>k_is)
  have d_whole_of:L2.av (L2.aZ KX) mg "whole_of" (K.top 42):=by
   dsimp only [L2.aZ]
   refine' L2.az KX G ?a ?l ?c ?k
   (case a=>k_is);(case l=>k_is);(case c=>k_is);(case k=>k_is)
  have d_prime_paper:L2.av (L2.aZ KX) mg "prime_paper" (K.top 44):=by
   dsimp only [L2.aZ]
   refine' L2.az KX G ?a ?l ?c ?k
   (case a=>k_is);(case l=>k_is);(case c=>k_is);(case k=>k_is)
  have d_parting_paper:L2.av (L2.aZ KX) mg "parting_paper" (K.top 45):=by
   dsimp only [L2.aZ]
   refine' L2.az KX G ?a ?l ?c ?k
   (case a=>k_is);(case l=>k_is);(case c=>k_is);(case k=>k_is)
  have d_least_full:L2.av (L2.aZ KX) mg "least_full" (K.top 46):=by
   dsimp only [L2.aZ]
   refine' L2.az KX G ?a ?l ?c ?k
   (case a=>k_is);(case l=>k_is);(case c=>k_is);(case k=>k_is)
  have d_small_steps:L2.av (L2.aZ KX) mg "small_steps" (K.top 49):=by
   dsimp only [L2.aZ]
   refine' L2.az KX G ?a ?l ?c ?k
   (case a=>k_is);(case l=>k_is);(case c=>k_is);(case k=>k_is)
  have d_order_from:L2.av (L2.aZ KX) mg "order_from" (K.top 51):=by
   dsimp only [L2.aZ]
   refine' L2.az KX G ?a ?l ?c ?k
   (case a=>k_is);(case l=>k_is);(case c=>k_is);(case k=>k_is)
  have d_most_times:L2.av (L2.aZ KX) mg "most_times" (K.top 52):=by
   dsimp only [L2.aZ]
   refine' L2.az KX G ?a ?l ?c ?k
   (case a=>k_is);(case l=>k_is);(case c=>k_is);(case k=>k_is)
  have d_raised:L2.av (L2.aZ KX) mg "raised" (K.top 53):=by
   dsimp only [L2.aZ]
   refine' L2.az KX G ?a ?l ?c ?k
   (case a=>k_is);(case l=>k_is);(case c=>k_is);(case k=>k_is)
  have d_times_in_order:L2.av (L2.aZ KX) mg "times_in_order" (K.top 54):=by
   dsimp only [L2.aZ]
   refine' L2.az KX G ?a ?l ?c ?k
   (case a=>k_is);(case l=>k_is);(case c=>k_is);(case k=>k_is)
  have d_times_to_one:L2.av (L2.aZ KX) mg "times_to_one" (K.top 55):=by
   dsimp only [L2.aZ]
   refine' L2.az KX G ?a ?l ?c ?k
   (case a=>k_is);(case l=>k_is);(case c=>k_is);(case k=>k_is)
  have d_order:L2.av (L2.aZ KX) mg "order" (K.top 56):=by
   dsimp only [L2.aZ]
   refine' L2.az KX G ?a ?l ?c ?k
   (case a=>k_is);(case l=>k_is);(case c=>k_is);(case k=>k_is)
  have d_put_together:L2.av (L2.aZ KX) mg "put_together" (K.top 58):=by
   dsimp only [L2.aZ]
   refine' L2.az KX G ?a ?l ?c ?k
   (case a=>k_is);(case l=>k_is);(case c=>k_is);(case k=>k_is)
  have d_first_apart:L2.av (L2.aZ KX) mg "first_apart" (K.top 59):=by
   dsimp only [L2.aZ]
   refine' L2.az KX G ?a ?l ?c ?k
   (case a=>k_is);(case l=>k_is);(case c=>k_is);(case k=>k_is)
  have d_are_apart:L2.av (L2.aZ KX) mg "are_apart" (K.top 60):=by
   dsimp only [L2.aZ]
   refine' L2.az KX G ?a ?l ?c ?k
   (case a=>k_is);(case l=>k_is);(case c=>k_is);(case k=>k_is)
  have d_both_together:L2.av (L2.aZ KX) mg "both_together" (K.top 61):=by
   dsimp only [L2.aZ]
   refine' L2.az KX G ?a ?l ?c ?k
   (case a=>k_is);(case l=>k_is);(case c=>k_is);(case k=>k_is)
  have d_which:L2.mn (L2.aZ KX) mg "which" (K.top 64) #[.none]:=by
   dsimp only [L2.aZ]
   refine' L2.tK KX G ?a ?l ?c ?k ?t ?e
   (case a=>k_is);(case l=>k_is);(case c=>k_is);(case k=>k_is);(case t=>k_is);(case e=>rfl)
  have d_refuse_far:L2.av (L2.aZ KX) mg "refuse_far" (K.top 65):=by
   dsimp only [L2.aZ]
   refine' L2.az KX G ?a ?l ?c ?k
   (case a=>k_is);(case l=>k_is);(case c=>k_is);(case k=>k_is)
  have d_sought:L2.av (L2.aZ KX) mg "sought" (K.top 66):=by
   dsimp only [L2.aZ]
   refine' L2.az KX G ?a ?l ?c ?k
   (case a=>k_is);(case l=>k_is);(case c=>k_is);(case k=>k_is)
  have d_digits:L2.av (L2.aZ KX) mg "digits" (K.top 67):=by
   dsimp only [L2.aZ]
   refine' L2.az KX G ?a ?l ?c ?k
   (case a=>k_is);(case l=>k_is);(case c=>k_is);(case k=>k_is)
  have d_steps_to:L2.av (L2.aZ KX) mg "steps_to" (K.top 68):=by
   dsimp only [L2.aZ]
   refine' L2.az KX G ?a ?l ?c ?k
   (case a=>k_is);(case l=>k_is);(case c=>k_is);(case k=>k_is)
  have d_number_of:L2.av (L2.aZ KX) mg "number_of" (K.top 69):=by
   dsimp only [L2.aZ]
   refine' L2.az KX G ?a ?l ?c ?k
   (case a=>k_is);(case l=>k_is);(case c=>k_is);(case k=>k_is)
  have d__law_is_prime:L2.av (L2.aZ KX) mg "_law_is_prime" (K.top 71):=by
   dsimp only [L2.aZ]
   refine' L2.az KX G ?a ?l ?c ?k
   (case a=>k_is);(case l=>k_is);(case c=>k_is);(case k=>k_is)
  have d__law_prime:L2.av (L2.aZ KX) mg "_law_prime" (K.top 72):=by
   dsimp only [L2.aZ]
   refine' L2.az KX G ?a ?l ?c ?k
   (case a=>k_is);(case l=>k_is);(case c=>k_is);(case k=>k_is)
  have d__law_tape:L2.av (L2.aZ KX) mg "_law_tape" (K.top 73):=by
   dsimp only [L2.aZ]
   refine' L2.az KX G ?a ?l ?c ?k
   (case a=>k_is);(case l=>k_is);(case c=>k_is);(case k=>k_is)
  have d__law_draw:L2.av (L2.aZ KX) mg "_law_draw" (K.top 74):=by
   dsimp only [L2.aZ]
   refine' L2.az KX G ?a ?l ?c ?k
   (case a=>k_is);(case l=>k_is);(case c=>k_is);(case k=>k_is)
  have d__law_far:L2.av (L2.aZ KX) mg "_law_far" (K.top 75):=by
   dsimp only [L2.aZ]
   refine' L2.az KX G ?a ?l ?c ?k
   (case a=>k_is);(case l=>k_is);(case c=>k_is);(case k=>k_is)
  have d__law_power:L2.av (L2.aZ KX) mg "_law_power" (K.top 76):=by
   dsimp only [L2.aZ]
   refine' L2.az KX G ?a ?l ?c ?k
   (case a=>k_is);(case l=>k_is);(case c=>k_is);(case k=>k_is)
  have d__law_digits:L2.av (L2.aZ KX) mg "_law_digits" (K.top 77):=by
   dsimp only [L2.aZ]
   refine' L2.az KX G ?a ?l ?c ?k
   (case a=>k_is);(case l=>k_is);(case c=>k_is);(case k=>k_is)
  have d__law_primes_of:L2.av (L2.aZ KX) mg "_law_primes_of" (K.top 78):=by
   dsimp only [L2.aZ]
   refine' L2.az KX G ?a ?l ?c ?k
   (case a=>k_is);(case l=>k_is);(case c=>k_is);(case k=>k_is)
  have d__law_due_power:L2.av (L2.aZ KX) mg "_law_due_power" (K.top 79):=by
   dsimp only [L2.aZ]
   refine' L2.az KX G ?a ?l ?c ?k
   (case a=>k_is);(case l=>k_is);(case c=>k_is);(case k=>k_is)
  have d__law_other_paper:L2.av (L2.aZ KX) mg "_law_other_paper" (K.top 80):=by
   dsimp only [L2.aZ]
   refine' L2.az KX G ?a ?l ?c ?k
   (case a=>k_is);(case l=>k_is);(case c=>k_is);(case k=>k_is)
  have d__law_numbers:L2.av (L2.aZ KX) mg "_law_numbers" (K.top 81):=by
   dsimp only [L2.aZ]
   refine' L2.az KX G ?a ?l ?c ?k
   (case a=>k_is);(case l=>k_is);(case c=>k_is);(case k=>k_is)
  have d_law:L2.av (L2.aZ KX) mg "law" (K.top 82):=by
   dsimp only [L2.aZ]
   refine' L2.az KX G ?a ?l ?c ?k
   (case a=>k_is);(case l=>k_is);(case c=>k_is);(case k=>k_is)
  have n_abs:mg "abs"=none:=PySem.W.mg_none_of KX G (by k_is)
  have n_int:mg "int"=none:=PySem.W.mg_none_of KX G (by k_is)
  have n_bool:mg "bool"=none:=PySem.W.mg_none_of KX G (by k_is)
  have n_isinstance:mg "isinstance"=none:=PySem.W.mg_none_of KX G (by k_is)
  have n_any:mg "any"=none:=PySem.W.mg_none_of KX G (by k_is)
  have n_range:mg "range"=none:=PySem.W.mg_none_of KX G (by k_is)
  have n_tuple:mg "tuple"=none:=PySem.W.mg_none_of KX G (by k_is)
  have n_all:mg "all"=none:=PySem.W.mg_none_of KX G (by k_is)
  have n_list:mg "list"=none:=PySem.W.mg_none_of KX G (by k_is)
  have n_min:mg "min"=none:=PySem.W.mg_none_of KX G (by k_is)
  have n_max:mg "max"=none:=PySem.W.mg_none_of KX G (by k_is)
  have n_len:mg "len"=none:=PySem.W.mg_none_of KX G (by k_is)
  have n_zip:mg "zip"=none:=PySem.W.mg_none_of KX G (by k_is)
  have n_enumerate:mg "enumerate"=none:=PySem.W.mg_none_of KX G (by k_is)
  refine' L2.cz (PySem.W.mg_of (n := "PrimeError") KX G ?xa) (fun a_PrimeError=>?g1)
  (case xa=>k_is)
  refine' L2.cz (L2.fA KX a_PrimeError ?l ?c2 ?c3 ?e1 ?e2 ?e3 ?e4 ?e5 ?e6 ?ob ?kp) (fun c_PrimeError=>?g2)
  (case l=>k_is);(case c2=>rfl);(case c3=>rfl);(case e1=>k_is);(case e2=>k_is);(case e3=>k_is);(case e4=>k_is);(case e5=>k_is);(case e6=>k_is);(case ob=>exact⟨_,_,_,_,_,_,_,_,_,_,_,_,_,_,_,_,rfl,rfl,rfl,rfl⟩);(case kp=>k_is)
  refine' L2.cz (L2.jM a_PrimeError c_PrimeError.2 c_PrimeError.1 ?i) (fun x_PrimeError=>?g3)
  (case i=>k_is)
  refine' L2.cz (PySem.W.mg_of (n := "NoNumber") KX G ?xa) (fun a_NoNumber=>?g4)
  (case xa=>k_is)
  refine' L2.cz (L2.fA KX a_NoNumber ?l ?c2 ?c3 ?e1 ?e2 ?e3 ?e4 ?e5 ?e6 ?ob ?kp) (fun c_NoNumber=>?g5)
  (case l=>k_is);(case c2=>rfl);(case c3=>rfl);(case e1=>k_is);(case e2=>k_is);(case e3=>k_is);(case e4=>k_is);(case e5=>k_is);(case e6=>k_is);(case ob=>exact⟨_,_,_,_,_,_,_,_,_,_,_,_,_,_,_,_,rfl,rfl,rfl,rfl⟩);(case kp=>k_is)
  refine' L2.cz (L2.jM a_NoNumber c_NoNumber.2 c_NoNumber.1 ?i) (fun x_NoNumber=>?g6)
  (case i=>k_is)
  refine' L2.cz (PySem.W.mg_of (n := "Nought") KX G ?xa) (fun a_Nought=>?g7)
  (case xa=>k_is)
  refine' L2.cz (L2.fA KX a_Nought ?l ?c2 ?c3 ?e1 ?e2 ?e3 ?e4 ?e5 ?e6 ?ob ?kp) (fun c_Nought=>?g8)
  (case l=>k_is);(case c2=>rfl);(case c3=>rfl);(case e1=>k_is);(case e2=>k_is);(case e3=>k_is);(case e4=>k_is);(case e5=>k_is);(case e6=>k_is);(case ob=>exact⟨_,_,_,_,_,_,_,_,_,_,_,_,_,_,_,_,rfl,rfl,rfl,rfl⟩);(case kp=>k_is)
  refine' L2.cz (L2.jM a_Nought c_Nought.2 c_Nought.1 ?i) (fun x_Nought=>?g9)
  (case i=>k_is)
  refine' L2.cz (PySem.W.mg_of (n := "NoOrder") KX G ?xa) (fun a_NoOrder=>?g10)
  (case xa=>k_is)
  refine' L2.cz (L2.fA KX a_NoOrder ?l ?c2 ?c3 ?e1 ?e2 ?e3 ?e4 ?e5 ?e6 ?ob ?kp) (fun c_NoOrder=>?g11)
  (case l=>k_is);(case c2=>rfl);(case c3=>rfl);(case e1=>k_is);(case e2=>k_is);(case e3=>k_is);(case e4=>k_is);(case e5=>k_is);(case e6=>k_is);(case ob=>exact⟨_,_,_,_,_,_,_,_,_,_,_,_,_,_,_,_,rfl,rfl,rfl,rfl⟩);(case kp=>k_is)
  refine' L2.cz (L2.jM a_NoOrder c_NoOrder.2 c_NoOrder.1 ?i) (fun x_NoOrder=>?g12)
  (case i=>k_is)
  refine' L2.cz (PySem.W.mg_of (n := "TooFar") KX G ?xa) (fun a_TooFar=>?g13)
  (case xa=>k_is)
  refine' L2.cz (L2.fA KX a_TooFar ?l ?c2 ?c3 ?e1 ?e2 ?e3 ?e4 ?e5 ?e6 ?ob ?kp) (fun c_TooFar=>?g14)
  (case l=>k_is);(case c2=>rfl);(case c3=>rfl);(case e1=>k_is);(case e2=>k_is);(case e3=>k_is);(case e4=>k_is);(case e5=>k_is);(case e6=>k_is);(case ob=>exact⟨_,_,_,_,_,_,_,_,_,_,_,_,_,_,_,_,rfl,rfl,rfl,rfl⟩);(case kp=>k_is)
  refine' L2.cz (L2.nP K.tT a_TooFar c_TooFar.2 c_TooFar.1 ?nf ?i ?fn ?l ?cc ?kk) (fun x_TooFar=>?g15)
  (case nf=>k_is);(case i=>k_is);(case fn=>k_is);(case l=>k_is);(case cc=>k_is);(case kk=>k_is)
  refine' L2.cz (PySem.W.mg_of (n := "NoPrime") KX G ?xa) (fun a_NoPrime=>?g16)
  (case xa=>k_is)
  refine' L2.cz (L2.fA KX a_NoPrime ?l ?c2 ?c3 ?e1 ?e2 ?e3 ?e4 ?e5 ?e6 ?ob ?kp) (fun c_NoPrime=>?g17)
  (case l=>k_is);(case c2=>rfl);(case c3=>rfl);(case e1=>k_is);(case e2=>k_is);(case e3=>k_is);(case e4=>k_is);(case e5=>k_is);(case e6=>k_is);(case ob=>exact⟨_,_,_,_,_,_,_,_,_,_,_,_,_,_,_,_,rfl,rfl,rfl,rfl⟩);(case kp=>k_is)
  refine' L2.cz (L2.nP K.qG a_NoPrime c_NoPrime.2 c_NoPrime.1 ?nf ?i ?fn ?l ?cc ?kk) (fun x_NoPrime=>?g18)
  (case nf=>k_is);(case i=>k_is);(case fn=>k_is);(case l=>k_is);(case cc=>k_is);(case kk=>k_is)
  refine' L2.cz (PySem.W.mg_of (n := "NoInverse") KX G ?xa) (fun a_NoInverse=>?g19)
  (case xa=>k_is)
  refine' L2.cz (L2.fA KX a_NoInverse ?l ?c2 ?c3 ?e1 ?e2 ?e3 ?e4 ?e5 ?e6 ?ob ?kp) (fun c_NoInverse=>?g20)
  (case l=>k_is);(case c2=>rfl);(case c3=>rfl);(case e1=>k_is);(case e2=>k_is);(case e3=>k_is);(case e4=>k_is);(case e5=>k_is);(case e6=>k_is);(case ob=>exact⟨_,_,_,_,_,_,_,_,_,_,_,_,_,_,_,_,rfl,rfl,rfl,rfl⟩);(case kp=>k_is)
  refine' L2.cz (L2.nP K.mI a_NoInverse c_NoInverse.2 c_NoInverse.1 ?nf ?i ?fn ?l ?cc ?kk) (fun x_NoInverse=>?g21)
  (case nf=>k_is);(case i=>k_is);(case fn=>k_is);(case l=>k_is);(case cc=>k_is);(case kk=>k_is)
  refine' L2.cz (PySem.W.mg_of (n := "Kept") KX G ?xa) (fun a_Kept=>?g22)
  (case xa=>k_is)
  refine' L2.cz (L2.AX KX a_Kept ?p1 ?p2 ?p3 ?p4 ?p5 ?p6) (fun o_Kept=>?g23)
  (case p1=>k_is);(case p2=>k_is);(case p3=>k_is);(case p4=>k_is);(case p5=>k_is);(case p6=>k_is)
  refine' L2.cz (L2.j7 (m := "__init__") (qual := "Kept.__init__") (st:=L2.inClass (K.top 48) 0) o_Kept ?xa ?fn ?kk ?l ?cc) (fun m_Kept___init__=>?g24)
  (case xa=>k_is);(case fn=>k_is);(case kk=>k_is);(case l=>k_is);(case cc=>k_is)
  refine' L2.cz (L2.j7 (m := "steps") (qual := "Kept.steps") (st:=L2.inClass (K.top 48) 1) o_Kept ?xa ?fn ?kk ?l ?cc) (fun m_Kept_steps=>?g25)
  (case xa=>k_is);(case fn=>k_is);(case kk=>k_is);(case l=>k_is);(case cc=>k_is)
  refine' L2.cz (L2.j7 (m := "tables") (qual := "Kept.tables") (st:=L2.inClass (K.top 48) 2) o_Kept ?xa ?fn ?kk ?l ?cc) (fun m_Kept_tables=>?g26)
  (case xa=>k_is);(case fn=>k_is);(case kk=>k_is);(case l=>k_is);(case cc=>k_is)
  refine' L2.cz (L2.j7 (m := "used_table") (qual := "Kept.used_table") (st:=L2.inClass (K.top 48) 3) o_Kept ?xa ?fn ?kk ?l ?cc) (fun m_Kept_used_table=>?g27)
  (case xa=>k_is);(case fn=>k_is);(case kk=>k_is);(case l=>k_is);(case cc=>k_is)
  refine' L2.cz (L2.j7 (m := "add_steps") (qual := "Kept.add_steps") (st:=L2.inClass (K.top 48) 4) o_Kept ?xa ?fn ?kk ?l ?cc) (fun m_Kept_add_steps=>?g28)
  (case xa=>k_is);(case fn=>k_is);(case kk=>k_is);(case l=>k_is);(case cc=>k_is)
  refine' L2.cz (L2.mP (f := "most") o_Kept ?xa) (fun na_most=>?g29)
  (case xa=>k_is)
  refine' L2.cz (L2.mP (f := "counted") o_Kept ?xa) (fun na_counted=>?g30)
  (case xa=>k_is)
  refine' L2.cz (L2.mP (f := "laid") o_Kept ?xa) (fun na_laid=>?g31)
  (case xa=>k_is)
  refine' L2.cz (PySem.W.mg_of (n := "GREATEST") KX G ?xa) (fun g_GREATEST=>?g32)
  (case xa=>k_is)
  refine' L2.cz (PySem.W.mg_of (n := "FARTHEST") KX G ?xa) (fun g_FARTHEST=>?g33)
  (case xa=>k_is)
  refine L2.yA hmg d_law (fun _ _ _ _ _ _ _=>rfl) fun base f fd kb F=>?_
  have dvr:=fun P w=>K.qO (P:=P) (w:=w) (base:=base) d_divisor n_abs
  have inv:=fun P w=>K.qP (P:=P) (w:=w) (base:=base) d_inverse (dvr P w) (x_NoInverse _ _ _)
  have pw:=fun P w=>K.we (P:=P) (w:=w) (base:=base) d_power (inv P w) n_abs
  have lt:=fun P w=>K.qQ (P:=P) (w:=w) (base:=base) d_is_least (pw P w) n_all
  have fr:=fun P w=>K.yK (P:=P) (w:=w) (base:=base) d_least_divisor_from
  have ls:=fun P w=>K.v8 (P:=P) (w:=w) (base:=base) d_least_divisor (fr P w) x_NoNumber (x_TooFar _ _ _) ⟨_,g_GREATEST⟩
  have pd:=fun P w=>K.uh (P:=P) (w:=w) (base:=base) d_parted (fr P w) x_NoNumber (x_TooFar _ _ _) ⟨_,g_GREATEST⟩
  have pi:=fun P w=>K.oZ (P:=P) (w:=w) (base:=base) d_primes_in
  have pp:=fun P w=>K.Bg (K.lU (P:=P) (w:=w) (base:=base) d_prime_paper d_parting_paper (ls P w) (pd P w) (K.mR d_least_full (lt P w)) (pi P w) (x_NoPrime _ _ _) n_tuple 30).1
  have ra:=fun P w=>K.uj (P:=P) (w:=w) (base:=base) d_raised (pw P w) n_range
  have wo:=fun P w=>K.wq (P:=P) (w:=w) (base:=base) d_whole_of n_range
  have od:=fun P w=>K.v9 (P:=P) (w:=w) (base:=base) d_order (K.mS d_order_from (K.wd d_parting_in) (K.wc d_parting_in) (K.yN d_most_times) (ra P w) (K.ph d_times_in_order (ra P w) (K.wk d_times_to_one (pw P w)) n_len 6) (wo P w) (pw P w) n_min n_zip n_tuple) x_Nought
  have put:=fun P w=>K.A7 (P:=P) (w:=w) (base:=base) d_put_together (K.vX d_first_apart (K.vW d_are_apart (dvr P w)) n_enumerate) (K.yF d_both_together (dvr P w) (inv P w))
  have ki:=fun P w=>K.v5 (P:=P) (w:=w) (mg:=mg) (base:=base) m_Kept___init__ o_Kept.cls na_most na_counted na_laid
  have ka:=fun P w=>K.yL (P:=P) (w:=w) (mg:=mg) (base:=base) m_Kept_add_steps o_Kept.cls na_counted
  have kt:=fun P w=>K.qT (P:=P) (w:=w) (mg:=mg) (base:=base) m_Kept_tables o_Kept.cls na_laid n_list
  have ku:=fun P w=>K.v7 (P:=P) (w:=w) (mg:=mg) (base:=base) m_Kept_used_table o_Kept.cls na_laid na_most n_len (K.wj d_small_steps n_len) (ka P w) (kt P w)
  have dg:=fun P w=>K.ue (P:=P) (w:=w) (base:=base) d_digits o_Kept.cls (pw P w) (inv P w) (ku P w) (ka P w) (K.yO d_number_of) (K.qW d_steps_to) n_len n_range n_tuple
  have so:=fun P w=>K.uk (P:=P) (w:=w) (base:=base) d_sought o_Kept.cls o_Kept (ki P w) (dg P w) (K.wb d_parting_in) (wo P w) (K.yP d_number_of) (put P w) n_len n_tuple
  have wh:=fun P w=>(K.wm (P:=P) (w:=w) (base:=base) d_which (od P w) (pw P w) (K.A4 d_refuse_far (x_TooFar _ _ _) ⟨_,g_FARTHEST⟩ n_max) (pi P w) (so P w) x_Nought)
  have dw:=fun P w=>K.yI (P:=P) (w:=w) (base:=base) d__law_draw n_len
  have lp:=fun P w=>K.yM (P:=P) (w:=w) (base:=base) d__law_power
  have fa:=fun P w=>K.yJ (P:=P) (w:=w) (base:=base) d__law_far (dw P w)
  have wl:=fun P w=>K.Dw (P:=P) (w:=w) (base:=base) d_is_whole n_isinstance n_int n_bool
  have tf:=fun P w=>K.A8 (P:=P) (w:=w) (base:=base) d_is_tuple_of n_isinstance n_tuple n_len
  have pf:=fun P w=>K.Cs (P:=P) (w:=w) (base:=base) d_is_paper_form (wl P w) (tf P w) n_isinstance n_tuple
  have rf:=fun P w=>K.Cv (P:=P) (w:=w) (base:=base) d_is_row_form (wl P w) (tf P w) (pf P w)
  have ct:=fun P w=>K.Cr (P:=P) (w:=w) (base:=base) d_come_to (rf P w) (K.Cw d_without)
  have rab:=fun P w=>K.Cu (P:=P) (w:=w) (base:=base) d_is_right_above (pf P w) (ct P w) (lt P w) (pi P w)
  have ppr:=fun P w=>K.Ct (P:=P) (w:=w) (base:=base) d_is_prime_paper (K.A6 d_are_prime_papers (rab P w) n_list)
  have iord:=fun P w=>K.qR (P:=P) (w:=w) (base:=base) d_is_order (lt P w) (pi P w)
  have jst:=fun P w=>K.sg (P:=P) (w:=w) (base:=base) (fi:=0) d_is_just d_are_just (wl P w) n_isinstance n_list n_tuple n_len n_zip n_all 7
  have shw:=fun P w=>K.wg (P:=P) (w:=w) (base:=base) d_shows_which (ppr P w) (tf P w) (K.qV d_shows_no_power (wl P w) (iord P w) (pw P w) (jst P w)) (K.qS d_is_which (K.yQ d_is_pair (tf P w) (wl P w)) (iord P w) (pw P w)) (jst P w) (K.yH d_digit_rows (K.yG d_digits_by n_tuple) (pi P w) n_tuple)
  exact K.A5 F (K.yR d__law_tape) (dw _ _) (K.ui d__law_prime (K.uf d__law_is_prime n_int)) (pp _ _) (K.wa d__law_other_paper (dw _ _) (lp _ _) n_any) (K.qU d__law_numbers (dw _ _) (fa _ _) (lp _ _)) (K.A3 d__law_due_power (lp _ _) (K.A2 d__law_digits) (K.pe d__law_primes_of) n_tuple n_len) (shw _ _) (wh _ _) n_range
 case S=>exact fun K H a ns hl hO hS=>⟨a,ns,rfl,hS,hl,fun _=>rfl⟩
 case C=>exact fun _ _ _ _ z=>z
