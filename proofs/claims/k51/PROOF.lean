import PyProof.Rows.All
import Wide.All
import OpenK.AllK
import Wide.FinOn
import Lean
import PyProof.EqAt
import PyProof.EqKinds
import PyProof.TupleCall
import KE.KRevSl
import PyProof.NeData
import PyProof.P3Eq
import PyProof.Rows.Range3
import PyProof.EnumMake
import PyProof.Draws
import PyProof.ZipIter
import KE.KDictList
import KE.KDictSum
import PyProof.WalkInts
import PyProof.Rows.SeqCalls
import PyProof.Rows.SortShell
import PySem.Challenge.RW_rootprime_k51_roots_of_great_primes
set_option Elab.async false
local macro_rules | `(tactic| omega) => `(tactic| lia)
set_option linter.all false
set_option maxRecDepth 100000
namespace L2
open PySem PySem.Spec PyProof.Rows
abbrev Key:=Sum Int Str
def lY:Key→Value→Bool
 | .inl k,v=>Value.isInt k v
 | .inr x,v=>Value.isStrOf x v
def De (w:World):Key→Int
 | .inl k=>hashInt k
 | .inr x=>hashStr w x
theorem bE:∀{k:Key} {v:Value},lY k v=true→(∃ i t,k=Sum.inl i∧v=Value.int i t)∨(∃ x t,k=Sum.inr x∧v=Value.str x t)
 | .inl i,v,h=>by
  obtain⟨t,e⟩:=Value.isInt_shape (k:=i) (v:=v) h
  exact .inl ⟨i,t,rfl,e⟩
 | .inr x,v,h=>by
  obtain⟨t,e⟩:=Value.isStrOf_shape (x:=x) (v:=v) h
  exact .inr ⟨x,t,rfl,e⟩
theorem uh (i:Int) (t:Tok):lY (.inl i) (.int i t)=true:=by simp [lY,Value.isInt]
theorem ui (x:Str) (t:Tok):lY (.inr x) (.str x t)=true:=by simp [lY,Value.isStrOf]
theorem AY (a b:Int):decide ((Sum.inl a:Key)=Sum.inl b)=(a==b):=by
 by_cases e:a=b
 ·subst e;simp
 ·have h:¬(Sum.inl a:Key)=Sum.inl b:=fun q=>e (Sum.inl.inj q)
  rw [decide_eq_false h]
  exact (beq_eq_false_iff_ne.mpr e).symm
theorem A2 (a b:Str):decide ((Sum.inr a:Key)=Sum.inr b)=decide (a=b):=by
 by_cases e:a=b
 ·subst e;simp
 ·have h:¬(Sum.inr a:Key)=Sum.inr b:=fun q=>e (Sum.inr.inj q)
  rw [decide_eq_false h,decide_eq_false e]
theorem AZ (a:Int) (b:Str):decide ((Sum.inl a:Key)=Sum.inr b)=false:=decide_eq_false (fun q=>nomatch q)
theorem A1 (a:Str) (b:Int):decide ((Sum.inr a:Key)=Sum.inl b)=false:=decide_eq_false (fun q=>nomatch q)
def bF (prog:Program) (w:World):PySem.KeyKind prog w Key where
 is:=lY
 hash:=De w
 inj:=fun v a b ha hb=>by
  rcases bE ha with⟨i,t,rfl,rfl⟩|⟨x,t,rfl,rfl⟩
  ·rcases bE hb with⟨j,u,rfl,e⟩|⟨y,u,rfl,e⟩
   ·injection e with e1 _;rw [e1]
   ·exact nomatch e
  ·rcases bE hb with⟨j,u,rfl,e⟩|⟨y,u,rfl,e⟩
   ·exact nomatch e
   ·injection e with e1 _;rw [e1]
 byValue:=fun k v h=>by
  rcases bE h with⟨i,t,rfl,rfl⟩|⟨x,t,rfl,rfl⟩<;>rfl
 pyHash:=fun hv h=>by
  rcases bE hv with⟨i,t,rfl,rfl⟩|⟨x,t,rfl,rfl⟩
  ·exact wpAny_pyHash_int h
  ·exact wpAny_pyHash_str h
 eqBool:=fun hu hv h=>by
  rcases bE hu with⟨i,t,rfl,rfl⟩|⟨x,t,rfl,rfl⟩
  ·rcases bE hv with⟨j,u,rfl,rfl⟩|⟨y,u,rfl,rfl⟩
   ·rw [AY] at h;exact wpAny_eqBool_int h
   ·rw [AZ] at h;exact SeqAt.EqAt.int_str i t y u _ _ _ _ h
  ·rcases bE hv with⟨j,u,rfl,rfl⟩|⟨y,u,rfl,rfl⟩
   ·rw [A1] at h;exact SeqAt.EqAt.str_int x t j u _ _ _ _ h
   ·rw [A2] at h;exact wpAny_eqBool_str h
 «strs»:=fun k x t v h=>by
  rcases bE h with⟨i,u,rfl,e⟩|⟨y,u,rfl,e⟩
  ·exact nomatch e
  ·injection e with e1 _
   subst e1
   cases v<;>rfl
theorem pe (prog:Program) (w:World) (i:Int) (t:Tok):(bF prog w).is (.inl i) (.int i t)=true:=uh i t
theorem pf (prog:Program) (w:World) (x:Str) (t:Tok):(bF prog w).is (.inr x) (.str x t)=true:=ui x t
end L2
namespace L2
open PySem PySem.Spec PyProof.Rows
inductive V where
 | non | bl (b:Bool) | int (i:Int) | str (x:Str) | byt (b:Array UInt8) | flt (b:UInt64) | ref (a:Addr) | ty (n:String)
 deriving DecidableEq
def RelV:V→Value→Prop
 | .non,u=>u=Value.none
 | .bl b,u=>u=Value.bool b
 | .int i,u=>∃ t,u=Value.int i t
 | .str x,u=>∃ t,u=Value.str x t
 | .byt b,u=>∃ t,u=Value.bytes b t
 | .flt b,u=>∃ t,u=Value.float b t
 | .ref a,u=>u=Value.ref a
 | .ty n,u=>u=Value.type n
abbrev Vals:List V→List Value→Prop:=Paired RelV
theorem Vals.length {xs:List V} {us:List Value} (r:Vals xs us):xs.length=us.length:=Paired.length r
theorem Vals.get:∀{xs:List V} {us:List Value} {i:Nat} {x:V},Vals xs us→xs[i]?=some x→∃ u,us[i]?=some u∧RelV x u
 | _,_,_,_,.nil,e=>by simp at e
 | _,_,0,_,.cons r _,e=>by simp at e;subst e;exact⟨_,rfl,r⟩
 | _,_,i+1,x,.cons _ t,e=>by
  obtain⟨u,h1,h2⟩:=Vals.get (i:=i) (x:=x) t (by simpa using e)
  exact⟨u,by simpa using h1,h2⟩
theorem Vals.append:∀{xs ys:List V} {us ws:List Value},Vals xs us→Vals ys ws→Vals (xs++ys) (us++ws)
 | _,_,_,_,.nil,s=>s
 | _,_,_,_,.cons r t,s=>.cons r (Vals.append t s)
theorem Vals.take:∀{xs:List V} {us:List Value} (n:Nat),Vals xs us→Vals (xs.take n) (us.take n)
 | _,_,0,_=>.nil
 | _,_,_+1,.nil=>.nil
 | _,_,n+1,.cons r t=>.cons r (Vals.take n t)
theorem Vals.drop:∀{xs:List V} {us:List Value} (n:Nat),Vals xs us→Vals (xs.drop n) (us.drop n)
 | _,_,0,r=>r
 | _,_,_+1,.nil=>.nil
 | _,_,n+1,.cons _ t=>Vals.drop n t
def fC:Option V→Option Value→Prop
 | some v,some u=>RelV v u
 | none,none=>True
 | _,_=>False
def KV {κ:Type}:List (κ × V)→List (κ × Value)→Prop:=Paired fun(p:κ × V) (q:κ × Value)=>p.1=q.1∧RelV p.2 q.2
def kV:Key→V
 | .inl i=>.int i
 | .inr x=>.str x
inductive HO where
  | lst (xs:List V)
  | tup (xs:List V)
  | dK (kvs:List (Key × V)) | dT (kvs:List (List Key × V))
  | set (S:Int→Bool) (n:Nat)
  | ins (C dx:Addr) (fs:List (Str × V))
  | own (x:Addr)
  | xd (fs:List (Str × V))
  | met (f x:Addr)
  | rng (lo hi:Int)
  | frz (o:Obj) (u:HO)
  | tbl (ps:Array Value)
  | ext (φ:Heap→Prop)
abbrev Hp:=Addr→Option HO
def upd (H:Hp) (a:Addr) (o:HO):Hp:=fun b=>if b=a then some o else H b
theorem ag {H:Hp} {a:Addr} {o:HO}:upd H a o a=some o:=by unfold upd;rw [if_pos rfl]
theorem au {H:Hp} {a b:Addr} {o:HO} (h:b≠a):upd H a o b=H b:=by unfold upd;rw [if_neg h]
theorem tL {H:Hp} {a:Addr} {o u:HO}:upd (upd H a o) a u=upd H a u:=by
 funext b;unfold upd;split<;>rfl
theorem gH {H:Hp} {a b:Addr} {o u:HO} (h:H a=some o) (h':H b=some u) (d:o≠u):a≠b:=by
 intro e;subst e;rw [h] at h';exact d (Option.some.inj h')
theorem a9 {H:Hp} {a b:Addr} {o:HO} (h:H a=some o) (h':H b=none):a≠b:=by
 intro e;subst e;rw [h] at h';cases h'
section
variable (P:Program) (w:World)
def br (H:Hp) (h:Heap) (a:Addr):HO→Prop
 | .lst xs=>xs.length≤sizeLine∧∃(its:List Value) (n:Nat),Vals xs its∧h.get? a=some { cls:=.type "list",data:=.seq its.toArray n }
 | .tup xs=>xs.length≤sizeLine∧∃ its:List Value,Vals xs its∧IsTup h a its.toArray
 | .dK kvs=>kvs.length≤sizeLine∧(a==sysModules)=false∧∃ vs,KV kvs vs∧h.DictOf (bF P w) a vs
 | .dT kvs=>kvs.length≤sizeLine∧(a==sysModules)=false∧∃ xs:List (List Key × Addr × Value),
   Paired (fun(p:List Key × V) (q:List Key × Addr × Value)=>p.1=q.1∧H q.2.1=some (.tup (p.1.map kV))∧RelV p.2 q.2.2) kvs xs ∧
   ∃ o es ep,h.get? a=some o∧o.ExactDict∧o.data=.dict es ep∧es.toList=xs.map (entryOfKey (tupleKind (bF P w)))∧(xs.map (·.1)).Nodup
 | .set S n=>h.SetOf (intKind P w) a S n
 | .ins C dx fs=>H dx=some (.own a)∧fs.length≤1000∧dx≠a∧h.get? a=some (PySem.W.instObj C dx) ∧
   ∃ mA,h.Ns1 dx mA∧(∀ f,fC (fs.lookup f) (mA f))∧PySem.Within mA (fs.map (·.1))
 | .own _=>∃ o,h.get? a=some o
 | .xd fs=>∃ mA,h.Ns1 a mA∧∀ f,fC (fs.lookup f) (mA f)
 | .rng lo hi=>∃ t u v,h.get? a=some { cls:=.type "range",data:=.fields #[.int lo t,.int hi u,.int 1 v] }
 | .frz o u=>h.get? a=some o∧br H h a u
 | .tbl ps=>h.get? a=some { cls:=.none,data:=.fields ps }
 | .met f x=>h.get? a=some (PySem.W.methodObj (.ref f) (.ref x))
 | .ext φ=>φ h∧(∃ o,h.get? a=some o)∧∀ h1 h2:Heap,φ h1→(∀ o,h1.get? a=some o→h2.get? a=some o)→φ h2
def fG (H:Hp) (h:Heap):Prop:=∀ a o,H a=some o→br P w H h a o
end
section
variable {P:Program} {w:World} {H H':Hp} {h h':Heap} {a:Addr} {o:HO}
theorem br.lt (x:br P w H h a o):a<h.objs.size:=by
 cases o with
 | lst xs=>obtain⟨_,_,_,_,e⟩:=x;exact Heap.lt_size e
 | tup xs=>obtain⟨_,_,_,p⟩:=x;exact p.lt
 | dK kvs=>obtain⟨_,_,_,_,o,_,_,e,_⟩:=x;exact Heap.lt_size e
 | dT kvs=>obtain⟨_,_,_,_,o,_,_,e,_⟩:=x;exact Heap.lt_size e
 | set S n=>obtain⟨o,_,_,_,e,_⟩:=x;exact Heap.lt_size e
 | ins C dx fs=>obtain⟨_,_,_,e,_⟩:=x;exact Heap.lt_size e
 | own y=>obtain⟨_,e⟩:=x;exact Heap.lt_size e
 | xd fs=>obtain⟨_,⟨_,_,_,e,_⟩,_⟩:=x;exact Heap.lt_size e
 | rng lo hi=>obtain⟨_,_,_,e⟩:=x;exact Heap.lt_size e
 | frz ob u=>obtain⟨e,_⟩:=x;exact Heap.lt_size e
 | tbl ps=>exact Heap.lt_size (show h.get? a=some _ from x)
 | met f y=>exact Heap.lt_size (show h.get? a=some _ from x)
 | ext φ=>obtain⟨_,⟨_,e⟩,_⟩:=x;exact Heap.lt_size e
theorem Paired.A6 {α β:Type} {F G:α→β→Prop}:∀{l₁:List α} {l₂:List β},Paired F l₁ l₂→(∀ a b,F a b→G a b)→Paired G l₁ l₂
 | _,_,.nil,_=>.nil
 | _,_,.cons r t,f=>.cons (f _ _ r) (Paired.A6 t f)
theorem br.gE (x:br P w H h a o) (k:∀ b u,(b=a∨H b=some (.own a))→h.get? b=some u→h'.get? b=some u)
  (ho:∀ b,H b=some (.own a)→H' b=some (.own a)) (ht:∀ b xs,H b=some (.tup xs)→H' b=some (.tup xs)):br P w H' h' a o:=by
 induction o with
 | lst xs=>obtain⟨z,its,n,r,e⟩:=x;exact⟨z,its,n,r,k _ _ (.inl rfl) e⟩
 | tup xs=>obtain⟨z,its,r,ob,e,c⟩:=x;exact⟨z,its,r,ob,k _ _ (.inl rfl) e,c⟩
 | dK kvs=>obtain⟨z,y,vs,r,ob,es,ep,e,c⟩:=x;exact⟨z,y,vs,r,ob,es,ep,k _ _ (.inl rfl) e,c⟩
 | dT kvs =>
  obtain⟨z,y,xs,r,ob,es,ep,e,c⟩:=x
  exact⟨z,y,xs,Paired.A6 r fun p q z=>⟨z.1,ht _ _ z.2.1,z.2.2⟩,ob,es,ep,k _ _ (.inl rfl) e,c⟩
 | set S n=>obtain⟨ob,es,ep,t,e,c⟩:=x;exact⟨ob,es,ep,t,k _ _ (.inl rfl) e,c⟩
 | ins C dx fs =>
  obtain⟨d,z,ne,e,mA,⟨od,es,ep,e2,c⟩,r⟩:=x
  exact⟨ho _ d,z,ne,k _ _ (.inl rfl) e,mA,⟨od,es,ep,k _ _ (.inr d) e2,c⟩,r⟩
 | own y=>obtain⟨ob,e⟩:=x;exact⟨ob,k _ _ (.inl rfl) e⟩
 | xd fs=>obtain⟨mA,⟨od,es,ep,e,c⟩,r⟩:=x;exact⟨mA,⟨od,es,ep,k _ _ (.inl rfl) e,c⟩,r⟩
 | rng lo hi=>obtain⟨t,u,v,e⟩:=x;exact⟨t,u,v,k _ _ (.inl rfl) e⟩
 | frz ob u ih=>obtain⟨e,q⟩:=x;exact⟨k _ _ (.inl rfl) e,ih q⟩
 | tbl ps =>
  have e:h.get? a=some { cls:=.none,data:=.fields ps }:=x
  show h'.get? a=some { cls:=.none,data:=.fields ps }
  exact k a _ (.inl rfl) e
 | met f y =>
  have e:h.get? a=some (PySem.W.methodObj (.ref f) (.ref y)):=x
  show h'.get? a=some (PySem.W.methodObj (.ref f) (.ref y))
  exact k a _ (.inl rfl) e
 | ext φ=>obtain⟨p,⟨o,e⟩,st⟩:=x;exact⟨st _ _ p fun o q=>k _ _ (.inl rfl) q,⟨o,k _ _ (.inl rfl) e⟩,st⟩
theorem fG.lt (x:fG P w H h) (e:H a=some o):a<h.objs.size:=(x a o e).lt
theorem fG.fresh (x:fG P w H h) (e:h.objs.size≤a):H a=none:=by
 cases q:H a with
 | none=>rfl
 | some u=>exact absurd (Nat.lt_of_lt_of_le (x.lt q) e) (Nat.lt_irrefl _)
theorem fG.kept (x:fG P w H h) (k:∀ b u,h.get? b=some u→h'.get? b=some u):fG P w H h':=fun a o e =>
 (x a o e).gE (fun b u _ q=>k b u q) (fun _ q=>q) fun _ _ q=>q
theorem fG.laid (x:fG P w H h) (k:∀ b u,h.get? b=some u→h'.get? b=some u) (hp:h.objs.size≤a) (new:br P w (upd H a o) h' a o):fG P w (upd H a o) h':=fun b u e=>by
 have hn:=x.fresh hp
 by_cases hb:b=a
 ·subst hb;rw [ag] at e;cases e;exact new
 ·rw [au hb] at e
  exact (x b u e).gE (fun c v _ q=>k c v q) (fun c q=>by rw [au (a9 q hn)];exact q) fun c xs q=>by rw [au (a9 q hn)];exact q
end
def Rd (H:Hp) (a:Addr) (u:HO):Prop:=H a=some u∨∃ o,H a=some (.frz o u)
theorem Rd.ok {P:Program} {w:World} {H:Hp} {h:Heap} {a:Addr} {u:HO} (r:Rd H a u) (x:fG P w H h):br P w H h a u:=by
 rcases r with r | ⟨o,r⟩
 ·exact x a u r
 ·obtain⟨_,q⟩:=x a _ r
  exact q
def B4:Option HO→Prop
 | some (.lst _)=>True
 | some (.dK _)=>True
 | some (.dT _)=>True
 | some (.set _ _)=>True
 | some (.ins _ _ _)=>True
 | some (.ext _)=>True
 | _=>False
section
variable {P:Program} {w:World} {H:Hp} {h h':Heap} {x e:Addr} {o':HO}
theorem fG.write (ok:fG P w H h) (mu:B4 (H x)) (he:e=x∨H e=some (.own x)) (k:∀ b u,b≠e→h.get? b=some u→h'.get? b=some u) (heo:∃ u,h'.get? e=some u)
  (new:br P w (upd H x o') h' x o'):fG P w (upd H x o') h':=fun b u q=>by
 have nown:∀ c y,H c=some (.own y)→c≠x:=fun c y r z=>by subst z;rw [r] at mu;exact mu
 have ntup:∀ c xs,H c=some (.tup xs)→c≠x:=fun c xs r z=>by subst z;rw [r] at mu;exact mu
 by_cases hb:b=x
 ·subst hb;rw [ag] at q;cases q;exact new
 ·rw [au hb] at q
  by_cases hbe:b=e
  ·have q':H b=some (.own x):=by
    rcases he with z | z
    ·exact absurd (hbe.trans z) hb
    ·rw [hbe];exact z
   rw [q] at q';cases q'
   obtain⟨v,hv⟩:=heo
   exact⟨v,by rw [hbe];exact hv⟩
  ·refine (ok b u q).gE (fun c v hc r=>k c v ?_ r) (fun c r=>by rw [au (nown c b r)];exact r) fun c xs r=>by rw [au (ntup c xs r)];exact r
   rcases hc with rfl | hc
   ·exact hbe
   ·rintro rfl
    rcases he with z | z
    ·exact nown c b hc z
    ·rw [hc] at z;cases z;exact hb rfl
end
structure Un (fs ex:List Addr) (H H':Hp) (h h':Heap):Prop where
 keep:∀ b o,h.get? b=some o→H b=none→b∉fs→b∉ex→h'.get? b=some o
 slot:∀ b o,h.get? b=some o→H b=none→b∈fs→b∉ex→∃ sl,h'.get? b=some { o with slots:=sl }
 free:∀ b o,h.get? b=some o→H b=none→b∉ex→H' b=none
 there:∀ b o,h.get? b=some o→b∉ex→∃ o',h'.get? b=some o'
 tups:∀ b xs,H b=some (.tup xs)→H' b=some (.tup xs)
 frzs:∀ b o u,H b=some (.frz o u)→H' b=some (.frz o u)
 tbls:∀ b ps,H b=some (.tbl ps)→∃ more,H' b=some (.tbl (ps++more))
section
variable {fs fs' ex ex':List Addr} {H H1 H2:Hp} {h h1 h2 h':Heap} {a x e:Addr} {o:HO}
theorem Un.any (u:Un fs ex H H1 h h1) {b:Addr} {ob:Obj} (q:h.get? b=some ob) (n:H b=none) (hx:b∉ex):∃ sl,h1.get? b=some { ob with slots:=sl }:=by
 by_cases hb:b∈fs
 ·exact u.slot b ob q n hb hx
 ·exact⟨ob.slots,u.keep b ob q n hb hx⟩
theorem Un.kept (k:∀ b u,h.get? b=some u→h'.get? b=some u):Un fs ex H H h h' :=
 ⟨fun b ob q _ _ _=>k b ob q,fun b ob q _ _ _=>⟨ob.slots,k b ob q⟩,fun _ _ _ n _=>n,fun b ob q _=>⟨ob,k b ob q⟩,fun _ _ q=>q,fun _ _ _ q=>q,fun _ ps q=>⟨#[],by rw [q];simp⟩⟩
theorem Un.refl:Un fs ex H H h h:=Un.kept fun _ _ q=>q
theorem Un.laid (k:∀ b u,h.get? b=some u→h'.get? b=some u) (hp:h.objs.size≤a) (hn:H a=none):Un fs ex H (upd H a o) h h' where
 keep:=fun b u q _ _ _=>k b u q
 slot:=fun b u q _ _ _=>⟨u.slots,k b u q⟩
 free:=fun b u q n _=>by rw [au (Nat.ne_of_lt (Nat.lt_of_lt_of_le (Heap.lt_size q) hp))];exact n
 there:=fun b u q _=>⟨u,k b u q⟩
 tups:=fun b xs q=>by rw [au (a9 q hn)];exact q
 frzs:=fun b u xs q=>by rw [au (a9 q hn)];exact q
 tbls:=fun b ps q=>⟨#[],by rw [au (a9 q hn),q];simp⟩
theorem Un.write (mu:B4 (H x)) (he:e=x∨H e=some (.own x)) (k:∀ b u,b≠e→h.get? b=some u→h'.get? b=some u) (heo:∃ u,h'.get? e=some u):Un fs ex H (upd H x o) h h':=by
 have hx:∀ b,H b=none→b≠x:=fun b n z=>by subst z;rw [n] at mu;exact mu
 have hb:∀ b,H b=none→b≠e:=fun b n z=>by
  subst z
  rcases he with r | r
  ·exact hx b n r
  ·rw [n] at r;cases r
 have hm:∀ b u,H b=some u→¬B4 (some u)→b≠x:=fun b u q nm z=>by subst z;rw [q] at mu;exact nm mu
 refine⟨fun b u q n _ _=>k b u (hb b n) q,fun b u q n _ _=>⟨u.slots,k b u (hb b n) q⟩,fun b u q n _=>by rw [au (hx b n)];exact n,fun b u q _=>?_,
  fun b xs q=>by rw [au (hm b _ q fun z=>z)];exact q,fun b u xs q=>by rw [au (hm b _ q fun z=>z)];exact q,fun b ps q=>⟨#[],by rw [au (hm b _ q fun z=>z),q];simp⟩⟩
 by_cases hbe:b=e
 ·subst hbe;exact heo
 ·exact⟨u,k b u hbe q⟩
end
def CS (h:Heap) (H:Hp):List Addr:=(List.range h.objs.size).filter fun a=>(H a).isSome
def mV (h:Heap) (H:Hp):Heap:=PySem.W.hideAll h (CS h H)
theorem ud (h:Heap) (H:Hp):(mV h H).objs.size=h.objs.size:=PySem.W.hideAll_size _ _
theorem vS {h:Heap} {H:Hp} {b:Addr} {o:Obj} (e:h.get? b=some o) (n:H b=none):(mV h H).get? b=some o :=
 PySem.W.hideAll_get _ e fun hm=>by
  have q:(H b).isSome=true:=(List.mem_filter.mp hm).2
  rw [n] at q;simp at q
theorem yW {h:Heap} {H:Hp} {b:Addr} {o:Obj} (e:(mV h H).get? b=some o):h.get? b=some o∧H b=none:=by
 have e':h.get? b=some o:=PySem.W.of_hideAll (CS h H) e
 refine⟨e',?_⟩
 cases q:H b with
 | none=>rfl
 | some x =>
  have hm:b∈CS h H:=List.mem_filter.mpr ⟨List.mem_range.mpr (Heap.lt_size e'),by simp [q]⟩
  have z:(mV h H).get? b=none:=PySem.W.hideAll_none (CS h H) hm
  rw [z] at e;cases e
def yy (g h:Heap) (L:Addr):List (Addr × Obj):=(List.range h.objs.size).filterMap fun a=>if a=L∨(g.get? a).isSome=true then none else (h.get? a).map fun o=>(a,o)
def rest (g h:Heap) (L d:Addr):List (Addr × Obj):=(yy g h L).filter fun p=>decide (p.1≠d)
end L2
namespace L2
open PySem PySem.Spec PyProof.Rows
structure Mod (K:PySem.W.Frag) (mg:Str→Option Value) (base:Heap):Prop where
 kin:K.In base
 glob:base.Ns mainGlobals mg
 blt:∃ mb,base.Ns builtinsNs mb∧∀ x:Str,x ≠ "__name__"→mb x=bootBuiltins x
 nolimit:base.NoLimit
structure Cx where
 prog:Program
 w:World
 K:PySem.W.Frag
 mg:Str→Option Value
 base:Heap
 A:Around
 N:List Str
 s₀:Shared
 H₀:Hp
 env:Env
 outer:List Env
 stack:List Env
 ex:List Addr
 fn:Str→Bool
 calm:Bool
 pn:List (Addr × Obj)
 xe:Value→Shared→Prop
def gD (l:List Env):List Addr:=l.filterMap (·.frame)
abbrev Cx.fs (X:Cx):List Addr:=gD X.outer
def BS (sc:Scope) (x:Str):Prop:=sc.names.lookup x=some .local∨sc.names.lookup x=some .cell∨sc.names.lookup x=some .free
def Loc (sc:Scope) (x:Str):Prop:=sc.names.lookup x=some .local∨sc.names.lookup x=some .cell
def Look (env:Env) (h:Heap) (m:Str→Option Value) (x:Str) (u:Value):Prop :=
 (env.kindOf x=some .local∧m x=some u)∨((env.kindOf x=some .cell∨env.kindOf x=some .free)∧∃ c,env.cells.lookup x=some c∧h.IsCell c (some u))
structure Cx.Ok (X:Cx):Prop where
 mod:Mod X.K X.mg X.base
 kind:X.env.scope.kind=.function
 glob:X.env.globals=mainGlobals
 blt:X.env.builtins=builtinsNs
 above:X.s₀.heap.objs.size≤X.env.locals
 inj:∀ x y c,X.env.cells.lookup x=some c→X.env.cells.lookup y=some c→x=y
 has:∀ x,(X.env.kindOf x=some .cell∨X.env.kindOf x=some .free)→∃ c,X.env.cells.lookup x=some c
 cab:∀ x c,X.fn x=true→X.env.cells.lookup x=some c→X.s₀.heap.objs.size≤c
 hd:X.calm=true→X.A.handled=none
 frames:X.A.frames=some X.stack
 stk:X.stack=X.outer∨(X.stack=X.env::X.outer∧X.env.frame=some X.env.locals)
 exf:∀ b∈X.ex,b≠X.env.locals∧∀ x c,X.env.cells.lookup x=some c→c≠b
 bs:∀ b o,X.base.get? b=some o→X.s₀.heap.get? b=some o∧X.H₀ b=none
 bsz:X.base.objs.size≤X.s₀.heap.objs.size
 noex:∀ b o,X.base.get? b=some o→b∉X.ex
 exfs:∀ b∈X.ex,b∉X.fs
 jz:X.s₀.heap.FunFrames X.base X.outer
 frf:∀ b∈X.fs,X.H₀ b=none
structure Inv (X:Cx) (pins:List (Addr × Obj)) (σ:List (Option V)) (H:Hp) (s:Shared):Prop where
 ok:X.Ok
 os:s.os=X.s₀.os
 bare:AllBare s.gens
 base:Un X.fs X.ex X.H₀ H X.s₀.heap s.heap
 loc:∃ m,s.heap.Ns X.env.locals m∧∀(i:Nat) (x:Str) (v:V),X.N[i]?=some x→σ[i]?=some (some v)→BS X.env.scope x→∃ u,RelV v u∧Look X.env s.heap m x u
 cell:∀ x c,X.env.cells.lookup x=some c→∃ v,s.heap.IsCell c v
 free:H X.env.locals=none
 freeC:∀ x c,X.env.cells.lookup x=some c→H c=none
 pin:∀ p∈X.pn++pins,s.heap.get? p.1=some p.2∧H p.1=none∧p.1≠X.env.locals∧p.1∉X.fs∧∀ v,p.2.data≠.cell v
 hok:fG X.prog X.w H s.heap
 len:σ.length=X.N.length
section
variable {X:Cx} {pins:List (Addr × Obj)} {σ:List (Option V)} {H H':Hp} {s:Shared} {h':Heap}
theorem Cx.Ok.Dk (ok:X.Ok) {b:Addr} {o:Obj} (e:X.base.get? b=some o):b∉X.fs:=fun hb=>by
 have:=(ok.jz.mem hb).1
 rw [e] at this;cases this
theorem Inv.bs (I:Inv X pins σ H s):∀ b o,X.base.get? b=some o→s.heap.get? b=some o∧H b=none:=fun b o e =>
 ⟨I.base.keep b o (I.ok.bs b o e).1 (I.ok.bs b o e).2 (I.ok.Dk e) (I.ok.noex b o e),I.base.free b o (I.ok.bs b o e).1 (I.ok.bs b o e).2 (I.ok.noex b o e)⟩
theorem Inv.bk (I:Inv X pins σ H s):∀ b o,X.base.get? b=some o→s.heap.get? b=some o:=fun b o e=>(I.bs b o e).1
theorem Inv.mod (I:Inv X pins σ H s):Mod X.K X.mg X.base:=I.ok.mod
theorem Inv.fF (I:Inv X pins σ H s):X.K.In s.heap:=I.ok.mod.kin.keeps I.bk
theorem Inv.fr (I:Inv X pins σ H s):∃ m,Fr X.base X.env.locals s.heap m :=
 let ⟨m,hn,_⟩:=I.loc
 ⟨m,hn,I.bk,Nat.le_trans I.ok.bsz I.ok.above⟩
theorem Inv.lt (I:Inv X pins σ H s):X.env.locals<s.heap.objs.size:=let ⟨_,hn,_⟩:=I.loc;hn.lt
theorem Inv.sz (I:Inv X pins σ H s):X.s₀.heap.objs.size≤s.heap.objs.size:=Nat.le_trans I.ok.above (Nat.le_of_lt I.lt)
theorem Inv.yT (I:Inv X pins σ H s) {a:Addr} (h:s.heap.objs.size≤a):a∉X.fs:=fun hb=>by
 obtain⟨_,o,ho,_⟩:=I.ok.jz.mem hb
 exact absurd (Nat.lt_of_lt_of_le (Heap.lt_size ho) (Nat.le_trans I.sz h)) (Nat.lt_irrefl _)
theorem Inv.AK (I:Inv X pins σ H s):∀ x c,X.env.cells.lookup x=some c→c≠X.env.locals:=fun x c e z=>by
 obtain⟨v,o,ho,hd⟩:=I.cell x c e
 obtain⟨m,⟨o',es,ep,ho',hd',_⟩,_⟩:=I.loc
 rw [z,ho'] at ho;cases ho;rw [hd'] at hd;cases hd
theorem Inv.jz (I:Inv X pins σ H s):s.heap.FunFrames X.base X.outer:=by
 have all:∀(l:List Env),(∀ b∈gD l,b∈X.fs)→X.s₀.heap.FunFrames X.base l→s.heap.FunFrames X.base l:=by
  intro l
  induction l with
  | nil=>intro _ _;trivial
  | cons env r ih =>
   intro hs hl
   obtain⟨hk,⟨L,o,hf,hn,ho,hd⟩,hr⟩:=hl
   have hL:L∈X.fs:=hs L (by unfold gD;rw [List.filterMap_cons,hf];exact List.mem_cons_self)
   obtain⟨sl,e⟩:=I.base.slot L o ho (I.ok.frf L hL) hL fun z=>I.ok.exfs L z hL
   exact⟨hk,⟨L,_,hf,hn,e,hd⟩,ih (fun b hb=>hs b (by unfold gD;rw [List.filterMap_cons,hf];exact List.mem_cons_of_mem _ hb)) hr⟩
 exact all X.outer (fun _ hb=>hb) I.ok.jz
theorem Inv.stack (I:Inv X pins σ H s):s.heap.FunFrames X.base X.stack:=by
 rcases I.ok.stk with e | ⟨e,hf⟩
 ·rw [e];exact I.jz
 ·rw [e]
  obtain⟨m,hn,_⟩:=I.loc
  refine .cons (by rw [I.ok.kind];decide) hf hn ?_ I.jz
  exact Heap.get?_none_of_le (Nat.le_trans I.ok.bsz I.ok.above)
theorem Inv.fY (I:Inv X pins σ H s):∀ b∈gD X.stack,b∈X.env.locals::X.fs:=fun b hb=>by
 rcases I.ok.stk with e | ⟨e,hf⟩
 ·rw [e] at hb;exact List.mem_cons_of_mem _ hb
 ·rw [e] at hb
  unfold gD at hb
  rw [List.filterMap_cons,hf] at hb
  exact hb
theorem Inv.iM (I:Inv X pins σ H s):∀ b∈gD X.stack,H b=none:=fun b hb=>by
 rcases List.mem_cons.mp (I.fY b hb) with e | hb
 ·rw [e];exact I.free
 ·obtain⟨_,o,ho,_⟩:=I.ok.jz.mem hb
  exact I.base.free b o ho (I.ok.frf b hb) fun z=>I.ok.exfs b z hb
theorem Inv.step {g':Array GenState} {t':Nat} {d':Drawn} {ch:List Addr} (I:Inv X pins σ H s)
  (hch:∀ b∈ch,(b∈X.ex∨X.s₀.heap.objs.size≤b)∧b≠X.env.locals∧(∀ x c,X.env.cells.lookup x=some c→c≠b)∧∀ p∈X.pn++pins,p.1≠b)
  (keep:∀ b o,b≠X.env.locals→b∉X.fs→b∉ch→s.heap.get? b=some o→H b=none→h'.get? b=some o)
  (slot:∀ b o,b≠X.env.locals→b∈X.fs→b∉ch→s.heap.get? b=some o→H b=none→∃ sl,h'.get? b=some { o with slots:=sl }) (free:∀ b o,b∉ch→s.heap.get? b=some o→H b=none→H' b=none)
  (there:∀ b o,b∉ch→s.heap.get? b=some o→∃ o',h'.get? b=some o')
  (tups:∀ b xs,H b=some (.tup xs)→H' b=some (.tup xs)) (frzs:∀ b o u,H b=some (.frz o u)→H' b=some (.frz o u)) (tbls:∀ b ps,H b=some (.tbl ps)→∃ more,H' b=some (.tbl (ps++more)))
  (ns:∀ m,s.heap.Ns X.env.locals m→h'.Ns X.env.locals m) (hok:fG X.prog X.w H' h') (hg:AllBare g') :
  Inv X pins σ H' { s with heap:=h',gens:=g',drawn:=d',toks:=t' }:=by
 have neL:∀ b o,X.s₀.heap.get? b=some o→b≠X.env.locals:=fun b o e=>Nat.ne_of_lt (Nat.lt_of_lt_of_le (Heap.lt_size e) I.ok.above)
 have neC:∀ b o,X.s₀.heap.get? b=some o→b∉X.ex→b∉ch:=fun b o e hx hb=>by
  rcases (hch b hb).1 with z | z
  ·exact hx z
  ·exact absurd (Nat.lt_of_lt_of_le (Heap.lt_size e) z) (Nat.lt_irrefl _)
 have cellK:∀ x c,X.env.cells.lookup x=some c→∀ v,s.heap.IsCell c v→h'.IsCell c v:=fun x c e v ⟨o,ho,hd⟩=>by
  have nch:c∉ch:=fun z=>(hch c z).2.2.1 x c e rfl
  by_cases hc:c∈X.fs
  ·obtain⟨sl,q⟩:=slot c o (I.AK x c e) hc nch ho (I.freeC x c e)
   exact⟨_,q,hd⟩
  ·exact⟨o,keep c o (I.AK x c e) hc nch ho (I.freeC x c e),hd⟩
 refine⟨I.ok,I.os,hg,⟨fun b o e n hb hx=>?_,fun b o e n hb hx=>?_,fun b o e n hx=>?_,fun b o e hx=>?_,fun b xs e=>tups b xs (I.base.tups b xs e),fun b o xs e=>frzs b o xs (I.base.frzs b o xs e),fun b ps e=>?_⟩,?_,fun x c e=>?_,?_,fun x c e=>?_,fun p hp=>?_,hok,I.len⟩
 ·exact keep b o (neL b o e) hb (neC b o e hx) (I.base.keep b o e n hb hx) (I.base.free b o e n hx)
 ·obtain⟨sl,e1⟩:=I.base.slot b o e n hb hx
  obtain⟨sl',e2⟩:=slot b _ (neL b o e) hb (neC b o e hx) e1 (I.base.free b o e n hx)
  exact⟨sl',e2⟩
 ·obtain⟨o',e1⟩:=I.base.there b o e hx
  exact free b o' (neC b o e hx) e1 (I.base.free b o e n hx)
 ·obtain⟨o',e1⟩:=I.base.there b o e hx
  exact there b o' (neC b o e hx) e1
 ·obtain⟨m1,e1⟩:=I.base.tbls b ps e
  obtain⟨m2,e2⟩:=tbls b _ e1
  exact⟨m1++m2,by rw [e2,Array.append_assoc]⟩
 ·obtain⟨m,hn,hl⟩:=I.loc
  refine⟨m,ns m hn,fun i x v e1 e2 e3=>?_⟩
  obtain⟨u,r,l⟩:=hl i x v e1 e2 e3
  refine⟨u,r,?_⟩
  rcases l with l | ⟨k,c,e,z⟩
  ·exact .inl l
  ·exact .inr ⟨k,c,e,cellK x c e _ z⟩
 ·obtain⟨v,z⟩:=I.cell x c e
  exact⟨v,cellK x c e v z⟩
 ·obtain⟨m,⟨o,_,_,ho,_⟩,_⟩:=I.loc
  exact free _ o (fun z=>(hch _ z).2.1 rfl) ho I.free
 ·obtain⟨v,o,ho,hd⟩:=I.cell x c e
  exact free c o (fun z=>(hch c z).2.2.1 x c e rfl) ho (I.freeC x c e)
 ·obtain⟨e,n,ne,nf,d⟩:=I.pin p hp
  have nch:p.1∉ch:=fun z=>(hch p.1 z).2.2.2 p hp rfl
  exact⟨keep p.1 p.2 ne nf nch e n,free p.1 p.2 nch e n,ne,nf,d⟩
theorem Inv.un {t':Nat} (I:Inv X pins σ H s) (u:Un X.fs [] H H' s.heap h') (hok:fG X.prog X.w H' h'):Inv X pins σ H' { s with heap:=h',toks:=t' }:=by
 obtain⟨m,⟨o,es,ep,ho,r⟩,_⟩:=id I.loc
 obtain⟨sl,hL⟩:=u.any ho I.free (by simp)
 exact I.step (g':=s.gens) (d':=s.drawn) (ch:=[]) (fun _ z=>nomatch z) (fun b o _ hb _ e n=>u.keep b o e n hb (by simp)) (fun b o _ hb _ e n=>u.slot b o e n hb (by simp)) (fun b o _ e n=>u.free b o e n (by simp)) (fun b o _ e=>u.there b o e (by simp)) u.tups u.frzs u.tbls (fun m' hm=>by
  obtain⟨o',es',ep',ho',r'⟩:=hm
  rw [ho] at ho';cases ho'
  exact⟨_,es',ep',hL,r'⟩) hok I.bare
theorem Inv.call {g':Array GenState} {t':Nat} {d':Drawn} {ch:List Addr} (I:Inv X pins σ H s) (u:Un (gD X.stack) ch H H' s.heap h') (hok:fG X.prog X.w H' h') (hg:AllBare g')
  (hch:∀ b∈ch,(b∈X.ex∨X.s₀.heap.objs.size≤b)∧b≠X.env.locals∧(∀ x c,X.env.cells.lookup x=some c→c≠b)∧∀ p∈X.pn++pins,p.1≠b) :
  Inv X pins σ H' { s with heap:=h',gens:=g',drawn:=d',toks:=t' }:=by
 obtain⟨m,⟨o,es,ep,ho,r⟩,_⟩:=id I.loc
 obtain⟨sl,hL⟩:=u.any ho I.free fun z=>(hch _ z).2.1 rfl
 exact I.step (ch:=ch) hch (fun b o hL hb hc e n=>u.keep b o e n (fun z=>(List.mem_cons.mp (I.fY b z)).elim hL hb) hc) (fun b o _ _ hc e n=>u.any e n hc) (fun b o hc e n=>u.free b o e n hc) (fun b o hc e=>u.there b o e hc) u.tups u.frzs u.tbls (fun m' hm=>by
  obtain⟨o',es',ep',ho',r'⟩:=hm
  rw [ho] at ho';cases ho'
  exact⟨_,es',ep',hL,r'⟩) hok hg
theorem Inv.turned {t':Nat} {it:Addr} (I:Inv X pins σ H s) (k:∀ b o,b≠it→s.heap.get? b=some o→h'.get? b=some o) (hn:H it=none) (hL:it≠X.env.locals)
  (h1:it∈X.ex∨X.s₀.heap.objs.size≤it) (h2:∀ x c,X.env.cells.lookup x=some c→c≠it) (h3:∀ p∈X.pn++pins,p.1≠it):Inv X pins σ H { s with heap:=h',toks:=t' }:=by
 have nit:∀ b u,H b=some u→b≠it:=fun b u e z=>by rw [z,hn] at e;cases e
 refine I.step (g':=s.gens) (d':=s.drawn) (ch:=[it]) (fun b hb=>?_) (fun b o _ _ hc e _=>k b o (fun z=>hc (by simp [z])) e) (fun b o _ _ hc e _=>⟨o.slots,k b o (fun z=>hc (by simp [z])) e⟩) (fun _ _ _ _ n=>n)
  (fun b o hc e=>⟨o,k b o (fun z=>hc (by simp [z])) e⟩) (fun _ _ e=>e) (fun _ _ _ e=>e) (fun b ps e=>⟨#[],by rw [e];simp⟩) (fun m hm=>?_) (fun b u e=>?_) I.bare
 ·have e:b=it:=by simpa using hb
  subst e
  exact⟨h1,hL,h2,h3⟩
 ·obtain⟨o,es,ep,ho,r⟩:=hm
  exact⟨o,es,ep,k _ o (Ne.symm hL) ho,r⟩
 ·refine (I.hok b u e).gE (fun c v hc q=>k c v ?_ q) (fun _ q=>q) fun _ _ q=>q
  rcases hc with z | z
  ·rw [z];exact nit b u e
  ·exact nit c _ z
theorem Inv.tok (I:Inv X pins σ H s) (t:Nat):Inv X pins σ H { s with toks:=t }:=I.un (h':=s.heap) (t':=t) Un.refl I.hok
theorem Inv.kept {t':Nat} (I:Inv X pins σ H s) (k:∀ b u,s.heap.get? b=some u→h'.get? b=some u):Inv X pins σ H { s with heap:=h',toks:=t' }:=I.un (Un.kept k) (I.hok.kept k)
theorem Inv.laid {a:Addr} {o:HO} {t':Nat} (I:Inv X pins σ H s) (k:∀ b u,s.heap.get? b=some u→h'.get? b=some u) (hp:s.heap.objs.size≤a) (new:br X.prog X.w (upd H a o) h' a o) :
  Inv X pins σ (upd H a o) { s with heap:=h',toks:=t' }:=I.un (Un.laid k hp (I.hok.fresh hp)) (I.hok.laid k hp new)
theorem Inv.write {x e:Addr} {o:HO} {t':Nat} (I:Inv X pins σ H s) (mu:B4 (H x)) (he:e=x∨H e=some (.own x)) (k:∀ b u,b≠e→s.heap.get? b=some u→h'.get? b=some u) (heo:∃ u,h'.get? e=some u)
  (new:br X.prog X.w (upd H x o) h' x o):Inv X pins σ (upd H x o) { s with heap:=h',toks:=t' }:=I.un (Un.write mu he k heo) (I.hok.write mu he k heo new)
theorem Inv.weak {σ':List (Option V)} (I:Inv X pins σ H s) (hl:σ'.length=σ.length) (w:∀(i:Nat) v,σ'[i]?=some (some v)→σ[i]?=some (some v)):Inv X pins σ' H s :=
 ⟨I.ok,I.os,I.bare,I.base,let ⟨m,hn,hl'⟩:=I.loc;⟨m,hn,fun i x v e1 e2 e3=>hl' i x v e1 (w i v e2) e3⟩,I.cell,I.free,I.freeC,I.pin,I.hok,hl.trans I.len⟩
theorem Inv.gq {pins':List (Addr × Obj)} (I:Inv X pins σ H s) (h:∀ p∈pins',s.heap.get? p.1=some p.2∧H p.1=none∧p.1≠X.env.locals∧p.1∉X.fs∧∀ v,p.2.data≠.cell v):Inv X pins' σ H s :=
 ⟨I.ok,I.os,I.bare,I.base,I.loc,I.cell,I.free,I.freeC,fun p hp=>(List.mem_append.mp hp).elim (fun z=>I.pin p (List.mem_append_left _ z)) (h p),I.hok,I.len⟩
theorem pA {N:List Str} (hN:N.Nodup) {i j:Nat} {x:Str} (a:N[i]?=some x) (b:N[j]?=some x):i=j:=by
 obtain⟨h1,e1⟩:=List.getElem?_eq_some_iff.mp a
 obtain⟨h2,e2⟩:=List.getElem?_eq_some_iff.mp b
 exact (List.getElem_inj hN).mp (e1.trans e2.symm)
theorem uW {M:Model} {A:Around} {E:Value→Shared→Prop} {i:Nat} {x:Str} {v:V} {u:Value} {Q:Unit→Shared→Prop} (I:Inv X pins σ H s) (hN:X.N.Nodup) (hi:X.N[i]?=some x) (hx:Loc X.env.scope x) (r:RelV v u)
  (h:∀ s',Inv X pins (σ.set i (some v)) H s'→(∃ a,Heap.SameBut a s.heap s'.heap∧(a=X.env.locals∨X.env.cells.lookup x=some a))→Q () s') (hf:X.fn x=true∨X.env.scope.names.lookup x=some .local:=by first | exact .inl rfl | exact .inr rfl | assumption):wpAny M A (storeName X.env x u) Q E s:=by
 obtain⟨m,hn,hl⟩:=id I.loc
 have hcls:(X.env.scope.kind==.class || (X.env.scope.kind==.module && X.env.locals != X.env.globals))=false:=by rw [I.ok.kind];rfl
 have hiσ:i<σ.length:=by rw [I.len];exact (List.getElem?_eq_some_iff.mp hi).1
 have AK:=I.AK
 have tracked:∀{a:Addr} {h':Heap},(∃ o,s.heap.get? a=some o∧H a=none)→Heap.SameBut a s.heap h'→fG X.prog X.w H h':=fun {a h'} ha hs b ob e=>by
  obtain⟨_,_,hfree⟩:=ha
  refine (I.hok b ob e).gE (fun c w' hc q=>(hs.2 c ?_).trans q) (fun _ q=>q) fun _ _ q=>q
  rintro rfl
  rcases hc with rfl | hc
  ·rw [hfree] at e;cases e
  ·rw [hfree] at hc;cases hc
 rcases hx with hk | hk
 ·refine wpAny_storeName_local hk hn (fun h' hn' hs=>?_) hcls
  obtain⟨oL,_,_,hoL,_⟩:=id hn
  refine h _ ⟨I.ok,I.os,I.bare,⟨fun b o e n hb hx=>?_,fun b o e n hb hx=>?_,I.base.free,fun b o e hx=>?_,I.base.tups,I.base.frzs,I.base.tbls⟩,⟨_,hn',fun j y v' e1 e2 e3=>?_⟩,fun y c e=>?_,I.free,I.freeC,fun p hp=>?_,tracked ⟨oL,hoL,I.free⟩ hs,by simpa using I.len⟩ ⟨_,hs,.inl rfl⟩
  ·exact (hs.2 b (Nat.ne_of_lt (Nat.lt_of_lt_of_le (Heap.lt_size e) I.ok.above))).trans (I.base.keep b o e n hb hx)
  ·obtain⟨sl,e1⟩:=I.base.slot b o e n hb hx
   exact⟨sl,(hs.2 b (Nat.ne_of_lt (Nat.lt_of_lt_of_le (Heap.lt_size e) I.ok.above))).trans e1⟩
  ·obtain⟨o',e1⟩:=I.base.there b o e hx
   exact⟨o',(hs.2 b (Nat.ne_of_lt (Nat.lt_of_lt_of_le (Heap.lt_size e) I.ok.above))).trans e1⟩
  ·by_cases hj:j=i
   ·subst hj
    rw [hi] at e1;cases e1
    rw [List.getElem?_set_self hiσ] at e2
    cases e2
    exact⟨u,r,.inl ⟨hk,by simp⟩⟩
   ·rw [List.getElem?_set_ne (Ne.symm hj)] at e2
    obtain⟨u',r',q⟩:=hl j y v' e1 e2 e3
    refine⟨u',r',?_⟩
    rcases q with⟨k,e⟩|⟨k,c,e,z⟩
    ·refine .inl ⟨k,?_⟩
     have:y≠x:=fun e=>hj (pA hN e1 (e▸hi))
     simp [this,e]
    ·exact .inr ⟨k,c,e,z.sameBut hs (AK y c e)⟩
  ·obtain⟨w',z⟩:=I.cell y c e
   exact⟨w',z.sameBut hs (AK y c e)⟩
  ·obtain⟨e,n,ne,nf,d⟩:=I.pin p hp
   exact⟨(hs.2 p.1 ne).trans e,n,ne,nf,d⟩
 ·have hfn:X.fn x=true:=by
   rcases hf with z | z
   ·exact z
   ·rw [z] at hk;cases hk
  obtain⟨c,hc⟩:=I.ok.has x (.inl hk)
  obtain⟨w',z⟩:=I.cell x c hc
  refine wpAny_storeName_cell I.ok.kind hk hc z (fun h' hc' hs=>?_)
  obtain⟨oc,hoc,hocd⟩:=id z
  refine h { s with heap:=h' } ⟨I.ok,I.os,I.bare,⟨fun b o e n hb hx=>?_,fun b o e n hb hx=>?_,I.base.free,fun b o e hx=>?_,I.base.tups,I.base.frzs,I.base.tbls⟩,⟨m,hn.sameBut hs (Ne.symm (AK x c hc)),fun j y v' e1 e2 e3=>?_⟩,fun y c' e=>?_,I.free,I.freeC,fun p hp=>?_,tracked ⟨oc,hoc,I.freeC x c hc⟩ hs,by simpa using I.len⟩ ⟨c,hs,.inr hc⟩
  ·exact (hs.2 b (Nat.ne_of_lt (Nat.lt_of_lt_of_le (Heap.lt_size e) (I.ok.cab x c hfn hc)))).trans (I.base.keep b o e n hb hx)
  ·obtain⟨sl,e1⟩:=I.base.slot b o e n hb hx
   exact⟨sl,(hs.2 b (Nat.ne_of_lt (Nat.lt_of_lt_of_le (Heap.lt_size e) (I.ok.cab x c hfn hc)))).trans e1⟩
  ·obtain⟨o',e1⟩:=I.base.there b o e hx
   exact⟨o',(hs.2 b (Nat.ne_of_lt (Nat.lt_of_lt_of_le (Heap.lt_size e) (I.ok.cab x c hfn hc)))).trans e1⟩
  ·by_cases hj:j=i
   ·subst hj
    rw [hi] at e1;cases e1
    rw [List.getElem?_set_self hiσ] at e2
    cases e2
    exact⟨u,r,.inr ⟨.inl hk,c,hc,hc'⟩⟩
   ·rw [List.getElem?_set_ne (Ne.symm hj)] at e2
    obtain⟨u',r',q⟩:=hl j y v' e1 e2 e3
    refine⟨u',r',?_⟩
    rcases q with q | ⟨k,c',e,z'⟩
    ·exact .inl q
    ·refine .inr ⟨k,c',e,z'.sameBut hs ?_⟩
     rintro rfl
     exact hj (pA hN e1 (I.ok.inj _ _ _ e hc▸hi))
  ·by_cases hcc:c'=c
   ·subst hcc;exact⟨_,hc'⟩
   ·obtain⟨w2,z2⟩:=I.cell y c' e
    exact⟨w2,z2.sameBut hs hcc⟩
  ·obtain⟨e,n,ne,nf,d⟩:=I.pin p hp
   refine⟨(hs.2 p.1 ?_).trans e,n,ne,nf,d⟩
   intro q
   rw [q,hoc] at e
   have q':oc=p.2:=Option.some.inj e
   exact d w' (by rw [← q'];exact hocd)
theorem cO {M:Model} {A:Around} {E:Value→Shared→Prop} {i:Nat} {x:Str} {v:V} {u:Value} {Q:Unit→Shared→Prop} (I:Inv X pins σ H s) (hN:X.N.Nodup) (hi:X.N[i]?=some x) (hx:Loc X.env.scope x) (r:RelV v u)
  (h:∀ s',Inv X pins (σ.set i (some v)) H s'→Q () s') (hf:X.fn x=true∨X.env.scope.names.lookup x=some .local:=by first | exact .inl rfl | exact .inr rfl | assumption):wpAny M A (storeName X.env x u) Q E s :=
 uW I hN hi hx r (fun s' I' _=>h s' I') hf
theorem Inv.B9 {s':Shared} {ch:List Addr} (I:Inv X pins σ H s) (ho:s'.os=s.os) (u:Un (gD X.stack) ch H H' s.heap s'.heap) (hok:fG X.prog X.w H' s'.heap) (hg:AllBare s'.gens)
  (hch:∀ b∈ch,(b∈X.ex∨X.s₀.heap.objs.size≤b)∧b≠X.env.locals∧(∀ x c,X.env.cells.lookup x=some c→c≠b)∧∀ p∈X.pn++pins,p.1≠b):Inv X pins σ H' s':=by
 obtain⟨h',g',d',t',o'⟩:=s'
 have e:o'=s.os:=ho
 subst e
 exact I.call (g':=g') (t':=t') (d':=d') u hok hg hch
end
abbrev XK:=Value→Option Addr→Hp→Prop
abbrev St:=List (Option V)
abbrev VK:=V→Hp→Prop
abbrev TE:=St→Hp→VK→Prop
abbrev TT:=St→Hp→(Bool→Hp→Prop)→Prop
abbrev TA:=St→Hp→(List V→Hp→Prop)→Prop
structure Ends where
 nx:St→Hp→Prop
 rt:VK
 bk:St→Hp→Prop:=fun _ _=>False
 ct:St→Hp→Prop:=fun _ _=>False
abbrev TS:=Ends→St→Hp→Prop
def EP (X:Cx) (pins:List (Addr × Obj)) (σ:St) (Q:VK) (u:Value) (s':Shared):Prop:=∃ v H',Inv X pins σ H' s'∧RelV v u∧Q v H'
def TP (X:Cx) (pins:List (Addr × Obj)) (σ:St) (Q:Bool→Hp→Prop) (b:Bool) (s':Shared):Prop:=∃ H',Inv X pins σ H' s'∧Q b H'
def AP (X:Cx) (pins:List (Addr × Obj)) (σ:St) (Q:List V→Hp→Prop) (us:List Value) (s':Shared):Prop:=∃ vs H',Inv X pins σ H' s'∧Vals vs us∧Q vs H'
def SP (X:Cx) (pins:List (Addr × Obj)) (D:Ends) (f:Flow) (s':Shared):Prop :=
 match f with
 | .next=>∃ σ' H',Inv X pins σ' H' s'∧D.nx σ' H'
 | .brk=>∃ σ' H',Inv X pins σ' H' s'∧D.bk σ' H'
 | .cont=>∃ σ' H',Inv X pins σ' H' s'∧D.ct σ' H'
 | .ret u=>∃ v σ' H',Inv X pins σ' H' s'∧RelV v u∧D.rt v H'
def PE (X:Cx) (e:Expr) (t:TE):Prop :=
 ∀(pins:List (Addr × Obj)) (s:Shared) (σ:St) (H:Hp) (Q:VK),Inv X pins σ H s→t σ H Q→wpAny (model X.prog X.w) X.A (eval e X.env) (EP X pins σ Q) X.xe s
def PT (X:Cx) (e:Expr) (t:TT):Prop :=
 ∀(pins:List (Addr × Obj)) (s:Shared) (σ:St) (H:Hp) (Q:Bool→Hp→Prop),Inv X pins σ H s→t σ H Q→wpAny (model X.prog X.w) X.A (isTrue e X.env (eval e X.env)) (TP X pins σ Q) X.xe s
def PW (X:Cx) (e:Expr) (t:TT):Prop :=
 ∀(whole:Sem Value) (pins:List (Addr × Obj)) (s:Shared) (σ:St) (H:Hp) (Q:Bool→Hp→Prop),Inv X pins σ H s→t σ H Q→wpAny (model X.prog X.w) X.A (isTrue e X.env whole) (TP X pins σ Q) X.xe s
theorem PW.pt {X:Cx} {e:Expr} {t:TT} (h:PW X e t):PT X e t:=h _
def PA (X:Cx) (es:List Expr) (t:TA):Prop :=
 ∀(pos:Pos) (pins:List (Addr × Obj)) (s:Shared) (σ:St) (H:Hp) (Q:List V→Hp→Prop),Inv X pins σ H s→t σ H Q→wpAny (model X.prog X.w) X.A (spliced (backTo pos (starEach es X.env))) (AP X pins σ Q) X.xe s
def PS (X:Cx) (st:Stmt) (t:TS):Prop :=
 ∀(pins:List (Addr × Obj)) (s:Shared) (σ:St) (H:Hp) (D:Ends),Inv X pins σ H s→t D σ H→wpAny (model X.prog X.w) X.A (exec st X.env) (SP X pins D) X.xe s
def gF (X:Cx) (st:List Stmt) (t:TS):Prop :=
 ∀(pins:List (Addr × Obj)) (s:Shared) (σ:St) (H:Hp) (D:Ends),Inv X pins σ H s→t D σ H→wpAny (model X.prog X.w) X.A (execs st X.env) (SP X pins D) X.xe s
theorem bo {α:Type} {t:Sem α} {Q Q':α→Shared→Prop} {M:Model} {A:Around} {E:Value→Shared→Prop} {s:Shared} (h:wpAny M A t Q E s) (hQ:∀ a s,Q a s→Q' a s):wpAny M A t Q' E s:=wpAny_mono h hQ fun _ _ x=>x
end L2
namespace L2
open PySem PySem.Spec PyProof.Rows
section
variable {X:Cx}
theorem bin {a b:Expr} {ta tb:TE} (ha:PE X a ta) (hb:PE X b tb) {pins:List (Addr × Obj)} {s:Shared} {σ:St} {H:Hp} {R:V→V→Hp→Prop} (I:Inv X pins σ H s) (h:ta σ H fun x H1=>tb σ H1 fun y H2=>R x y H2)
  {α:Type} {Q:α→Shared→Prop} {f:Value→Value→Sem α}
  (hf:∀ v u s2 x y H2,Inv X pins σ H2 s2→RelV x v→RelV y u→R x y H2→wpAny (model X.prog X.w) X.A (f v u) Q X.xe s2) :
  wpAny (model X.prog X.w) X.A (eval a X.env) (fun v s₁=>wpAny (model X.prog X.w) X.A (eval b X.env) (fun u s₂=>wpAny (model X.prog X.w) X.A (f v u) Q X.xe s₂) X.xe s₁) X.xe s:=by
 refine bo (ha pins s σ H _ I h) fun v s1 ⟨x,H1,I1,r1,q1⟩=>?_
 refine bo (hb pins s1 σ H1 _ I1 q1) fun u s2 ⟨y,H2,I2,r2,q2⟩=>?_
 exact hf v u s2 x y H2 I2 r1 r2 q2
def uZ (i:Nat):TE:=fun σ H Q=>∃ v,σ[i]?=some (some v)∧Q v H
def tC (v:V):TE:=fun _ H Q=>Q v H
theorem rm {i:Nat} {x:Str} {pos:Pos} (hN:X.N[i]?=some x) (hv:BS X.env.scope x) (hd:(x==("__debug__":Str))=false:=by decide) (hcd:(x==("__classdict__":Str))=false:=by decide):PE X (.Name x pos) (uZ i):=by
 intro pins s σ H Q I h
 obtain⟨v,e,h⟩:=h
 obtain⟨m,hn,hl⟩:=I.loc
 obtain⟨u,r,l⟩:=hl i x v hN e hv
 have fin:EP X pins σ Q u s:=⟨v,H,I,r,h⟩
 rcases l with⟨hk,hm⟩|⟨hk,c,hc,hcell⟩
 ·exact wpAny_Name (wpAny_loadName_local I.ok.kind hk hn hm fin) hd
 ·rcases hk with hk | hk
  ·exact wpAny_Name (wpAny_loadName_cell I.ok.kind hk hc hcell fin) hd
  ·exact wpAny_Name (wpAny_loadName_free I.ok.kind hk hc hcell fin hcd) hd
theorem ah {i j pos}:PE X (.Constant (.int i) j pos) (tC (.int i)):=fun _ _ _ H _ I h=>wpAny_Constant_int ⟨.int i,H,I.tok _,⟨_,rfl⟩,h⟩
theorem jo {b j pos}:PE X (.Constant (.bool b) j pos) (tC (.bl b)):=fun _ _ _ H _ I h=>Constant_bool ⟨.bl b,H,I,rfl,h⟩
theorem gY {j pos}:PE X (.Constant .none j pos) (tC .non):=fun _ _ _ H _ I h=>Constant_none ⟨.non,H,I,rfl,h⟩
theorem bM {x j pos}:PE X (.Constant (.str x) j pos) (tC (.str x)):=fun _ _ _ H _ I h=>Calls.Constant_str ⟨.str x,H,I.tok _,⟨_,rfl⟩,h⟩
def Gl (X:Cx) (x:Str):Prop:=X.env.kindOf x=some .globalImplicit
theorem iw {E:Value→Shared→Prop} {pins:List (Addr × Obj)} {s:Shared} {σ:St} {H:Hp} {x:Str} {u:Value} {pos:Pos} {Q:Value→Shared→Prop} (I:Inv X pins σ H s) (hg:Gl X x) (hm:X.mg x=some u) (h:Q u s)
  (hd:(x==("__debug__":Str))=false:=by decide):wpAny (model X.prog X.w) X.A (eval (.Name x pos) X.env) Q E s :=
 Calls.Name_function_global I.ok.kind hg (Calls.loadGlobal_global (by rw [I.ok.glob];exact I.mod.glob.keeps I.bk) hm h) hd
theorem gU {E:Value→Shared→Prop} {pins:List (Addr × Obj)} {s:Shared} {σ:St} {H:Hp} {x:Str} {u:Value} {pos:Pos} {Q:Value→Shared→Prop} (I:Inv X pins σ H s) (hg:Gl X x) (hm:X.mg x=none) (hv:bootBuiltins x=some u) (h:Q u s)
  (hn:x ≠ "__name__":=by decide) (hd:(x==("__debug__":Str))=false:=by decide):wpAny (model X.prog X.w) X.A (eval (.Name x pos) X.env) Q E s:=by
 obtain⟨mb,h1,h2⟩:=I.mod.blt
 exact Calls.Name_function_global I.ok.kind hg (Calls.loadGlobal_builtin (by rw [I.ok.glob];exact I.mod.glob.keeps I.bk) hm (by rw [I.ok.blt];exact h1.keeps I.bk) ((h2 x hn).trans hv) h) hd
theorem jR {x:Str} {v:V} {u:Value} {pos:Pos} (hg:Gl X x) (hm:X.mg x=some u) (r:RelV v u) (hd:(x==("__debug__":Str))=false:=by decide):PE X (.Name x pos) (tC v) :=
 fun _ _ _ H _ I h=>iw I hg hm ⟨v,H,I,r,h⟩ hd
theorem cn {x:Str} {v:V} {u:Value} {pos:Pos} (hg:Gl X x) (hm:X.mg x=none) (hv:bootBuiltins x=some u) (r:RelV v u) (hn:x ≠ "__name__":=by decide) (hd:(x==("__debug__":Str))=false:=by decide):PE X (.Name x pos) (tC v) :=
 fun _ _ _ H _ I h=>gU I hg hm hv ⟨v,H,I,r,h⟩ hn hd
variable {a b:Expr} {ta tb:TE} {pos:Pos}
def PC (X:Cx) (op:CmpOp) (a b:Expr) (t:TE):Prop :=
 ∀(pins:List (Addr × Obj)) (s:Shared) (σ:St) (H:Hp) (Q:VK),Inv X pins σ H s→t σ H Q →
  wpAny (model X.prog X.w) X.A (eval a X.env) (fun v s₁=>wpAny (model X.prog X.w) X.A (eval b X.env) (fun u s₂=>wpAny (model X.prog X.w) X.A (compareOp op v u) (EP X pins σ Q) X.xe s₂) X.xe s₁) X.xe s
theorem wj (b:Expr) {op:CmpOp} (h:op≠.In) (h2:op≠.NotIn):behindInMarks op b=false:=by
 have e1:(op==CmpOp.In)=false:=by cases op<;>first | rfl | exact absurd rfl h
 have e2:(op==CmpOp.NotIn)=false:=by cases op<;>first | rfl | exact absurd rfl h2
 cases b<;>simp [behindInMarks,e1,e2]
def tB (t:TE):TT:=fun σ H Q=>t σ H fun x H1=>∃ c,x=.bl c∧Q c H1
theorem xh {op:CmpOp} {t:TE} (h:PC X op a b t) (h1:behindInMarks op b=false:=by first | exact wj _ (by decide) (by decide) | rfl):PT X (.Compare a [op] [b] pos) (tB t):=by
 intro pins s σ H Q I hw
 refine wpAny_isTrue_Compare1 (bo (h pins s σ H _ I hw) fun v s1 h1=>bo h1 fun u s2 h2=>bo h2 fun c s3 ⟨x,H1,I1,r1,q1⟩=>?_) h1
 obtain⟨d,rfl,q⟩:=q1
 cases r1
 exact wpAny_truthy_bool ⟨H1,I1,q⟩
variable {tA tB':TT} {rest:List Expr}
def BB (t u:TT):TT:=fun σ H Q=>t σ H fun c H1=>if c=true then u σ H1 Q else Q false H1
def DA (t u:TT):TT:=fun σ H Q=>t σ H fun c H1=>if c=true then Q true H1 else u σ H1 Q
def BG (t:TT):TT:=fun σ H Q=>t σ H fun c H1=>Q (!c) H1
theorem nA (ha:PT X a tA):PW X (.BoolOp .And [a] pos) tA:=by
 intro wh pins s σ H Q I h
 refine isTrue_and (bo (ha pins s σ H Q I h) fun c s1 e=>?_)
 cases c with
 | true=>exact isTrue_and_nil e
 | false=>exact e
theorem gZ (ha:PT X a tA):PW X (.BoolOp .Or [a] pos) tA:=by
 intro wh pins s σ H Q I h
 refine isTrue_or (bo (ha pins s σ H Q I h) fun c s1 e=>?_)
 cases c with
 | false=>exact isTrue_or_nil e
 | true=>exact e
theorem ny (ha:PT X a tA) (hb:PW X (.BoolOp .And (b::rest) pos) tB'):PW X (.BoolOp .And (a::b::rest) pos) (BB tA tB'):=by
 intro wh pins s σ H Q I h
 refine isTrue_and (bo (ha pins s σ H _ I h) fun c s1 ⟨H1,I1,q1⟩=>?_)
 cases c with
 | true=>exact hb wh pins s1 σ H1 Q I1 q1
 | false=>exact⟨H1,I1,q1⟩
theorem dX (ha:PT X a tA) (hb:PW X (.BoolOp .Or (b::rest) pos) tB'):PW X (.BoolOp .Or (a::b::rest) pos) (DA tA tB'):=by
 intro wh pins s σ H Q I h
 refine isTrue_or (bo (ha pins s σ H _ I h) fun c s1 ⟨H1,I1,q1⟩=>?_)
 cases c with
 | true=>exact⟨H1,I1,q1⟩
 | false=>exact hb wh pins s1 σ H1 Q I1 q1
theorem fj (ha:PT X a tA):PT X (.UnaryOp .Not a pos) (BG tA):=by
 intro pins s σ H Q I h
 exact isTrue_not (ha pins s σ H (fun c H1=>Q (!c) H1) I h)
def xT (ta tb:TE):TE:=fun σ H Q=>ta σ H fun x H1=>∃ c,x=.bl c∧if c=true then tb σ H1 Q else Q (.bl false) H1
def CG (ta tb:TE):TE:=fun σ H Q=>ta σ H fun x H1=>∃ c,x=.bl c∧if c=true then Q (.bl true) H1 else tb σ H1 Q
def xZ (ta:TE):TE:=fun σ H Q=>ta σ H fun x H1=>∃ c,x=.bl c∧Q (.bl (!c)) H1
theorem nj {op} {t:TE} (h:PE X a t):PE X (.BoolOp op [a] pos) t:=fun pins s σ H Q I hw=>BoolOp_one (h pins s σ H Q I hw)
theorem ni (ha:PE X a ta) (hb:PE X (.BoolOp .And (b::rest) pos) tb):PE X (.BoolOp .And (a::b::rest) pos) (xT ta tb):=by
 intro pins s σ H Q I h
 refine BoolOp_and (bo (ha pins s σ H _ I h) fun v s1 ⟨x,H1,I1,r1,q1⟩=>?_)
 obtain⟨c,rfl,q1⟩:=q1
 cases r1
 refine wpAny_truthy_bool ?_
 cases c with
 | true=>exact hb pins s1 σ H1 Q I1 q1
 | false=>exact⟨.bl false,H1,I1,rfl,q1⟩
theorem wV (ha:PE X a ta):PE X (.UnaryOp .Not a pos) (xZ ta):=by
 intro pins s σ H Q I h
 refine UnaryOp_ (bo (ha pins s σ H _ I h) fun v s1 ⟨x,H1,I1,r1,q1⟩=>?_)
 obtain⟨c,rfl,q1⟩:=q1
 cases r1
 exact not_of (wpAny_truthy_bool ⟨.bl (!c),H1,I1,rfl,q1⟩)
def Dz (t:TT) (ta tb:TE):TE:=fun σ H Q=>t σ H fun c H1=>if c=true then ta σ H1 Q else tb σ H1 Q
theorem eQ {c:Expr} (hc:PT X c tA) (ha:PE X a ta) (hb:PE X b tb):PE X (.IfExp c a b pos) (Dz tA ta tb):=by
 intro pins s σ H Q I h
 refine wpAny_IfExp (bo (hc pins s σ H _ I h) fun d s1 ⟨H1,I1,q1⟩=>?_)
 cases d with
 | true=>exact ha pins s1 σ H1 Q I1 q1
 | false=>exact hb pins s1 σ H1 Q I1 q1
end
end L2
namespace L2
open PySem PySem.Spec PyProof.Rows
def aZ (K:PySem.W.Frag) (H:Hp) (a:Addr) (xs:List V):Prop :=
 Rd H a (.lst xs) ∨
  ∃(o:Obj) (its:Array Value) (n:Nat),K.lookup a=some o∧o.cls=.type "list"∧o.dict=none∧o.data=.seq its n∧its.size≤sizeLine∧Vals xs its.toList
def bD (K:PySem.W.Frag) (H:Hp) (a:Addr) (xs:List V):Prop :=
 Rd H a (.tup xs) ∨
  ∃(o:Obj) (its:Array Value) (n:Nat),K.lookup a=some o∧o.cls=.type "tuple"∧o.data=.seq its n∧its.size≤sizeLine∧Vals xs its.toList
def C9:Value→Option V
 | .none=>some .non
 | .bool b=>some (.bl b)
 | .int i _=>some (.int i)
 | .str x _=>some (.str x)
 | .bytes b _=>some (.byt b)
 | .float b _=>some (.flt b)
 | .ref a=>some (.ref a)
 | .type n=>some (.ty n)
 | _=>none
theorem RelV.abs {x:V} {u:Value} (r:RelV x u):C9 u=some x:=by
 cases x with
 | non=>cases r;rfl
 | bl _=>cases r;rfl
 | int _=>obtain⟨t,rfl⟩:=r;rfl
 | str _=>obtain⟨t,rfl⟩:=r;rfl
 | byt _=>obtain⟨t,rfl⟩:=r;rfl
 | flt _=>obtain⟨t,rfl⟩:=r;rfl
 | ref _=>cases r;rfl
 | ty _=>cases r;rfl
theorem RelV.inj {x y:V} {u:Value} (r:RelV x u) (q:RelV y u):x=y:=Option.some.inj (r.abs.symm.trans q.abs)
theorem Vals.inj:∀{xs ys:List V} {us:List Value},Vals xs us→Vals ys us→xs=ys
 | _,_,_,.nil,.nil=>rfl
 | _,_,_,.cons r t,.cons r' t'=>by rw [r.inj r',Vals.inj t t']
section
variable {X:Cx} {pins:List (Addr × Obj)} {σ:St} {H:Hp} {s:Shared} {a:Addr} {xs ys:List V}
theorem aZ.of {K:PySem.W.Frag} (h:H a=some (.lst xs)):aZ K H a xs:=.inl (.inl h)
theorem bD.of {K:PySem.W.Frag} (h:H a=some (.tup xs)):bD K H a xs:=.inl (.inl h)
theorem Inv.list (I:Inv X pins σ H s) (h:aZ X.K H a xs):∃ its:List Value,Vals xs its∧PlainL s.heap a its.toArray∧xs.length≤sizeLine:=by
 rcases h with h | ⟨o,its,n,hk,hc,hd,hs,hz,r⟩
 ·obtain⟨z,its,n,r,e⟩:=h.ok I.hok
  exact⟨its,r,⟨_,n,e,rfl,rfl,rfl⟩,z⟩
 ·refine⟨its.toList,r,⟨o,n,I.fF a o hk,hc,hd,by simpa using hs⟩,?_⟩
  have e:=r.length
  simp only [Array.length_toList] at e
  omega
theorem Inv.tuple (I:Inv X pins σ H s) (h:bD X.K H a xs):∃ its:List Value,Vals xs its∧IsTup s.heap a its.toArray∧xs.length≤sizeLine:=by
 rcases h with h | ⟨o,its,n,hk,hc,hs,hz,r⟩
 ·obtain⟨z,its,r,p⟩:=h.ok I.hok
  exact⟨its,r,p,z⟩
 ·refine⟨its.toList,r,⟨o,I.fF a o hk,hc,n,by simpa using hs⟩,?_⟩
  have e:=r.length
  simp only [Array.length_toList] at e
  omega
theorem Inv.kA (I:Inv X pins σ H s) (h:aZ X.K H a xs) (h':aZ X.K H a ys):xs=ys:=by
 obtain⟨its,r,⟨o,n,e,_,_,d⟩,_⟩:=I.list h
 obtain⟨its',r',⟨o',n',e',_,_,d'⟩,_⟩:=I.list h'
 rw [e] at e';cases e'
 rw [d] at d'
 injection d' with d1 _
 have:its=its':=by simpa using congrArg Array.toList d1
 subst this
 exact r.inj r'
theorem Inv.mI (I:Inv X pins σ H s) (h:bD X.K H a xs) (h':bD X.K H a ys):xs=ys:=by
 obtain⟨its,r,⟨o,e,_,n,d⟩,_⟩:=I.tuple h
 obtain⟨its',r',⟨o',e',_,n',d'⟩,_⟩:=I.tuple h'
 rw [e] at e';cases e'
 rw [d] at d'
 injection d' with d1 _
 have:its=its':=by simpa using congrArg Array.toList d1
 subst this
 exact r.inj r'
end
abbrev Cx.lF (X:Cx) (E:Value→Shared→Prop):Cx:={ X with xe:=E }
abbrev Cx.l9 (X:Cx):Cx:=X.lF fun _ _=>False
theorem Cx.Ok.lF {X:Cx} (ok:X.Ok) (E:Value→Shared→Prop):(X.lF E).Ok :=
 ⟨ok.mod,ok.kind,ok.glob,ok.blt,ok.above,ok.inj,ok.has,ok.cab,ok.hd,ok.frames,ok.stk,ok.exf,ok.bs,ok.bsz,ok.noex,ok.exfs,ok.jz,ok.frf⟩
theorem Cx.Ok.fZ {X:Cx} {E:Value→Shared→Prop} (ok:(X.lF E).Ok):X.Ok :=
 ⟨ok.mod,ok.kind,ok.glob,ok.blt,ok.above,ok.inj,ok.has,ok.cab,ok.hd,ok.frames,ok.stk,ok.exf,ok.bs,ok.bsz,ok.noex,ok.exfs,ok.jz,ok.frf⟩
section
variable {X:Cx} {pins:List (Addr × Obj)} {σ:St} {H:Hp} {s:Shared} {E:Value→Shared→Prop}
theorem Inv.lF (I:Inv X pins σ H s) (E:Value→Shared→Prop):Inv (X.lF E) pins σ H s:=⟨I.ok.lF E,I.os,I.bare,I.base,I.loc,I.cell,I.free,I.freeC,I.pin,I.hok,I.len⟩
theorem Inv.fZ (I:Inv (X.lF E) pins σ H s):Inv X pins σ H s:=⟨I.ok.fZ,I.os,I.bare,I.base,I.loc,I.cell,I.free,I.freeC,I.pin,I.hok,I.len⟩
theorem SP.fZ {D:Ends} {f:Flow} {s':Shared} (h:SP (X.lF E) pins D f s'):SP X pins D f s':=by
 cases f with
 | next=>obtain⟨σ',H',I,q⟩:=h;exact⟨σ',H',I.fZ,q⟩
 | brk=>obtain⟨σ',H',I,q⟩:=h;exact⟨σ',H',I.fZ,q⟩
 | cont=>obtain⟨σ',H',I,q⟩:=h;exact⟨σ',H',I.fZ,q⟩
 | ret u=>obtain⟨v,σ',H',I,r,q⟩:=h;exact⟨v,σ',H',I.fZ,r,q⟩
theorem gF.l9 {st:List Stmt} {t:TS} (h:gF X.l9 st t):gF X st t:=fun pins s σ H D I hw =>
 wpAny_mono (h pins s σ H D (I.lF _) hw) (fun _ _ q=>q.fZ) fun _ _ z=>False.elim z
end
section
variable {X:Cx} {st:Stmt} {rest:List Stmt} {t u:TS} {e:Expr} {te:TE} {pos:Pos}
def xY:TS:=fun D σ H=>D.nx σ H
def bz (t u:TS):TS:=fun D σ H=>t { D with nx:=u D } σ H
theorem aI:gF X [] xY:=fun _ _ σ H _ I h=>wpAny_execs_nil ⟨σ,H,I,h⟩
theorem ae (h1:PS X st t) (h2:gF X rest u):gF X (st::rest) (bz t u):=by
 intro pins s σ H D I h
 refine wpAny_execs_cons (bo (h1 pins s σ H { D with nx:=u D } I h) fun f s1 q=>?_)
 cases f with
 | next =>
  obtain⟨σ',H',I',q⟩:=q
  exact h2 pins s1 σ' H' D I' q
 | ret v=>exact q
 | brk=>exact q
 | cont=>exact q
theorem ai (h1:PS X st t):gF X [st] t:=by
 intro pins s σ H D I h
 refine wpAny_execs_cons (bo (h1 pins s σ H D I h) fun f s1 q=>?_)
 cases f with
 | next=>exact wpAny_execs_nil q
 | ret v=>exact q
 | brk=>exact q
 | cont=>exact q
theorem Inv.quiet {pins:List (Addr × Obj)} {σ:St} {H:Hp} {s:Shared} (I:Inv X pins σ H s):interactive X.env=false:=by simp [interactive,I.ok.kind]
def xW (te:TE):TS:=fun D σ H=>te σ H fun _ H1=>D.nx σ H1
theorem dW (he:PE X e te) (hs:swapsWith e none pos.line X.env=pure false:=by rfl):PS X (.Expr e pos) (xW te):=by
 intro pins s σ H D I h
 exact wpAny_Expr_any (bo (he pins s σ H _ I h) fun v s1 ⟨x,H1,I1,r1,q1⟩=>⟨σ,H1,I1,q1⟩) I.quiet hs
def h7 (te:TE):TS:=fun D σ H=>te σ H D.rt
theorem aC (he:PE X e te):PS X (.Return (some e) pos) (h7 te):=by
 intro pins s σ H D I h
 exact wpAny_Return_some (bo (he pins s σ H _ I h) fun v s1 ⟨x,H1,I1,r1,q1⟩=>⟨x,σ,H1,I1,r1,q1⟩)
def Ao:TS:=fun D _ H=>D.rt .non H
def zJ (c:TT) (t u:TS):TS:=fun D σ H=>c σ H fun b H1=>if b=true then t D σ H1 else u D σ H1
theorem aP {c:Expr} {a b:List Stmt} {tc:TT} (hc:PT X c tc) (ha:gF X a t) (hb:gF X b u):PS X (.If c a b pos) (zJ tc t u):=by
 intro pins s σ H D I h
 refine wpAny_If (bo (hc pins s σ H _ I h) fun d s1 ⟨H1,I1,q1⟩=>?_)
 cases d with
 | true=>exact ha pins s1 σ H1 D I1 q1
 | false=>exact hb pins s1 σ H1 D I1 q1
end
abbrev TG:=V→St→Hp→(St→Hp→Prop)→Prop
abbrev zU:=List V→St→Hp→(St→Hp→Prop)→Prop
def PG (X:Cx) (target:Expr) (t:TG):Prop :=
 ∀(pins:List (Addr × Obj)) (s:Shared) (σ:St) (H:Hp) (v:V) (u:Value) (Q:St→Hp→Prop),Inv X pins σ H s→RelV v u→t v σ H Q →
  wpAny (model X.prog X.w) X.A (assign target X.env u) (fun _ s'=>∃ σ' H',Inv X pins σ' H' s'∧Q σ' H') X.xe s
def B6 (X:Cx) (ts:List Expr) (t:zU):Prop :=
 ∀(pins:List (Addr × Obj)) (s:Shared) (σ:St) (H:Hp) (vs:List V) (us:List Value) (Q:St→Hp→Prop),Inv X pins σ H s→Vals vs us→t vs σ H Q →
  wpAny (model X.prog X.w) X.A (assignInOrder ((assignEach ts X.env).map (·.2)) us) (fun _ s'=>∃ σ' H',Inv X pins σ' H' s'∧Q σ' H') X.xe s
abbrev C6:=V→V→V→Hp→(Hp→Prop)→Prop
abbrev C5:=V→V→Hp→VK→Prop
def DH (X:Cx) (op:Operator) (t:C5):Prop :=
 ∀(pins:List (Addr × Obj)) (s:Shared) (σ:St) (H:Hp) (x y:V) (v u:Value) (Q:VK),Inv X pins σ H s→RelV x v→RelV y u→t x y H Q →
  wpAny (model X.prog X.w) X.A (inplaceOp op v u) (EP X pins σ Q) X.xe s
section
variable {X:Cx} {pos:Pos}
def cQ (i:Nat):TG:=fun v σ H Q=>Q (σ.set i (some v)) H
theorem ay {i:Nat} {x:Str} (hN:X.N.Nodup) (hi:X.N[i]?=some x) (hx:Loc X.env.scope x) (hf:X.fn x=true∨X.env.scope.names.lookup x=some .local:=by first | exact .inl rfl | exact .inr rfl | assumption):PG X (.Name x pos) (cQ i):=by
 intro pins s σ H v u Q I r h
 exact wpAny_assign_Name (cO I hN hi hx r (fun s' I'=>⟨_,H,I',h⟩) hf)
def ub:zU:=fun vs σ H Q=>vs=[]∧Q σ H
def ip (t:TG) (u:zU):zU:=fun vs σ H Q=>∃ v r,vs=v::r∧t v σ H fun σ' H'=>u r σ' H' Q
theorem aW:B6 X [] ub:=by
 intro pins s σ H vs us Q I r h
 obtain⟨e,h⟩:=h
 subst e
 cases r
 exact assignInOrder_nil ⟨σ,H,I,h⟩
theorem aD {e:Expr} {es:List Expr} {t:TG} {u:zU} (h1:PG X e t) (h2:B6 X es u)
  (hs:(assignEach (e::es) X.env).map (·.2)=assign e X.env::(assignEach es X.env).map (·.2):=by rfl):B6 X (e::es) (ip t u):=by
 intro pins s σ H vs us Q I r h
 obtain⟨v,vr,e1,h⟩:=h
 subst e1
 cases r with
 | cons r rr =>
  rw [hs]
  refine assignInOrder_cons (bo (h1 pins s σ H _ _ _ I r h) fun _ s1 ⟨σ1,H1,I1,q1⟩=>?_)
  exact h2 pins s1 σ1 H1 _ _ Q I1 rr q1
def oU (K:PySem.W.Frag) (n:Nat) (t:zU):TG:=fun v σ H Q=>∃ a xs,v=.ref a∧bD K H a xs∧xs.length=n∧t xs σ H Q
theorem cu {es:List Expr} {k:Nat} {t:zU} {n:Nat} (hc:X.calm=true) (h:B6 X es t)
  (hn:(assignEach es X.env).length=n:=by rfl) (hst:(assignEach es X.env).findIdx? (·.1)=none:=by rfl):PG X (.Tuple es k pos) (oU X.K n t):=by
 intro pins s σ H v u Q I r hw
 obtain⟨a,xs,e1,hq,hl,hw⟩:=hw
 subst e1
 cases r
 obtain⟨its,rv,ht,hz⟩:=I.tuple hq
 refine assign_Tuple_tuple (I.ok.hd hc) ht (by simp [hn,← hl,rv.length]) hst fun h' hx=>?_
 have I1:Inv X pins σ H { s with heap:=h' }:=I.kept (t':=s.toks) fun b o e=>hx b o (Nat.ne_of_lt (Heap.lt_size e)) e
 exact h pins _ σ H xs _ Q I1 (by simpa using rv) hw
def Ce (to ti:TE) (t:C6):TG:=fun v σ H Q=>to σ H fun o H1=>ti σ H1 fun i H2=>t o i v H2 fun H3=>Q σ H3
def uX (te:TE) (g:TG):TS:=fun D σ H=>te σ H fun x H1=>g x σ H1 D.nx
theorem dH {tg e:Expr} {te:TE} {g:TG} (he:PE X e te) (hg:PG X tg g) (hs:swapsWithSole [tg] e pos.line X.env=pure false:=by rfl) (hw:swappedStores [tg] e X.env=pure none:=by rfl)
  (h1:(assignEach [tg] X.env).map (·.2)=[assign tg X.env]:=by rfl):PS X (.Assign [tg] e pos) (uX te g):=by
 intro pins s σ H D I h
 refine wpAny_Assign_stores (bo (he pins s σ H _ I h) fun v s1 ⟨x,H1,I1,r1,q1⟩=>?_) hs hw
 rw [h1]
 exact bo (hg pins s1 σ H1 x v _ I1 r1 q1) fun _ s2 q=>q
theorem aq {i:Nat} {x:Str} {e:Expr} {te:TE} {pos':Pos} (hN:X.N.Nodup) (hi:X.N[i]?=some x) (hx:Loc X.env.scope x) (he:PE X e te) (hs:swapsWith e (some (.Name x pos')) pos.line X.env=pure false:=by rfl) (hf:X.fn x=true∨X.env.scope.names.lookup x=some .local:=by first | exact .inl rfl | exact .inr rfl | assumption) :
  PS X (.Assign [.Name x pos'] e pos) (uX te (cQ i)):=by
 intro pins s σ H D I h
 refine wpAny_Assign_Name (bo (he pins s σ H _ I h) fun v s1 ⟨y,H1,I1,r1,q1⟩=>?_) hs
 exact cO I1 hN hi hx r1 (fun s2 I2=>⟨_,H1,I2,q1⟩) hf
def BH (i j:Nat) (ta:TA):TS:=fun D σ H=>ta σ H fun vs H1=>∃ v w,vs=[v,w]∧D.nx ((σ.set i (some v)).set j (some w)) H1
theorem nq {i j:Nat} {x y:Str} {a b:Expr} {ta:TA} {px py pt:Pos} {kt k2 pt2} (hc:X.calm=true) (hN:X.N.Nodup) (hi:X.N[i]?=some x) (hj:X.N[j]?=some y) (hij:i≠j)
  (hx:X.env.scope.names.lookup x=some .local) (hy:X.env.scope.names.lookup y=some .local) (ha:PA X [a,b] ta)
  (hw:swappedStores [.Tuple [.Name x px,.Name y py] kt pt] (.Tuple [a,b] k2 pt2) X.env=pure (some [x,y]))
  (hs:swapsWithSole [.Tuple [.Name x px,.Name y py] kt pt] (.Tuple [a,b] k2 pt2) pos.line X.env=pure false:=by rfl) :
  PS X (.Assign [.Tuple [.Name x px,.Name y py] kt pt] (.Tuple [a,b] k2 pt2) pos) (BH i j ta):=by
 intro pins s σ H D I h
 rw [exec_Assign_arm]
 refine wpAny_bind (wpAny_standAt ?_)
 rw [hs]
 refine wpAny_bind (wpAny_pure ?_)
 rw [if_neg (by decide)]
 refine wpAny_bind (Tuple_ (bo (ha _ pins s σ H _ I h) fun us s1 ⟨vs,H1,I1,r1,q1⟩=>?_))
 obtain⟨v,w,e1,q1⟩:=q1
 subst e1
 obtain⟨u1,u2,rfl,rv,rw'⟩:∃ u1 u2,us=[u1,u2]∧RelV v u1∧RelV w u2:=by
  cases r1 with
  | cons p q =>
   cases q with
   | cons p' q' =>
    cases q'
    exact⟨_,_,rfl,p,p'⟩
 refine wpAny_newObj_type ?_ (by show 2≤sizeLine;decide)
 have I2:Inv X pins σ H1 { s1 with heap:=s1.heap.push { cls:=.type "tuple",data:=.seq [u1,u2].toArray } }:=I1.kept (t':=s1.toks) fun b o e=>Heap.get?_push_of_some _ e
 rw [hw]
 refine wpAny_bind (wpAny_pure ?_)
 show wpAny (model X.prog X.w) X.A (do rule "assign.swapped-stores";let items ← unpackItems (.ref s1.heap.objs.size) 2 none;assignInOrder [fun v=>bindName X.env y v,fun v=>bindName X.env x v] items.reverse;pure Flow.next) _ _ _
 refine wpAny_bind (wpAny_rule (wpAny_bind (unpackItems_tuple (items:=#[u1,u2]) (I.ok.hd hc) (IsTup.new s1.heap _) fun h' hx'=>?_)))
 have I3:=I2.kept (h':=h') (t':=s1.toks) fun b o e=>hx' b o (Nat.ne_of_lt (Heap.lt_size e)) e
 show wpAny _ _ (assignInOrder [fun v=>bindName X.env y v,fun v=>bindName X.env x v] [u2,u1] >>= fun _=>pure Flow.next) _ _ _
 refine wpAny_bind (assignInOrder_cons (wpAny_bindName (cO I3 hN hj (.inl hy) rw' (fun s2 I4=>?_) (.inr hy))))
 refine assignInOrder_cons (wpAny_bindName (cO I4 hN hi (.inl hx) rv (fun s3 I5=>assignInOrder_nil (wpAny_pure ?_)) (.inr hx)))
 rw [List.set_comm _ _ (Ne.symm hij)] at I5
 exact⟨_,H1,I5,q1⟩
def BC (i:Nat) (te:TE) (ti:C5):TS:=fun D σ H=>∃ x,σ[i]?=some (some x)∧te σ H fun y H1=>ti x y H1 fun z H2=>D.nx (σ.set i (some z)) H2
theorem dI {i:Nat} {x:Str} {e:Expr} {te:TE} {op:Operator} {ti:C5} {pos':Pos} (hN:X.N.Nodup) (hi:X.N[i]?=some x) (hx:Loc X.env.scope x) (he:PE X e te) (ho:DH X op ti) (hf:X.fn x=true∨X.env.scope.names.lookup x=some .local:=by first | exact .inl rfl | exact .inr rfl | assumption) :
  PS X (.AugAssign (.Name x pos') op e pos) (BC i te ti):=by
 intro pins s σ H D I h
 obtain⟨v,e1,h⟩:=h
 obtain⟨m,hn,hl⟩:=I.loc
 have vis:BS X.env.scope x:=by rcases hx with k | k;exact .inl k;exact .inr (.inl k)
 obtain⟨u,r,l⟩:=hl i x v hi e1 vis
 refine wpAny_AugAssign_Name ?_
 have go:wpAny (model X.prog X.w) X.A (eval e X.env) (fun w s₂=>wpAny (model X.prog X.w) X.A (inplaceOp op u w) (fun r s₃=>wpAny (model X.prog X.w) X.A (storeName X.env x r) (fun _=>SP X pins D .next) X.xe s₃) X.xe s₂) X.xe s:=by
  refine bo (he pins s σ H _ I h) fun w s1 ⟨y,H1,I1,r1,q1⟩=>?_
  refine bo (ho pins s1 σ H1 v y u w _ I1 r r1 q1) fun z s2 ⟨zv,H2,I2,r2,q2⟩=>?_
  exact cO I2 hN hi hx r2 (fun s3 I3=>⟨_,H2,I3,q2⟩) hf
 rcases l with⟨hk,hm⟩|⟨hk,c,hc,hcell⟩
 ·exact wpAny_loadName_local I.ok.kind hk hn hm go
 ·rcases hk with hk | hk
  ·exact wpAny_loadName_cell I.ok.kind hk hc hcell go
  ·rcases hx with k | k
   ·have:X.env.scope.names.lookup x=some .free:=hk
    rw [k] at this;cases this
   ·have:X.env.scope.names.lookup x=some .free:=hk
    rw [k] at this;cases this
end
section
variable {X:Cx} {pos:Pos}
def x8 (c:TT) (tb:TS):TS:=fun D σ H=>∃ W:Nat→St→Hp→Prop,(∃ m,W m σ H)∧∀ m σ H,W m σ H →
 c σ H fun b H1=>if b=true then ∃ N:St→Hp→Prop,(∀ σ' H',N σ' H'→∃ m',m'<m∧W m' σ' H')∧tb { D with nx:=N,ct:=N,bk:=D.nx } σ H1 else D.nx σ H1
theorem bf {c:Expr} {body:List Stmt} {tc:TT} {tb:TS} (hp:PassesOwn (model X.prog X.w) X.A X.env X.xe) (hc:PT X c tc) (hb:gF X body tb):PS X (.While c body [] pos) (x8 tc tb):=by
 intro pins s σ H D I h
 obtain⟨W,⟨m0,w0⟩,turn⟩:=h
 refine wpAny_While (codeAny_whileLoop (fun n s'=>∃ σ' H',Inv X pins σ' H' s'∧W n σ' H') ?_ m0 ⟨σ,H,I,w0⟩)
 rintro n s1 ⟨σ1,H1,I1,w1⟩
 refine wpAny_passesOwn hp (bo (hc pins s1 σ1 H1 _ I1 (turn n σ1 H1 w1)) fun b s2 ⟨H2,I2,q2⟩=>?_)
 cases b with
 | true =>
  obtain⟨N,hN,q2⟩:=q2
  rw [if_pos rfl]
  refine wpAny_passesOwn hp (bo (hb pins s2 σ1 H2 _ I2 q2) fun f s3 q3=>?_)
  cases f with
  | next =>
   obtain⟨σ3,H3,I3,n3⟩:=q3
   obtain⟨m',hm,w3⟩:=hN σ3 H3 n3
   exact⟨m',hm,σ3,H3,I3,w3⟩
  | cont =>
   obtain⟨σ3,H3,I3,n3⟩:=q3
   obtain⟨m',hm,w3⟩:=hN σ3 H3 n3
   exact⟨m',hm,σ3,H3,I3,w3⟩
  | brk=>exact q3
  | ret v=>exact q3
 | false =>
  rw [if_neg Bool.false_ne_true]
  exact wpAny_execs_nil ⟨σ1,H2,I2,q2⟩
end
structure It where
 go:Nat→Hp→Prop
 yld:Nat→Hp→V→Hp→Prop
 stop:Nat→Hp→Prop
def mL (X:Cx) (pins:List (Addr × Obj)) (H:Hp) (b:Addr):Prop :=
 H b=none∧b≠X.env.locals∧b∉X.fs∧(b∈X.ex∨X.s₀.heap.objs.size≤b)∧(∀ x c,X.env.cells.lookup x=some c→c≠b)∧∀ p∈X.pn++pins,p.1≠b
theorem Inv.lB {X:Cx} {pins:List (Addr × Obj)} {σ:St} {H H':Hp} {s:Shared} {b:Addr} (I:Inv X pins σ H s) (hb:s.heap.objs.size≤b) (hn:H' b=none):mL X pins H' b:=by
 refine⟨hn,Nat.ne_of_gt (Nat.lt_of_lt_of_le I.lt hb),I.yT hb,.inr (Nat.le_trans I.sz hb),fun x c e z=>?_,fun p hp z=>?_⟩
 ·obtain⟨v,q⟩:=I.cell x c e
  exact absurd (Nat.lt_of_lt_of_le q.lt (by rw [z];exact hb)) (Nat.lt_irrefl _)
 ·exact absurd (Nat.lt_of_lt_of_le (Heap.lt_size (I.pin p hp).1) (by rw [z];exact hb)) (Nat.lt_irrefl _)
structure Turn (P:Program) (w:World) (K:PySem.W.Frag) (tg:Expr) (J:It) (fp:List Addr) (it:Addr) (tn:Nat→Heap→Prop):Prop where
 mem:it∈fp
 obj:∀ i h,tn i h→∀ b∈fp,∃ o,h.get? b=some o∧∀ v,o.data≠.cell v
 keep:∀ i h h',tn i h→(∀ b∈fp,∀ o,h.get? b=some o→h'.get? b=some o)→tn i h'
 item:∀(X:Cx),X.prog=P→X.w=w→X.K=K→X.calm=true→∀(i:Nat) (pins:List (Addr × Obj)) (s:Shared) (σ:St) (H:Hp) (E:Value→Shared→Prop),Inv X pins σ H s→(∀ b∈fp,mL X pins H b)→tn i s.heap→J.go i H →
  wpAny (model P w) X.A (pyNext (.ref it)) (fun r s1=>∃ u,r=some u ∧
   wpAny (model P w) X.A (letOwnedTupleGo tg (.ref it) u) (fun _ s2=>∃ x H',Inv X pins σ H' s2∧RelV x u∧J.yld i H x H'∧tn (i+1) s2.heap∧∀ b∈fp,H' b=none) E s1) E s
 done:∀(X:Cx),X.prog=P→X.w=w→X.K=K→X.calm=true→∀(i:Nat) (pins:List (Addr × Obj)) (s:Shared) (σ:St) (H:Hp) (E:Value→Shared→Prop),Inv X pins σ H s→(∀ b∈fp,mL X pins H b)→tn i s.heap→J.stop i H →
  wpAny (model P w) X.A (pyNext (.ref it)) (fun r s1=>r=none∧Inv X pins σ H s1) E s
 self:∀(A:Around) (i:Nat) (s:Shared) (Q:Value→Shared→Prop) (E:Value→Shared→Prop),tn i s.heap→Q (.ref it) s→wpAny (model P w) A (pyIter (.ref it)) Q E s
abbrev TI:=St→Hp→(It→Hp→Prop)→Prop
def C3 (X:Cx) (pins:List (Addr × Obj)) (σ:St) (tg:Expr) (R:It→Hp→Prop) (itv:Value) (s2:Shared):Prop :=
 ∃(it:Addr) (fp:List Addr) (tn:Nat→Heap→Prop) (J:It) (H':Hp),itv=.ref it∧Inv X pins σ H' s2∧Turn X.prog X.w X.K tg J fp it tn∧tn 0 s2.heap∧(∀ b∈fp,mL X pins H' b)∧R J H'
def PI (X:Cx) (tg iter:Expr) (wi:TI):Prop :=
 ∀(pins:List (Addr × Obj)) (s:Shared) (σ:St) (H:Hp) (R:It→Hp→Prop),Inv X pins σ H s→wi σ H R →
  wpAny (model X.prog X.w) X.A (eval iter X.env) (fun v s1=>wpAny (model X.prog X.w) X.A (pyIter v) (C3 X pins σ tg R) X.xe s1) X.xe s
theorem vO {M:Model} {A:Around} {E:Value→Shared→Prop} {s:Shared} {tg:Expr} {it:Addr} {u:Value} {o:Obj} {n:String} {vs:Array Value} {Q:Unit→Shared→Prop} (ho:s.heap.get? it=some o) (hc:o.cls=.type n) (hd:o.data=.fields vs)
    (hn:["enumerate","zip","dict_itemiterator","dict_reverseitemiterator","odict_iterator","itertools.zip_longest","itertools.pairwise"].contains n=false) (hQ:Q () s):wpAny M A (letOwnedTupleGo tg (.ref it) u) Q E s:=by
  unfold letOwnedTupleGo
  cases tg<;>first
    | exact wpAny_pure hQ
    | (cases u<;>first
        | exact wpAny_pure hQ
        | (refine wpAny_bind (wpAny_load ho ?_)
           rw [hc,hd]
           show wpAny M A (if (["enumerate","zip","dict_itemiterator","dict_reverseitemiterator","odict_iterator","itertools.zip_longest","itertools.pairwise"].contains n && vs[0]?==some (rawInt _))=true then _ else _) Q E s
           rw [if_neg (by intro h;rw [hn,Bool.false_and] at h;cases h)]
           exact wpAny_pure hQ))
def Az (K:PySem.W.Frag) (a:Addr):It :=
 ⟨fun i H=>∃ xs x,aZ K H a xs∧xs[i]?=some x,fun i H x H'=>H'=H∧∀ xs,aZ K H a xs→xs[i]?=some x,fun i H=>∃ xs,aZ K H a xs∧xs.length≤i⟩
def AA (K:PySem.W.Frag) (a:Addr):It :=
 ⟨fun i H=>∃ xs x,bD K H a xs∧xs[i]?=some x,fun i H x H'=>H'=H∧∀ xs,bD K H a xs→xs[i]?=some x,fun i H=>∃ xs,bD K H a xs∧xs.length≤i⟩
def zT (lo:Int) (n:Nat):It:=⟨fun i _=>i<n,fun i H x H'=>H'=H∧x=.int (lo+i),fun i _=>n≤i⟩
theorem u9 {P:Program} {w:World} {K:PySem.W.Frag} {tg:Expr} (a it:Addr):Turn P w K tg (Az K a) [it] it (fun i h=>h.IsListIter it a i) where
 mem:=by simp
 obj:=fun i h st b hb=>by
  have e:b=it:=by simpa using hb
  subst e
  obtain⟨o,e,c,d⟩:=st
  exact⟨o,e,fun v z=>by rw [d] at z;cases z⟩
 keep:=fun i h h' st k=>st.at fun o e=>k it (by simp) o e
 item:=by
  intro X hP hw hK hc i pins s σ H E I hf st hg
  subst hP hw hK
  obtain⟨xs,x,hq,hx⟩:=hg
  obtain⟨its,rv,p,hz⟩:=I.list hq
  obtain⟨u,hu,ru⟩:=rv.get hx
  obtain⟨f0,f1,f2,f3,f4,f5⟩:=hf it (by simp)
  refine wpAny_pyNext_list_item st p.isList (x:=u) (by simpa using hu) fun h' st' sb=>?_
  have I1:Inv X pins σ H { s with heap:=h' }:=I.turned (t':=s.toks) (fun b o hb e=>(sb.2 b hb).trans e) f0 f1 f3 f4 f5
  obtain⟨o,e,c,d⟩:=id st'
  exact⟨u,rfl,vO (s:={ s with heap:=h' }) e c d (by decide) ⟨x,H,I1,ru,⟨rfl,fun ys hy=>by rw [I.kA hy hq];exact hx⟩,st',fun b hb=>(hf b hb).1⟩⟩
 done:=by
  intro X hP hw hK hc i pins s σ H E I hf st hg
  subst hP hw hK
  obtain⟨xs,hq,hx⟩:=hg
  obtain⟨its,rv,p,hz⟩:=I.list hq
  obtain⟨f0,f1,f2,f3,f4,f5⟩:=hf it (by simp)
  have hl:=rv.length
  exact wpAny_pyNext_list_end (I.ok.hd hc) st p.isList (by simp;omega) fun h' eb=>⟨rfl,I.turned (t':=s.toks) (fun b o hb e=>eb b o hb e) f0 f1 f3 f4 f5⟩
 self:=fun _ _ _ _ _ st h=>wpAny_pyIter_listiter st h
theorem rL {P:Program} {w:World} {K:PySem.W.Frag} {tg:Expr} (a it:Addr):Turn P w K tg (AA K a) [it] it (fun i h=>h.IsTupleIter it a i) where
 mem:=by simp
 obj:=fun i h st b hb=>by
  have e:b=it:=by simpa using hb
  subst e
  obtain⟨o,e,c,d⟩:=st
  exact⟨o,e,fun v z=>by rw [d] at z;cases z⟩
 keep:=fun i h h' st k=>st.at fun o e=>k it (by simp) o e
 item:=by
  intro X hP hw hK hc i pins s σ H E I hf st hg
  subst hP hw hK
  obtain⟨xs,x,hq,hx⟩:=hg
  obtain⟨its,rv,p,hz⟩:=I.tuple hq
  obtain⟨u,hu,ru⟩:=rv.get hx
  obtain⟨f0,f1,f2,f3,f4,f5⟩:=hf it (by simp)
  refine wpAny_pyNext_tuple_item st (show s.heap.IsTuple a its.toArray from p) (x:=u) (by simpa using hu) fun h' st' sb=>?_
  have I1:Inv X pins σ H { s with heap:=h' }:=I.turned (t':=s.toks) (fun b o hb e=>(sb.2 b hb).trans e) f0 f1 f3 f4 f5
  obtain⟨o,e,c,d⟩:=id st'
  exact⟨u,rfl,vO (s:={ s with heap:=h' }) e c d (by decide) ⟨x,H,I1,ru,⟨rfl,fun ys hy=>by rw [I.mI hy hq];exact hx⟩,st',fun b hb=>(hf b hb).1⟩⟩
 done:=by
  intro X hP hw hK hc i pins s σ H E I hf st hg
  subst hP hw hK
  obtain⟨xs,hq,hx⟩:=hg
  obtain⟨its,rv,p,hz⟩:=I.tuple hq
  obtain⟨f0,f1,f2,f3,f4,f5⟩:=hf it (by simp)
  have hl:=rv.length
  exact wpAny_pyNext_tuple_end (I.ok.hd hc) st (show s.heap.IsTuple a its.toArray from p) (by simp;omega) fun h' eb=>⟨rfl,I.turned (t':=s.toks) (fun b o hb e=>eb b o hb e) f0 f1 f3 f4 f5⟩
 self:=fun _ _ _ _ _ st h=>wpAny_pyIter_tupleiter st h
theorem rK {P:Program} {w:World} {K:PySem.W.Frag} {tg:Expr} (it:Addr) (lo:Int) (n:Nat):Turn P w K tg (zT lo n) [it] it (fun i h=>IsRangeIter h it (lo+(i:Nat)*1) ((n:Int)-(i:Nat)) 1) where
 mem:=by simp
 obj:=fun i h st b hb=>by
  have e:b=it:=by simpa using hb
  subst e
  exact⟨_,st,fun v z=>by
   have z':Data.fields _=Data.cell v:=z
   cases z'⟩
 keep:=fun i h h' st k=>k it (by simp) _ st
 item:=by
  intro X hP hw hK hc i pins s σ H E I hf st hg
  subst hP hw hK
  obtain⟨f0,f1,f2,f3,f4,f5⟩:=hf it (by simp)
  have W:=Walks.range (prog:=X.prog) (w:=X.w) (I.ok.hd hc) it lo 1 n
  refine W.item i s _ _ hg st fun v h' tk hv st' kk=>?_
  obtain⟨t,rfl⟩:=hv
  have I1:Inv X pins σ H { s with heap:=h',toks:=tk }:=I.turned (fun b o hb e=>kk b o (by simpa using hb) e) f0 f1 f3 f4 f5
  refine⟨_,rfl,vO (s:={ s with heap:=h',toks:=tk }) (n := "range_iterator") st' rfl rfl (by decide) ⟨.int (lo+i),H,I1,⟨t,?_⟩,⟨rfl,rfl⟩,st',fun b hb=>(hf b hb).1⟩⟩
  rw [Int.mul_one]
 done:=by
  intro X hP hw hK hc i pins s σ H E I hf st hg
  subst hP hw hK
  obtain⟨f0,f1,f2,f3,f4,f5⟩:=hf it (by simp)
  exact wpAny_pyNext_range_end (I.ok.hd hc) st (by have:n≤i:=hg;omega) fun h' eb=>⟨rfl,I.turned (t':=s.toks) (fun b o hb e=>eb b o hb e) f0 f1 f3 f4 f5⟩
 self:=fun _ _ _ _ _ st h=>wpAny_pyIter_rangeiter st h
end L2
namespace L2
open PySem PySem.Spec PyProof.Rows
section
variable {X:Cx} {tg:Expr}
def vV (K:PySem.W.Frag) (tl:TE):TI:=fun σ H R=>tl σ H fun x H1=>∃ a,x=.ref a∧(∃ xs,aZ K H1 a xs)∧R (Az K a) H1
def AR (K:PySem.W.Frag) (tl:TE):TI:=fun σ H R=>tl σ H fun x H1=>∃ a,x=.ref a∧(∃ xs,bD K H1 a xs)∧R (AA K a) H1
theorem cp {l:Expr} {tl:TE} (hl:PE X l tl):PI X tg l (vV X.K tl):=by
 intro pins s σ H R I h
 refine bo (hl pins s σ H _ I h) fun v s1 ⟨x,H1,I1,r1,q1⟩=>?_
 obtain⟨a,e,⟨xs,hq⟩,q⟩:=q1
 subst e
 cases r1
 obtain⟨its,rv,p,hz⟩:=I1.list hq
 refine wpAny_pyIter_list p.isList ?_
 refine⟨s1.heap.objs.size,[s1.heap.objs.size],_,_,H1,rfl,I1.kept (t':=s1.toks) fun b o e=>Heap.get?_push_of_some _ e,u9 a _,⟨_,Heap.get?_push_size _ rfl,rfl,rfl⟩,fun b hb=>?_,q⟩
 have e:b=s1.heap.objs.size:=by simpa using hb
 subst e
 exact I1.lB (Nat.le_refl _) (I1.hok.fresh (Nat.le_refl _))
theorem kL {l:Expr} {tl:TE} (hl:PE X l tl):PI X tg l (AR X.K tl):=by
 intro pins s σ H R I h
 refine bo (hl pins s σ H _ I h) fun v s1 ⟨x,H1,I1,r1,q1⟩=>?_
 obtain⟨a,e,⟨xs,hq⟩,q⟩:=q1
 subst e
 cases r1
 obtain⟨its,rv,p,hz⟩:=I1.tuple hq
 refine wpAny_pyIter_tuple (show s1.heap.IsTuple a its.toArray from p) ?_
 refine⟨s1.heap.objs.size,[s1.heap.objs.size],_,_,H1,rfl,I1.kept (t':=s1.toks) fun b o e=>Heap.get?_push_of_some _ e,rL a _,⟨_,Heap.get?_push_size _ rfl,rfl,rfl⟩,fun b hb=>?_,q⟩
 have e:b=s1.heap.objs.size:=by simpa using hb
 subst e
 exact I1.lB (Nat.le_refl _) (I1.hok.fresh (Nat.le_refl _))
theorem xt {pins:List (Addr × Obj)} {σ:St} {H:Hp} {s:Shared} {R:It→Hp→Prop} {E:Value→Shared→Prop} {lo hi:Int} {t u v:Tok} {tk:Nat} (I:Inv X pins σ H s) (h1:-(2^62)≤lo) (h2:lo<2^62) (h3:-(2^62)≤hi) (h4:hi<2^62)
  (q:R (zT lo (hi-lo).toNat) H):wpAny (model X.prog X.w) X.A (pyIter (.ref s.heap.objs.size)) (C3 X pins σ tg R) E { s with heap:=s.heap.push { cls:=.type "range",data:=.fields #[.int lo t,.int hi u,.int 1 v] },toks:=tk }:=by
 refine wpAny_pyIter_range (IsRange.new ..) (small_one h1 h2 h3 h4) ?_
 have I1:Inv X pins σ H { s with heap:=s.heap.push { cls:=.type "range",data:=.fields #[.int lo t,.int hi u,.int 1 v] },toks:=tk }:=I.kept fun b o e=>Heap.get?_push_of_some _ e
 refine⟨(s.heap.push { cls:=.type "range",data:=.fields #[.int lo t,.int hi u,.int 1 v] }).objs.size,[(s.heap.push { cls:=.type "range",data:=.fields #[.int lo t,.int hi u,.int 1 v] }).objs.size],_,_,H,rfl,
  I1.kept (t':=tk) fun b o e=>Heap.get?_push_of_some _ e,rK _ lo (hi-lo).toNat,?_,fun b hb=>?_,q⟩
 ·have e1:lo+((0:Nat):Int)*1=lo:=by simp
  have e2:(((hi-lo).toNat:Nat):Int)-((0:Nat):Int)=Builtin.Range.rangeSize lo hi 1:=by rw [rangeSize_one];split<;>omega
  show IsRangeIter _ _ (lo+((0:Nat):Int)*1) ((((hi-lo).toNat:Nat):Int)-((0:Nat):Int)) 1
  rw [e1,e2]
  exact Heap.get?_push_size _ rfl
 ·have e:b=(s.heap.push { cls:=.type "range",data:=.fields #[.int lo t,.int hi u,.int 1 v] }).objs.size:=by simpa using hb
  subst e
  exact I1.lB (Nat.le_refl _) (I1.hok.fresh (Nat.le_refl _))
def vW (ta:TA):TI:=fun σ H R=>ta σ H fun vs H1=>∃ j:Int,vs=[.int j] ∧ -(2^62)≤j∧j<2^62∧R (zT 0 j.toNat) H1
def Aa (ta:TA):TI:=fun σ H R=>ta σ H fun vs H1=>∃ i j:Int,vs=[.int i,.int j]∧(-(2^62)≤i∧i<2^62 ∧ -(2^62)≤j∧j<2^62)∧R (zT i (j-i).toNat) H1
theorem eR {a:Expr} {ta:TA} {p pos:Pos} (hg:Gl X "range") (hm:X.mg "range"=none) (ha:PA X [a] ta) (hs:starEach [a] X.env=[(false,eval a X.env)]:=by rfl):PI X tg (.Call (.Name "range" p) [a] [] pos) (vW ta):=by
 intro pins s σ H R I h
 refine Call_ (gU I hg hm boot_range (PyProof.Rows.callWith_type1 (bo (ha pos pins s σ H _ I h) fun us s1 ⟨vs,H1,I1,r1,q1⟩=>?_) hs rfl))
 obtain⟨j,e,q1,q2,q⟩:=q1
 subst e
 cases r1 with
 | cons r rr =>
  cases rr
  obtain⟨t,rfl⟩:=r
  exact call_range_1 (xt I1 (by omega) (by omega) q1 q2 (by simpa using q))
def CD (wi:TI) (g:TG) (tb:TS):TS:=fun D σ H=>wi σ H fun J H1=>∃ W:Nat→Nat→St→Hp→Prop,(∃ m,W 0 m σ H1)∧∀ i m σ H,W i m σ H →
 (J.stop i H∧D.nx σ H)∨(J.go i H∧∃ N:St→Hp→Prop,(∀ σ' H',N σ' H'→∃ m',m'<m∧W (i+1) m' σ' H')∧∀ x H',J.yld i H x H'→g x σ H' fun σ2 H2=>tb { D with nx:=N,ct:=N,bk:=D.nx } σ2 H2)
def kM (fp:List Addr) (h:Heap):List (Addr × Obj):=fp.filterMap fun b=>(h.get? b).map fun o=>(b,o)
theorem fh {fp:List Addr} {h:Heap} {b:Addr} {o:Obj} (hb:b∈fp) (e:h.get? b=some o):(b,o)∈kM fp h:=List.mem_filterMap.mpr ⟨b,hb,by rw [e];rfl⟩
theorem uo {fp:List Addr} {h:Heap} {p:Addr × Obj} (hp:p∈kM fp h):p.1∈fp∧h.get? p.1=some p.2:=by
 obtain⟨b,hb,e⟩:=List.mem_filterMap.mp hp
 cases q:h.get? b with
 | none=>rw [q] at e;cases e
 | some o =>
  rw [q] at e
  have e':(b,o)=p:=Option.some.inj e
  subst e'
  exact⟨hb,q⟩
theorem Inv.pinned {pins:List (Addr × Obj)} {σ:St} {H:Hp} {s:Shared} {fp:List Addr} (I:Inv X pins σ H s) (hf:∀ b∈fp,mL X pins H b) (ho:∀ b∈fp,∃ o,s.heap.get? b=some o∧∀ v,o.data≠.cell v):Inv X (pins++kM fp s.heap) σ H s :=
 I.gq fun p hp=>(List.mem_append.mp hp).elim (fun z=>I.pin p (List.mem_append_right _ z)) fun z=>by
  obtain⟨hb,e⟩:=uo z
  obtain⟨f0,f1,f2,_⟩:=hf p.1 hb
  obtain⟨o,e',d⟩:=ho p.1 hb
  rw [e] at e';cases e'
  exact⟨e,f0,f1,f2,d⟩
theorem Inv.iQ {pins pl:List (Addr × Obj)} {σ:St} {H:Hp} {s:Shared} (I:Inv X (pins++pl) σ H s):Inv X pins σ H s:=I.gq fun p hp=>I.pin p (List.mem_append_right _ (List.mem_append_left _ hp))
theorem cV {iter:Expr} {body:List Stmt} {wi:TI} {g:TG} {tb:TS} {pos:Pos} (hp:PassesOwn (model X.prog X.w) X.A X.env X.xe) (hc:X.calm=true) (hi:PI X tg iter wi) (hg:PG X tg g) (hb:gF X body tb)
  (hs:∀ x,foldedSetIterable iter X.env x=pure x:=by intro _;rfl):PS X (.For tg iter body [] pos) (CD wi g tb):=by
 intro pins s σ H D I h
 refine wpAny_For (bo (hi pins s σ H _ I h) fun v s1 h1=>bo h1 fun itv s2 h2=>?_) hs
 obtain⟨it,fp,tn,J,H2,e,I2,T,st2,f2,W,⟨m0,w0⟩,turn⟩:=h2
 subst e
 -- what stays true of the iterator's objects through the loop
 have stat:∀{H':Hp},(∀ b∈fp,H' b=none)→∀ b∈fp,mL X pins H' b:=fun hn b hb=>⟨hn b hb,(f2 b hb).2⟩
 refine codeAny_forLoop_any (fun n s'=>∃ i σ' H',Inv X pins σ' H' s'∧tn i s'.heap∧(∀ b∈fp,H' b=none)∧W i n σ' H') ?_ m0 ⟨0,σ,H2,I2,st2,fun b hb=>(f2 b hb).1,w0⟩
 rintro n s3 ⟨i,σ3,H3,I3,st3,fr3,w3⟩
 rcases turn i n σ3 H3 w3 with⟨stop,qn⟩|⟨go,N,hN,step⟩
 ·refine wpAny_passesOwn hp (bo (T.done X rfl rfl rfl hc i pins s3 σ3 H3 X.xe I3 (stat fr3) st3 stop) fun r s4 ⟨hr,I4⟩=>?_)
  subst hr
  exact wpAny_execs_nil ⟨σ3,H3,I4,qn⟩
 ·refine wpAny_passesOwn hp (bo (T.item X rfl rfl rfl hc i pins s3 σ3 H3 X.xe I3 (stat fr3) st3 go) fun r s4 ⟨u,hr,h4⟩=>?_)
  subst hr
  refine wpAny_passesOwn hp (bo h4 fun _ s5 ⟨x,H5,I5,r5,y5,st5,fr5⟩=>?_)
  have I5':=I5.pinned (stat fr5) (T.obj _ _ st5)
  refine wpAny_passesOwn hp (bo (hg _ s5 σ3 H5 x u _ I5' r5 (step x H5 y5)) fun _ s6 ⟨σ6,H6,I6,q6⟩=>?_)
  refine wpAny_passesOwn hp (bo (hb _ s6 σ6 H6 _ I6 q6) fun f s7 q7=>?_)
  have again:∀{σ7:St} {H7:Hp},Inv X (pins++kM fp s5.heap) σ7 H7 s7→N σ7 H7→∃ m,m<n∧∃ i σ' H',Inv X pins σ' H' s7∧tn i s7.heap∧(∀ b∈fp,H' b=none)∧W i m σ' H':=fun {σ7 H7} I7 n7=>by
   obtain⟨m',hm,w7⟩:=hN σ7 H7 n7
   refine⟨m',hm,i+1,σ7,H7,I7.iQ,T.keep _ _ _ st5 fun b hb o e=>(I7.pin (b,o) (List.mem_append_right _ (List.mem_append_right _ (fh hb e)))).1,fun b hb=>?_,w7⟩
   obtain⟨o,e,d⟩:=T.obj _ _ st5 b hb
   exact (I7.pin (b,o) (List.mem_append_right _ (List.mem_append_right _ (fh hb e)))).2.1
  cases f with
  | next=>obtain⟨σ7,H7,I7,n7⟩:=q7;exact again I7 n7
  | cont=>obtain⟨σ7,H7,I7,n7⟩:=q7;exact again I7 n7
  | brk=>obtain⟨σ7,H7,I7,q7⟩:=q7;exact⟨σ7,H7,I7.iQ,q7⟩
  | ret v=>obtain⟨x7,σ7,H7,I7,r7,q7⟩:=q7;exact⟨x7,σ7,H7,I7.iQ,r7,q7⟩
end
theorem vL {K:PySem.W.Frag} {a:Addr} {xs:List V} {g:TG} {tb:TS} {D:Ends} {σ:St} {H:Hp} (Pv:Nat→St→Hp→Prop) (h0:Pv 0 σ H) (hl:∀ i σ H,i≤xs.length→Pv i σ H→aZ K H a xs)
  (hs:∀ i x σ H,xs[i]?=some x→Pv i σ H→g x σ H fun σ2 H2=>tb { D with nx:=Pv (i+1),ct:=Pv (i+1),bk:=D.nx } σ2 H2) (hd:∀ σ H,Pv xs.length σ H→D.nx σ H) :
  ∃ W:Nat→Nat→St→Hp→Prop,(∃ m,W 0 m σ H)∧∀ i m σ H,W i m σ H →
   ((Az K a).stop i H∧D.nx σ H)∨((Az K a).go i H∧∃ N:St→Hp→Prop,(∀ σ' H',N σ' H'→∃ m',m'<m∧W (i+1) m' σ' H')∧∀ x H',(Az K a).yld i H x H'→g x σ H' fun σ2 H2=>tb { D with nx:=N,ct:=N,bk:=D.nx } σ2 H2):=by
 refine⟨fun i m σ H=>m=xs.length-i∧i≤xs.length∧Pv i σ H,⟨xs.length,by simp,Nat.zero_le _,h0⟩,?_⟩
 rintro i m σ H ⟨rfl,hi,p⟩
 have q:=hl i σ H hi p
 by_cases hlt:i<xs.length
 ·refine .inr ⟨⟨xs,xs[i],q,by simp [hlt]⟩,Pv (i+1),fun σ' H' p'=>⟨xs.length-(i+1),by omega,rfl,hlt,p'⟩,fun x H' y=>?_⟩
  obtain⟨e,y⟩:=y
  subst e
  exact hs i x σ _ (y xs q) p
 ·have e:i=xs.length:=by omega
  subst e
  exact .inl ⟨⟨xs,q,Nat.le_refl _⟩,hd σ H p⟩
theorem yK {K:PySem.W.Frag} {a:Addr} {xs:List V} {g:TG} {tb:TS} {D:Ends} {σ:St} {H:Hp} (Pv:Nat→St→Hp→Prop) (h0:Pv 0 σ H) (hl:∀ i σ H,i≤xs.length→Pv i σ H→bD K H a xs)
  (hs:∀ i x σ H,xs[i]?=some x→Pv i σ H→g x σ H fun σ2 H2=>tb { D with nx:=Pv (i+1),ct:=Pv (i+1),bk:=D.nx } σ2 H2) (hd:∀ σ H,Pv xs.length σ H→D.nx σ H) :
  ∃ W:Nat→Nat→St→Hp→Prop,(∃ m,W 0 m σ H)∧∀ i m σ H,W i m σ H →
   ((AA K a).stop i H∧D.nx σ H)∨((AA K a).go i H∧∃ N:St→Hp→Prop,(∀ σ' H',N σ' H'→∃ m',m'<m∧W (i+1) m' σ' H')∧∀ x H',(AA K a).yld i H x H'→g x σ H' fun σ2 H2=>tb { D with nx:=N,ct:=N,bk:=D.nx } σ2 H2):=by
 refine⟨fun i m σ H=>m=xs.length-i∧i≤xs.length∧Pv i σ H,⟨xs.length,by simp,Nat.zero_le _,h0⟩,?_⟩
 rintro i m σ H ⟨rfl,hi,p⟩
 have q:=hl i σ H hi p
 by_cases hlt:i<xs.length
 ·refine .inr ⟨⟨xs,xs[i],q,by simp [hlt]⟩,Pv (i+1),fun σ' H' p'=>⟨xs.length-(i+1),by omega,rfl,hlt,p'⟩,fun x H' y=>?_⟩
  obtain⟨e,y⟩:=y
  subst e
  exact hs i x σ _ (y xs q) p
 ·have e:i=xs.length:=by omega
  subst e
  exact .inl ⟨⟨xs,q,Nat.le_refl _⟩,hd σ H p⟩
theorem ua {lo:Int} {n:Nat} {g:TG} {tb:TS} {D:Ends} {σ:St} {H:Hp} (Pv:Nat→St→Hp→Prop) (h0:Pv 0 σ H)
  (hs:∀ i σ H,i<n→Pv i σ H→g (.int (lo+i)) σ H fun σ2 H2=>tb { D with nx:=Pv (i+1),ct:=Pv (i+1),bk:=D.nx } σ2 H2) (hd:∀ σ H,Pv n σ H→D.nx σ H) :
  ∃ W:Nat→Nat→St→Hp→Prop,(∃ m,W 0 m σ H)∧∀ i m σ H,W i m σ H →
   ((zT lo n).stop i H∧D.nx σ H)∨((zT lo n).go i H∧∃ N:St→Hp→Prop,(∀ σ' H',N σ' H'→∃ m',m'<m∧W (i+1) m' σ' H')∧∀ x H',(zT lo n).yld i H x H'→g x σ H' fun σ2 H2=>tb { D with nx:=N,ct:=N,bk:=D.nx } σ2 H2):=by
 refine⟨fun i m σ H=>m=n-i∧i≤n∧Pv i σ H,⟨n,by simp,Nat.zero_le _,h0⟩,?_⟩
 rintro i m σ H ⟨rfl,hi,p⟩
 by_cases hlt:i<n
 ·refine .inr ⟨hlt,Pv (i+1),fun σ' H' p'=>⟨n-(i+1),by omega,rfl,hlt,p'⟩,fun x H' y=>?_⟩
  obtain⟨e,y⟩:=y
  subst e y
  exact hs i σ _ hlt p
 ·have e:i=n:=by omega
  subst e
  exact .inl ⟨Nat.le_refl _,hd σ H p⟩
end L2
namespace L2
open PySem PySem.Spec PyProof.Rows
abbrev R2:=V→V→Hp→VK→Prop
def jI (X:Cx) (f:Value→Value→Sem Value) (r:R2):Prop :=
 ∀(pins:List (Addr × Obj)) (s:Shared) (σ:St) (H:Hp) (x y:V) (v u:Value) (Q:VK),Inv X pins σ H s→RelV x v→RelV y u→r x y H Q →
  wpAny (model X.prog X.w) X.A (f v u) (EP X pins σ Q) X.xe s
def C8 (X:Cx) (f:Value→Sem Value) (r:V→Hp→VK→Prop):Prop :=
 ∀(pins:List (Addr × Obj)) (s:Shared) (σ:St) (H:Hp) (x:V) (v:Value) (Q:VK),Inv X pins σ H s→RelV x v→r x H Q →
  wpAny (model X.prog X.w) X.A (f v) (EP X pins σ Q) X.xe s
def cZ (X:Cx) (f:Value) (r:List V→Hp→VK→Prop):Prop :=
 ∀(pins:List (Addr × Obj)) (s:Shared) (σ:St) (H:Hp) (xs:List V) (us:List Value) (Q:VK),Inv X pins σ H s→Vals xs us→r xs H Q →
  wpAny (model X.prog X.w) X.A (call f us) (EP X pins σ Q) X.xe s
def C7 (X:Cx) (r:V→Hp→(Bool→Hp→Prop)→Prop):Prop :=
 ∀(pins:List (Addr × Obj)) (s:Shared) (σ:St) (H:Hp) (x:V) (v:Value) (Q:Bool→Hp→Prop),Inv X pins σ H s→RelV x v→r x H Q →
  wpAny (model X.prog X.w) X.A (truthy v) (TP X pins σ Q) X.xe s
def BX (r:R2) (ta tb:TE):TE:=fun σ H Q=>ta σ H fun x H1=>tb σ H1 fun y H2=>r x y H2 Q
def DC (r:V→Hp→VK→Prop) (ta:TE):TE:=fun σ H Q=>ta σ H fun x H1=>r x H1 Q
def rI (C:Int→Int→Prop) (g:Int→Int→V):R2:=fun x y H Q=>∃ i j,x=.int i∧y=.int j∧C i j∧Q (g i j) H
def xk (g:Int→Int→V):R2:=fun x y H Q=>∃ i j,x=.int i∧y=.int j∧Q (g i j) H
def rU (g:Int→V):V→Hp→VK→Prop:=fun x H Q=>∃ i,x=.int i∧Q (g i) H
section
variable {X:Cx} {a b c:Expr} {ta tb tc:TE} {pos:Pos}
theorem AJ (ha:PE X a ta) (hb:PE X b tb) {pins:List (Addr × Obj)} {s:Shared} {σ:St} {H:Hp} {R:V→V→Hp→Prop} (I:Inv X pins σ H s)
  (h:ta σ H fun x H1=>tb σ H1 fun y H2=>R x y H2) {Q:Value→Shared→Prop} {f:Value→Value→Sem Value}
  (hf:∀ v u s2 x y H2,Inv X pins σ H2 s2→RelV x v→RelV y u→R x y H2→wpAny (model X.prog X.w) X.A (f v u) Q X.xe s2) :
  wpAny (model X.prog X.w) X.A (eval a X.env) (fun v s₁=>wpAny (model X.prog X.w) X.A (eval b X.env) (fun u s₂=>wpAny (model X.prog X.w) X.A (f v u) Q X.xe s₂) X.xe s₁) X.xe s:=by
 refine bo (ha pins s σ H _ I h) fun v s1 ⟨x,H1,I1,r1,q1⟩=>?_
 refine bo (hb pins s1 σ H1 _ I1 q1) fun u s2 ⟨y,H2,I2,r2,q2⟩=>?_
 exact hf v u s2 x y H2 I2 r1 r2 q2
theorem av {op:Operator} {r:R2} (ho:jI X (binaryOp op) r) (ha:PE X a ta) (hb:PE X b tb):PE X (.BinOp a op b pos) (BX r ta tb):=by
 intro pins s σ H Q I h
 exact wpAny_BinOp (AJ ha hb I h fun v u s2 x y H2 I2 rx ry q=>ho pins s2 σ H2 x y v u Q I2 rx ry q)
theorem mf {op:UnaryOp} {r:V→Hp→VK→Prop} (ho:C8 X (unaryOp op) r) (ha:PE X a ta):PE X (.UnaryOp op a pos) (DC r ta):=by
 intro pins s σ H Q I h
 exact UnaryOp_ (bo (ha pins s σ H _ I h) fun v s1 ⟨x,H1,I1,r1,q1⟩=>ho pins s1 σ H1 x v Q I1 r1 q1)
theorem Cr {f:Value→Value→Sem Value} {C:Int→Int→Prop} {g:Int→Int→Int}
  (rule:∀(i j:Int) (t u:Tok) (s:Shared) (Q:Value→Shared→Prop) (E:Value→Shared→Prop),C i j→Q (.int (g i j) s.toks) { s with toks:=s.toks+1 }→wpAny (model X.prog X.w) X.A (f (.int i t) (.int j u)) Q E s) :
  jI X f (rI C fun i j=>.int (g i j)):=by
 intro pins s σ H x y v u Q I rx ry h
 obtain⟨i,j,rfl,rfl,hc,q⟩:=h
 obtain⟨t,rfl⟩:=rx
 obtain⟨t',rfl⟩:=ry
 exact rule i j t t' s _ _ hc ⟨.int (g i j),H,I.tok _,⟨_,rfl⟩,q⟩
theorem Bg {f:Value→Value→Sem Value} {g:Int→Int→Int}
  (rule:∀(i j:Int) (t u:Tok) (s:Shared) (Q:Value→Shared→Prop) (E:Value→Shared→Prop),Q (.int (g i j) s.toks) { s with toks:=s.toks+1 }→wpAny (model X.prog X.w) X.A (f (.int i t) (.int j u)) Q E s) :
  jI X f (xk fun i j=>.int (g i j)):=by
 intro pins s σ H x y v u Q I rx ry h
 obtain⟨i,j,rfl,rfl,q⟩:=h
 obtain⟨t,rfl⟩:=rx
 obtain⟨t',rfl⟩:=ry
 exact rule i j t t' s _ _ ⟨.int (g i j),H,I.tok _,⟨_,rfl⟩,q⟩
theorem zk {f:Value→Value→Sem Value} {g:Int→Int→Bool}
  (rule:∀(i j:Int) (t u:Tok) (s:Shared) (Q:Value→Shared→Prop) (E:Value→Shared→Prop),Q (.bool (g i j)) s→wpAny (model X.prog X.w) X.A (f (.int i t) (.int j u)) Q E s) :
  jI X f (xk fun i j=>.bl (g i j)):=by
 intro pins s σ H x y v u Q I rx ry h
 obtain⟨i,j,rfl,rfl,q⟩:=h
 obtain⟨t,rfl⟩:=rx
 obtain⟨t',rfl⟩:=ry
 exact rule i j t t' s _ _ ⟨.bl (g i j),H,I,rfl,q⟩
def BY (i j:Int):Prop:=0≤j∧j≤1000000∧i.natAbs<2^64
theorem bI:jI X (binaryOp .Add) (xk fun i j=>.int (i+j)):=Bg fun _ _ _ _ _ _ _ q=>add_int q
theorem bY:jI X (binaryOp .Sub) (xk fun i j=>.int (i-j)):=Bg fun _ _ _ _ _ _ _ q=>sub_int q
theorem aK:jI X (binaryOp .Mod) (rI (fun _ j=>0<j) fun i j=>.int (i%j)):=Cr fun i j _ _ _ _ _ hc q=>by
 have h1:(0:Int)<j:=hc
 exact mod_int' (by omega) (by rw [Int.fmod_eq_emod_of_nonneg i (by omega)];exact q)
theorem gh:jI X (inplaceOp .Add) (xk fun i j=>.int (i+j)):=Bg fun _ _ _ _ _ _ _ q=>iadd_int q
theorem Ea {f:Value→Sem Value} {g:Int→Int}
  (rule:∀(i:Int) (t:Tok) (s:Shared) (Q:Value→Shared→Prop) (E:Value→Shared→Prop),Q (.int (g i) s.toks) { s with toks:=s.toks+1 }→wpAny (model X.prog X.w) X.A (f (.int i t)) Q E s) :
  C8 X f (rU fun i=>.int (g i)):=by
 intro pins s σ H x v Q I rx h
 obtain⟨i,rfl,q⟩:=h
 obtain⟨t,rfl⟩:=rx
 exact rule i t s _ _ ⟨.int (g i),H,I.tok _,⟨_,rfl⟩,q⟩
theorem jc:C8 X (unaryOp .USub) (rU fun i=>.int (-i)):=Ea fun _ _ _ _ _ q=>neg_int q
end
def nF:V→V→Bool
 | .non,.non=>true | .non,.int _=>true | .int _,.non=>true | .non,.bl _=>true | .bl _,.non=>true | .non,.str _=>true | .str _,.non=>true
 | .int _,.int _=>true | .bl _,.bl _=>true | .str _,.str _=>true | .byt _,.byt _=>true
 | .int _,.str _=>true | .str _,.int _=>true | .bl _,.str _=>true | .str _,.bl _=>true
 | _,_=>false
def Dq:R2:=fun x y H Q=>nF x y=true∧Q (.bl (decide (x=y))) H
def Dr:R2:=fun x y H Q=>nF x y=true∧Q (.bl (!decide (x=y))) H
theorem rV {i j:Int}:decide (V.int i=V.int j)=(i==j):=by
 rw [Bool.eq_iff_iff]
 simp
theorem vx {i j:Bool}:decide (V.bl i=V.bl j)=(i==j):=by
 rw [Bool.eq_iff_iff]
 simp
theorem rW {i j:Str}:decide (V.str i=V.str j)=(i==j):=by
 rw [Bool.eq_iff_iff]
 simp
theorem rT {i j:Array UInt8}:decide (V.byt i=V.byt j)=(i.toList==j.toList):=by
 rw [Bool.eq_iff_iff]
 cases i
 cases j
 simp
section
variable {X:Cx} {a b c:Expr} {ta tb tc:TE} {pos:Pos}
theorem aT {pins:List (Addr × Obj)} {σ:St} {H:Hp} {s:Shared} {Q:VK} {k k':Bool} (I:Inv X pins σ H s) (q:Q (.bl k) H) (e:k=k'):EP X pins σ Q (.bool k') s:=by
 subst e
 exact⟨.bl k,H,I,rfl,q⟩
theorem bO:jI X (compareOp .Eq) Dq:=by
 intro pins s σ H x y v u Q I rx ry h
 obtain⟨hs,q⟩:=h
 cases x with
 | non =>
  cases rx
  cases y with
  | non=>cases ry;exact PySem.EqNone.eq_none_none (aT I q (by simp))
  | bl j=>cases ry;exact PySem.EqNone.eq_none_bool (aT I q (by simp))
  | int j=>obtain⟨t',rfl⟩:=ry;exact PySem.EqNone.eq_none_int (aT I q (by simp))
  | str j=>obtain⟨t',rfl⟩:=ry;exact PySem.EqNone.eq_none_str (aT I q (by simp))
  | _=>exact absurd (show false=true from hs) Bool.false_ne_true
 | bl i =>
  cases rx
  cases y with
  | non=>cases ry;exact PySem.EqNone.eq_bool_none (aT I q (by simp))
  | bl j=>cases ry;exact eq_bool (aT I q vx)
  | str j=>obtain⟨t',rfl⟩:=ry;exact PySem.EqMixed.eq_bool_str (aT I q (by simp))
  | _=>exact absurd (show false=true from hs) Bool.false_ne_true
 | int i =>
  obtain⟨t,rfl⟩:=rx
  cases y with
  | non=>cases ry;exact PySem.EqNone.eq_int_none (aT I q (by simp))
  | int j=>obtain⟨t',rfl⟩:=ry;exact eq_int (aT I q rV)
  | str j=>obtain⟨t',rfl⟩:=ry;exact PySem.EqMixed.eq_int_str (aT I q (by simp))
  | _=>exact absurd (show false=true from hs) Bool.false_ne_true
 | str i =>
  obtain⟨t,rfl⟩:=rx
  cases y with
  | non=>cases ry;exact PySem.EqNone.eq_str_none (aT I q (by simp))
  | bl j=>cases ry;exact PySem.EqMixed.eq_str_bool (aT I q (by simp))
  | int j=>obtain⟨t',rfl⟩:=ry;exact PySem.EqMixed.eq_str_int (aT I q (by simp))
  | str j=>obtain⟨t',rfl⟩:=ry;exact eq_str (aT I q rW)
  | _=>exact absurd (show false=true from hs) Bool.false_ne_true
 | byt i =>
  obtain⟨t,rfl⟩:=rx
  cases y with
  | byt j=>obtain⟨t',rfl⟩:=ry;exact PySem.W.eq_bytes (aT I q rT)
  | _=>exact absurd (show false=true from hs) Bool.false_ne_true
 | _=>cases y<;>exact absurd (show false=true from hs) Bool.false_ne_true
theorem dS:jI X (compareOp .NotEq) Dr:=by
 intro pins s σ H x y v u Q I rx ry h
 obtain⟨hs,q⟩:=h
 cases x with
 | non =>
  cases rx
  cases y with
  | non=>cases ry;exact PySem.EqNone.ne_none_none (aT I q (by simp))
  | bl j=>cases ry;exact PySem.EqNone.ne_none_bool (aT I q (by simp))
  | int j=>obtain⟨t',rfl⟩:=ry;exact PySem.EqNone.ne_none_int (aT I q (by simp))
  | str j=>obtain⟨t',rfl⟩:=ry;exact PySem.EqNone.ne_none_str (aT I q (by simp))
  | _=>exact absurd (show false=true from hs) Bool.false_ne_true
 | bl i =>
  cases rx
  cases y with
  | non=>cases ry;exact PySem.EqNone.ne_bool_none (aT I q (by simp))
  | bl j=>cases ry;exact ne_bool (aT I q (congrArg not vx))
  | str j=>obtain⟨t',rfl⟩:=ry;exact PySem.EqMixed.ne_bool_str (aT I q (by simp))
  | _=>exact absurd (show false=true from hs) Bool.false_ne_true
 | int i =>
  obtain⟨t,rfl⟩:=rx
  cases y with
  | non=>cases ry;exact PySem.EqNone.ne_int_none (aT I q (by simp))
  | int j=>obtain⟨t',rfl⟩:=ry;exact ne_int (aT I q (congrArg not rV))
  | str j=>obtain⟨t',rfl⟩:=ry;exact PySem.EqMixed.ne_int_str (aT I q (by simp))
  | _=>exact absurd (show false=true from hs) Bool.false_ne_true
 | str i =>
  obtain⟨t,rfl⟩:=rx
  cases y with
  | non=>cases ry;exact PySem.EqNone.ne_str_none (aT I q (by simp))
  | bl j=>cases ry;exact PySem.EqMixed.ne_str_bool (aT I q (by simp))
  | int j=>obtain⟨t',rfl⟩:=ry;exact PySem.EqMixed.ne_str_int (aT I q (by simp))
  | str j=>obtain⟨t',rfl⟩:=ry;exact ne_str (aT I q (congrArg not rW))
  | _=>exact absurd (show false=true from hs) Bool.false_ne_true
 | byt i =>
  obtain⟨t,rfl⟩:=rx
  cases y with
  | byt j=>obtain⟨t',rfl⟩:=ry;exact PySem.W.ne_bytes (aT I q (congrArg not rT))
  | _=>exact absurd (show false=true from hs) Bool.false_ne_true
 | _=>cases y<;>exact absurd (show false=true from hs) Bool.false_ne_true
theorem dR:jI X (compareOp .Lt) (xk fun i j=>.bl (decide (i<j))):=zk fun _ _ _ _ _ _ _ q=>lt_int q
theorem wL:jI X (compareOp .LtE) (xk fun i j=>.bl (decide (i≤j))):=zk fun _ _ _ _ _ _ _ q=>le_int q
theorem cw:jI X (compareOp .Gt) (xk fun i j=>.bl (decide (j<i))):=zk fun _ _ _ _ _ _ _ q=>gt_int q
theorem Ag:jI X (compareOp .GtE) (xk fun i j=>.bl (decide (j≤i))):=zk fun _ _ _ _ _ _ _ q=>ge_int q
theorem Bi:jI X (compareOp .Is) (fun x y H Q=>y=.non∧Q (.bl (decide (x=.non))) H):=by
 intro pins s σ H x y v u Q I rx ry h
 obtain⟨rfl,q⟩:=h
 cases ry
 refine is_none_gen (aT I q ?_)
 cases x<;>first
  | (cases rx;rfl)
  | (obtain⟨t,rfl⟩:=rx;rfl)
theorem sE:jI X (compareOp .IsNot) (fun x y H Q=>y=.non∧Q (.bl (!decide (x=.non))) H):=by
 intro pins s σ H x y v u Q I rx ry h
 obtain⟨rfl,q⟩:=h
 cases ry
 refine isnot_none_gen (aT I q ?_)
 cases x<;>first
  | (cases rx;rfl)
  | (obtain⟨t,rfl⟩:=rx;rfl)
theorem az (b:Expr) {op:CmpOp} (h:op≠.In:=by decide) (h2:op≠.NotIn:=by decide):behindInMarks op b=false:=by
 have e1:(op==CmpOp.In)=false:=by cases op<;>first | rfl | exact absurd rfl h
 have e2:(op==CmpOp.NotIn)=false:=by cases op<;>first | rfl | exact absurd rfl h2
 cases b<;>simp [behindInMarks,e1,e2]
theorem dh {op:CmpOp} {r:R2} (ho:jI X (compareOp op) r) (ha:PE X a ta) (hb:PE X b tb) (hm:behindInMarks op b=false):PE X (.Compare a [op] [b] pos) (BX r ta tb):=by
 intro pins s σ H Q I h
 exact wpAny_Compare1 (AJ ha hb I h fun v u s2 x y H2 I2 rx ry q=>ho pins s2 σ H2 x y v u Q I2 rx ry q) hm
def x6 (t:TE):TT:=fun σ H Q=>t σ H fun x H'=>∃ k,x=.bl k∧Q k H'
theorem aw {op:CmpOp} {r:R2} (ho:jI X (compareOp op) r) (ha:PE X a ta) (hb:PE X b tb) (hm:behindInMarks op b=false):PT X (.Compare a [op] [b] pos) (x6 (BX r ta tb)):=by
 intro pins s σ H Q I h
 refine wpAny_isTrue_Compare1 (bo (ha pins s σ H _ I h) fun v s1 ⟨x,H1,I1,r1,q1⟩=>bo (hb pins s1 σ H1 _ I1 q1) fun u s2 ⟨y,H2,I2,r2,q2⟩ =>
  bo (ho pins s2 σ H2 x y v u _ I2 r1 r2 q2) fun c s3 ⟨z,H3,I3,r3,k,e,q3⟩=>?_) hm
 subst e
 cases r3
 exact wpAny_truthy_bool ⟨H3,I3,q3⟩
def yx (K:PySem.W.Frag) (x:V) (H:Hp) (k:Bool):Prop :=
 match x with
 | .non=>k=false
 | .bl b=>k=b
 | .int i=>k=(i != 0)
 | .str y=>y.length≤sizeLine∧k=((y.length:Int) != 0)
 | .byt y=>y.size≤sizeLine∧k=((y.size:Int) != 0)
 | .ref p=>(∃ xs,aZ K H p xs∧k=!xs.isEmpty)∨(∃ xs,bD K H p xs∧k=!xs.isEmpty)∨∃ kvs,H p=some (.dK kvs)∧k=!kvs.isEmpty
 | _=>False
theorem qS {κ:Type} {kvs:List (κ × V)} {vs:List (κ × Value)} (r:KV kvs vs):(!vs.isEmpty)=!kvs.isEmpty:=by
 cases r<;>rfl
theorem kx {xs:List V} {its:List Value} (r:Vals xs its):(!its.toArray.isEmpty)=!xs.isEmpty:=by
 cases r<;>simp
theorem mX:(sizeLine:Nat)<2^63:=by rw [sizeLine_eq];decide
theorem BK:C7 X (fun x H Q=>∃ k,yx X.K x H k∧Q k H):=by
 intro pins s σ H x v Q I rx h
 obtain⟨k,e,q⟩:=h
 have hl:=mX
 have hs:sizeLine=16777216:=sizeLine_eq
 cases x with
 | non =>
  cases rx
  have e':k=false:=e
  subst e'
  exact truthy_none ⟨H,I,q⟩
 | bl b =>
  cases rx
  have e':k=b:=e
  subst e'
  exact wpAny_truthy_bool ⟨H,I,q⟩
 | int i =>
  obtain⟨t,rfl⟩:=rx
  have e':k=(i != 0):=e
  subst e'
  exact PySem.P.truthy_int ⟨H,I,q⟩
 | str y =>
  obtain⟨t,rfl⟩:=rx
  obtain⟨hy,e'⟩:y.length≤sizeLine∧k=((y.length:Int) != 0):=e
  subst e'
  exact PySem.P.truthy_str (by omega) ⟨H,I.tok _,q⟩
 | byt y =>
  obtain⟨t,rfl⟩:=rx
  obtain⟨hy,e'⟩:y.size≤sizeLine∧k=((y.size:Int) != 0):=e
  subst e'
  exact PySem.W.truthy_bytes (by omega) ⟨H,I.tok _,q⟩
 | ref p =>
  cases rx
  have e':(∃ xs,aZ X.K H p xs∧k=!xs.isEmpty)∨(∃ xs,bD X.K H p xs∧k=!xs.isEmpty)∨∃ kvs,H p=some (.dK kvs)∧k=!kvs.isEmpty:=e
  rcases e' with⟨xs,hx,e'⟩|⟨xs,hx,e'⟩|⟨kvs,hx,e'⟩
  ·subst e'
   obtain⟨its,r,pl,hz⟩:=I.list hx
   have hlen:=r.length
   exact wpAny_truthy_list pl.isList (by simp only [List.size_toArray];omega) ⟨H,I.tok _,by rw [kx r];exact q⟩
  ·subst e'
   obtain⟨its,r,pl,hz⟩:=I.tuple hx
   have hlen:=r.length
   exact truthy_tuple pl (by simp only [List.size_toArray];omega) ⟨H,I.tok _,by rw [kx r];exact q⟩
  ·subst e'
   obtain⟨hz,hS,vs,r,m⟩:kvs.length≤sizeLine∧(p==sysModules)=false∧∃ vs,KV kvs vs∧s.heap.DictOf (bF X.prog X.w) p vs:=I.hok p _ hx
   have hlen:kvs.length=vs.length:=Paired.length r
   exact wpAny_truthy_dict hS m (by omega) ⟨H,I.tok _,by rw [qS r];exact q⟩
 | _=>exact (show False from e).elim
theorem bN (ha:PE X a ta) (he:∀ whole,isTrue a X.env whole=(do let v ← whole;standAt a.pos;holding [v] (truthy v))) :
  PT X a (fun σ H Q=>ta σ H fun x H'=>∃ k,yx X.K x H' k∧Q k H'):=by
 intro pins s σ H Q I h
 exact isTrue_plain (bo (ha pins s σ H _ I h) fun v s1 ⟨x,H1,I1,r1,q1⟩=>BK pins s1 σ H1 x v Q I1 r1 q1) (he _)
theorem vals1 {x:V} {us:List Value} (r:Vals [x] us):∃ u,us=[u]∧RelV x u:=by
 cases r with
 | cons r1 r2=>cases r2;exact⟨_,rfl,r1⟩
theorem vals2 {x y:V} {us:List Value} (r:Vals [x,y] us):∃ u w',us=[u,w']∧RelV x u∧RelV y w':=by
 cases r with
 | cons r1 r2 =>
  cases r2 with
  | cons r3 r4=>cases r4;exact⟨_,_,rfl,r1,r3⟩
theorem j6:cZ X (.builtin "abs") (fun xs H Q=>∃ i,xs=[.int i]∧Q (.int (if i<0 then -i else i)) H):=by
 intro pins s σ H xs us Q I r h
 obtain⟨i,rfl,q⟩:=h
 obtain⟨u,rfl,t,rfl⟩:=vals1 r
 exact call_abs_int fun u tk=>⟨.int (if i<0 then -i else i),H,I.tok _,⟨_,rfl⟩,q⟩
theorem tT (hc:X.calm=true):cZ X (.builtin "min") (fun xs H Q=>∃ i j,xs=[.int i,.int j]∧Q (.int (if j<i then j else i)) H):=by
 intro pins s σ H xs us Q I r h
 obtain⟨i,j,rfl,q⟩:=h
 obtain⟨u,w',rfl,⟨t,rfl⟩,⟨t',rfl⟩⟩:=vals2 r
 refine min_two_ints (I.ok.hd hc) fun h' tk k=>⟨_,H,I.kept k,?_,q⟩
 by_cases hj:j<i
 ·rw [if_pos hj,if_pos hj];exact⟨_,rfl⟩
 ·rw [if_neg hj,if_neg hj];exact⟨_,rfl⟩
theorem tQ:cZ X (.type "int") (fun xs H Q=>(∃ i,xs=[.int i]∧Q (.int i) H)∨∃ k,xs=[.bl k]∧Q (.int (if k then 1 else 0)) H):=by
 intro pins s σ H xs us Q I r h
 rcases h with⟨i,rfl,q⟩|⟨k,rfl,q⟩
 ·obtain⟨u,rfl,t,rfl⟩:=vals1 r
  exact call_int_int ⟨.int i,H,I,⟨_,rfl⟩,q⟩
 ·obtain⟨u,rfl,r1⟩:=vals1 r
  cases r1
  exact call_int_bool ⟨.int (if k then 1 else 0),H,I.tok _,⟨_,rfl⟩,q⟩
end
end L2
namespace L2
open PySem PySem.Spec PyProof.Rows
structure qC (h:Heap) (x dx C:Addr) (mA:Str→Option Value):Prop where
 obj:h.get? x=some (PySem.W.instObj C dx)
 ns:h.Ns1 dx mA
 ne:dx≠x
theorem uk {h:Heap} {dx:Addr} {mA:Str→Option Value} (n:h.Ns1 dx mA):∃ od,h.get? dx=some od∧∀ name,PySem.W.lookIn name od=some (mA name):=by
 obtain⟨o,es,ep,ho,hd,hk,_,hm⟩:=n
 refine⟨o,ho,fun name=>?_⟩
 have e:=hm name
 unfold nsFind findBy at e
 rw [← Array.find?_toList] at e
 unfold PySem.W.lookIn
 rw [hd]
 dsimp only
 split
 ·rename_i y q
  rw [q] at e
  exact congrArg some e
 ·rename_i q
  rw [q] at e
  have a:es.toList.any (·.refKey)=false:=by
   rw [List.any_eq_false]
   intro y hy
   obtain⟨z,t,hkey⟩:=hk y (Array.mem_toList_iff.mp hy)
   simp [DictEntry.refKey,hkey]
  have a':¬es.toList.any (·.refKey)=true:=by rw [a];exact Bool.false_ne_true
  rw [if_neg a']
  exact congrArg some e
theorem qC.look {h:Heap} {x dx C:Addr} {mA:Str→Option Value} (I:qC h x dx C mA):∃ od,PySem.W.InstAt h x (PySem.W.instObj C dx) C (some od)∧∀ name,PySem.W.lookIn name od=some (mA name) :=
 let ⟨od,ho,hl⟩:=uk I.ns
 ⟨od,⟨I.obj,rfl,rfl,ho⟩,hl⟩
section
variable {prog:Program} {w:World} {A:Around} {E:Value→Shared→Prop} {s:Shared} {K:PySem.W.Frag} {x dx C f:Addr} {mA:Str→Option Value} {name:Str} {v:Value}
theorem get_map {expr:Bool} {Q:Value→Shared→Prop} (X:K.In s.heap) (I:qC s.heap x dx C mA) (hg:PySem.W.plainGet K C name=true) (hh:PySem.W.hasDictIn K C=true)
  (ha:PySem.W.findIn K (.ref C) name=some none) (hv:mA name=some v) (hv':PySem.W.handedIn v=true) (h:Q v { s with toks:=s.toks+1 }) :
  wpAny (model prog w) A (getAttr (.ref x) name expr) Q E s:=by
 obtain⟨od,J,hl⟩:=I.look
 exact PySem.W.get_value X J (PySem.W.plainGet_of hg).1 (PySem.W.findObj_own hh ha rfl (by rw [hl,hv])) hv' h
theorem vN {pl:Sem Bool} {Q:Value × List Value→Shared→Prop} (X:K.In s.heap) (I:qC s.heap x dx C mA) (hg:PySem.W.plainGet K C name=true)
  (hf:PySem.W.findIn K (.ref C) name=some (some (.ref f))) (ht:PySem.W.isFn K (.ref f)=true) (hv:mA name=none) (h:Q (.ref f,[.ref x]) s) :
  wpAny (model prog w) A (getMethod (.ref x) name pl) Q E s:=by
 obtain⟨od,J,hl⟩:=I.look
 exact PySem.W.method_fn X J (PySem.W.plainGet_of hg).1 (PySem.W.plainGet_of hg).2 hf (beq_iff_eq.mp ht) (by show (PySem.W.lookIn name od).map (·.isSome)=some false;rw [hl,hv];rfl) h
theorem zG {ns:List Str} {Q:Unit→Shared→Prop} (X:K.In s.heap) (I:qC s.heap x dx C mA)
  (hs:PySem.W.findIn K (.ref C) "__setattr__"=some (some (.builtin "object.__setattr__"))) (hp:PySem.W.plainOver K C=true) (ht:PySem.W.takerIn K C name=some none) (hh:PySem.W.hasDictIn K C=true)
  (hw:PySem.Within mA ns) (hsz:ns.length≤sizeLine)
  (h:∀ h',qC h' x dx C (fun y=>if y=name then some v else mA y)→Heap.SameBut dx s.heap h'→Q () { s with heap:=h',toks:=s.toks+2 }) :
  wpAny (model prog w) A (setAttr (.ref x) name v) Q E s:=by
 obtain⟨od,J,hl⟩:=I.look
 refine PySem.W.set_plain X J hs (PySem.W.osa_open (s:={ s with toks:=s.toks+1 }) (r:=none) X J hp ht fun b=>?_)
 obtain⟨cd,hc,hd'⟩:=PySem.W.any_some hh
 have hx:s.heap.get? x=some ⟨.ref C,some dx,.plain,#[]⟩:=I.obj
 refine wpAny_bind (wpAny_pure (wpAny_bind (wpAny_bind (wpAny_loadPart hx (wpAny_bind (PySem.W.Looks.here (s:={ s with toks:=s.toks+1 }) (PySem.W.looks_clsIn X hc) ?_))))))
 rw [hd']
 refine wpAny_pure (a:=some dx) (wpAny_bind (wpAny_pure (wpAny_bind ?_)))
 refine wpAny_nsSet1 (s:={ s with toks:=s.toks+1 }) I.ns fun h' hn2 hs2=>?_
 obtain⟨oD,esD,epD,hoD,hdD,hcD⟩:=hn2.count (PySem.Within.cons name v hw)
 refine wpAny_bind (wpAny_lookBehind hoD (by rw [hdD];exact pastItsLine_dict (Nat.le_trans hcD (by rw [List.length_cons];omega))) ?_)
 exact wpAny_pure (h _ ⟨(hs2.2 _ (Ne.symm I.ne)).trans I.obj,hn2,I.ne⟩ hs2)
theorem wa {R:Result→Shared→Prop} {vs:List Value} {kw:List (Str × Value)} (X:K.In s.heap) (hm:PySem.W.makesIn K C=true)
  (hi:PySem.W.findIn K (.ref C) "__init__"=some (some (.ref f))) (hf:PySem.W.typeIn K (.ref f)=some (.type "function"))
  (h:codeAny (model prog w) (A.under (.builtin "type.__call__" ⟨.ref C::vs,kw⟩)) (.call (.ref f) ⟨.ref (s.heap.objs.size+1)::vs,kw⟩) (PySem.W.InitBack (s.heap.objs.size+1) R)
   { s with heap:=(s.heap.push PySem.W.emptyDict).push (PySem.W.instObj C s.heap.objs.size) }) :
  codeAny (model prog w) A (.call (.ref C) ⟨vs,kw⟩) R s:=by
 obtain⟨hh,g,d,t,os⟩:=s
 exact PySem.W.make_core (PySem.W.makes_of X hm) (PySem.W.looks_findIn X hi) (fun self=>PySem.W.bind_fn X self hf) (.inl rfl) h
end
def fP (f:Str) (v:V):List (Str × V)→List (Str × V)
 | []=>[(f,v)]
 | (g,x)::r=>if g=f then (g,v)::r else (g,x)::fP f v r
theorem ji (f g:Str) (v:V):∀ fs:List (Str × V),(fP f v fs).lookup g=if g=f then some v else fs.lookup g
 | []=>by
  show List.lookup g [(f,v)]=_
  by_cases h:g=f
  ·have hb:(g==f)=true:=beq_iff_eq.mpr h
   simp only [List.lookup,hb,if_pos h]
  ·have hb:(g==f)=false:=beq_eq_false_iff_ne.mpr h
   simp only [List.lookup,hb,if_neg h]
 | (k,x)::r=>by
  have ih:=ji f g v r
  rw [show fP f v ((k,x)::r)=(if k=f then (k,v)::r else (k,x)::fP f v r) from rfl]
  by_cases hk:k=f
  ·rw [if_pos hk]
   by_cases h:g=k
   ·have hb:(g==k)=true:=beq_iff_eq.mpr h
    simp only [List.lookup,hb,if_pos (h.trans hk)]
   ·have hb:(g==k)=false:=beq_eq_false_iff_ne.mpr h
    simp only [List.lookup,hb,if_neg (fun e:g=f=>h (e.trans hk.symm))]
  ·rw [if_neg hk]
   by_cases h:g=k
   ·have hb:(g==k)=true:=beq_iff_eq.mpr h
    simp only [List.lookup,hb,if_neg (fun e:g=f=>hk (h.symm.trans e))]
   ·have hb:(g==k)=false:=beq_eq_false_iff_ne.mpr h
    simp only [List.lookup,hb]
    exact ih
theorem i6 (f:Str) (v:V):∀ fs:List (Str × V),f∈(fP f v fs).map (·.1)∧∀ g,g∈fs.map (·.1)→g∈(fP f v fs).map (·.1)
 | []=>⟨by simp [fP],fun g h=>by simp at h⟩
 | (k,x)::r=>by
  obtain⟨i1,i2⟩:=i6 f v r
  rw [show fP f v ((k,x)::r)=(if k=f then (k,v)::r else (k,x)::fP f v r) from rfl]
  by_cases hk:k=f
  ·rw [if_pos hk]
   subst hk
   exact⟨by simp,fun g h=>by simpa using h⟩
  ·rw [if_neg hk]
   refine⟨?_,fun g h=>?_⟩
   ·rw [List.map_cons]
    exact List.mem_cons_of_mem _ i1
   ·rw [List.map_cons] at h ⊢
    rcases List.mem_cons.mp h with e | e
    ·exact List.mem_cons.mpr (.inl e)
    ·exact List.mem_cons_of_mem _ (i2 g e)
theorem jh (f:Str) (v:V):∀ fs:List (Str × V),(fP f v fs).length≤fs.length+1
 | []=>by simp [fP]
 | (k,x)::r=>by
  have ih:=jh f v r
  rw [show fP f v ((k,x)::r)=(if k=f then (k,v)::r else (k,x)::fP f v r) from rfl]
  by_cases hk:k=f
  ·rw [if_pos hk,List.length_cons,List.length_cons];omega
  ·rw [if_neg hk,List.length_cons,List.length_cons];omega
theorem fC.some_of {v:V} {o:Option Value} (r:fC (some v) o):∃ u,o=some u∧RelV v u:=by
 cases o with
 | none=>exact (show False from r).elim
 | some u=>exact⟨u,rfl,r⟩
theorem fC.none_of {o:Option Value} (r:fC none o):o=none:=by
 cases o with
 | none=>rfl
 | some u=>exact (show False from r).elim
theorem uc {v:V} {u:Value} (r:RelV v u):PySem.W.handedIn u=true:=by
 cases v with
 | non=>cases (show u=Value.none from r);rfl
 | bl b=>cases (show u=Value.bool b from r);rfl
 | int i=>obtain⟨t,e⟩:=(show ∃ t,u=Value.int i t from r);cases e;rfl
 | str x=>obtain⟨t,e⟩:=(show ∃ t,u=Value.str x t from r);cases e;rfl
 | byt b=>obtain⟨t,e⟩:=(show ∃ t,u=Value.bytes b t from r);cases e;rfl
 | flt b=>obtain⟨t,e⟩:=(show ∃ t,u=Value.float b t from r);cases e;rfl
 | ref a=>cases (show u=Value.ref a from r);rfl
 | ty n=>cases (show u=Value.type n from r);rfl
section
variable {P:Program} {w:World} {H H':Hp} {h h':Heap} {a C dx:Addr} {fs fs':List (Str × V)}
theorem jO (hok:fG P w H h) (e:H a=some (.ins C dx fs)):∃ mA,qC h a dx C mA∧(∀ f,fC (fs.lookup f) (mA f))∧PySem.Within mA (fs.map (·.1))∧fs.length≤1000∧H dx=some (.own a):=by
 obtain⟨d,z,ne,ob,mA,n,r,q⟩:=(show br P w H h a (.ins C dx fs) from hok a _ e)
 exact⟨mA,⟨ob,n,ne⟩,r,q,z,d⟩
end
structure lH (K:PySem.W.Frag) (C:Addr):Prop where
 pg:PySem.W.plainGet K C Str.empty=true
 hd:PySem.W.hasDictIn K C=true
 po:PySem.W.plainOver K C=true
 sa:PySem.W.findIn K (.ref C) "__setattr__"=some (some (.builtin "object.__setattr__"))
theorem lH.get {K:PySem.W.Frag} {C:Addr} (c:lH K C) (f:Str):PySem.W.plainGet K C f=true:=c.pg
def cG (K:PySem.W.Frag) (C:Addr) (f:Str):Prop:=PySem.W.findIn K (.ref C) f=some none
theorem cG.CI {K:PySem.W.Frag} {C:Addr} {f:Str} (n:cG K C f):PySem.W.takerIn K C f=some none:=by
 unfold PySem.W.takerIn
 rw [show PySem.W.findIn K (.ref C) f=some none from n]
 rfl
structure Meth (K:PySem.W.Frag) (C:Addr) (m:Str) (f:Addr):Prop where
 at_:PySem.W.findIn K (.ref C) m=some (some (.ref f))
 fn:PySem.W.isFn K (.ref f)=true
 kp:PySem.W.keepIn K (.ref f)=true
section
variable {X:Cx} {pins:List (Addr × Obj)} {σ:St} {H:Hp} {s:Shared} {a C dx:Addr} {fs:List (Str × V)} {f:Str} {v:V} {A:Around} {E:Value→Shared→Prop}
theorem kj {b:Bool} {Q:Value→Shared→Prop} (I:Inv X pins σ H s) (e:H a=some (.ins C dx fs)) (c:lH X.K C) (n:cG X.K C f) (l:fs.lookup f=some v)
  (h:∀ u s',Inv X pins σ H s'→RelV v u→Q u s'):wpAny (model X.prog X.w) A (getAttr (.ref a) f b) Q E s:=by
 obtain⟨mA,O,r,_,_,_⟩:=jO I.hok e
 obtain⟨u,hu,ru⟩:=fC.some_of (v:=v) (o:=mA f) (by rw [← l];exact r f)
 exact get_map I.fF O (c.get f) c.hd n hu (uc ru) (h u _ (I.tok _) ru)
theorem kq {m:Str} {g:Addr} {pl:Sem Bool} {Q:Value × List Value→Shared→Prop} (I:Inv X pins σ H s) (e:H a=some (.ins C dx fs)) (c:lH X.K C) (k:Meth X.K C m g) (l:fs.lookup m=none)
  (h:Q (.ref g,[.ref a]) s):wpAny (model X.prog X.w) A (getMethod (.ref a) m pl) Q E s:=by
 obtain⟨mA,O,r,_,_,_⟩:=jO I.hok e
 have hn:mA m=none:=fC.none_of (by rw [← l];exact r m)
 exact vN I.fF O (c.get m) k.at_ k.fn hn h
theorem kU {y:V} {u:Value} {Q:Unit→Shared→Prop} (I:Inv X pins σ H s) (e:H a=some (.ins C dx fs)) (c:lH X.K C) (n:cG X.K C f) (hl:fs.length<1000) (ry:RelV y u)
  (h:∀ s',Inv X pins σ (upd H a (.ins C dx (fP f y fs))) s'→Q () s'):wpAny (model X.prog X.w) A (setAttr (.ref a) f u) Q E s:=by
 obtain⟨mA,O,r,wi,_,ho⟩:=jO I.hok e
 have hz:(fs.map (·.1)).length≤sizeLine:=by rw [List.length_map,sizeLine_eq];omega
 refine zG I.fF O c.sa c.po n.CI c.hd wi hz fun h' O' sb=>h _ ?_
 have hd:∃ o,h'.get? dx=some o:=let ⟨o,_,_,e',_⟩:=O'.ns;⟨o,e'⟩
 refine I.write (x:=a) (e:=dx) (by rw [e];exact True.intro) (.inr ho) (fun b q hb z=>(sb.2 b hb).trans z) hd ?_
 refine⟨by rw [au O.ne];exact ho,?_,O.ne,O'.obj,_,O'.ns,fun g=>?_,fun g hg=>?_⟩
 ·have:=jh f y fs;omega
 ·show fC ((fP f y fs).lookup g) (if g=f then some u else mA g)
  rw [ji]
  by_cases q:g=f
  ·rw [if_pos q,if_pos q];exact ry
  ·rw [if_neg q,if_neg q];exact r g
 ·by_cases q:g=f
  ·rw [q];exact (i6 f y fs).1
  ·refine (i6 f y fs).2 g (wi g fun z=>hg ?_)
   show (if g=f then some u else mA g)=none
   rw [if_neg q];exact z
theorem Inv.made (I:Inv X pins σ H s):Inv X pins σ (upd (upd H s.heap.objs.size (.own (s.heap.objs.size+1))) (s.heap.objs.size+1) (.ins C s.heap.objs.size []))
  { s with heap:=(s.heap.push PySem.W.emptyDict).push (PySem.W.instObj C s.heap.objs.size) }:=by
 have e1:(s.heap.push PySem.W.emptyDict).get? s.heap.objs.size=some PySem.W.emptyDict:=Heap.get?_push_size s.heap rfl
 have e2:((s.heap.push PySem.W.emptyDict).push (PySem.W.instObj C s.heap.objs.size)).get? (s.heap.objs.size+1)=some (PySem.W.instObj C s.heap.objs.size):=by
  have:=Heap.get?_push_size (s.heap.push PySem.W.emptyDict) (o:=PySem.W.instObj C s.heap.objs.size) rfl
  rwa [Heap.size_push] at this
 have e3:(s.heap.push PySem.W.emptyDict).Ns s.heap.objs.size (fun _=>none):=⟨PySem.W.emptyDict,#[],_,e1,rfl,(fun e he=>absurd he (by simp)),fun _=>rfl⟩
 have I1:=I.laid (a:=s.heap.objs.size) (o:=.own (s.heap.objs.size+1)) (h':=s.heap.push PySem.W.emptyDict) (t':=s.toks) (fun b u q=>Heap.get?_push_of_some _ q) (Nat.le_refl _) ⟨_,e1⟩
 refine I1.laid (a:=s.heap.objs.size+1) (o:=.ins C s.heap.objs.size []) (t':=s.toks) (fun b u q=>Heap.get?_push_of_some _ q) (Nat.le_of_eq (Heap.size_push _ _)) ?_
 have ne:s.heap.objs.size≠s.heap.objs.size+1:=Nat.ne_of_lt (Nat.lt_succ_self _)
 refine⟨by rw [au ne,ag],Nat.zero_le _,ne,e2,fun _=>none,(Heap.Ns1.of_empty e3).at fun o q=>Heap.get?_push_of_some _ q,fun _=>True.intro,fun y hy=>absurd rfl hy⟩
theorem yC {prog:Program} {w:World} {env:Env} {e:Expr} {f:Str} {pos:Pos} {s:Shared} {Q:Value→Shared→Prop} (hb:attributeBase e f env (eval e env)=eval e env)
  (h:wpAny (model prog w) A (eval e env) (fun o s₁=>wpAny (model prog w) A (getAttr o f true) Q E s₁) E s):wpAny (model prog w) A (eval (.Attribute e f pos) env) Q E s :=
 Attribute_any_ h (by rw [arm_eval_Attribute,hb])
end
def BE (K:PySem.W.Frag) (ta:TE) (f:Str):TE:=fun σ H Q=>ta σ H fun x H1=>∃ a C dx fs v,x=.ref a∧H1 a=some (.ins C dx fs)∧lH K C∧cG K C f∧fs.lookup f=some v∧Q v H1
def Bw (K:PySem.W.Frag) (ta tv:TE) (f:Str):TS:=fun D σ H=>tv σ H fun y H1=>ta σ H1 fun x H2=>∃ a C dx fs,x=.ref a∧H2 a=some (.ins C dx fs)∧lH K C∧cG K C f∧fs.length<1000 ∧
 D.nx σ (upd H2 a (.ins C dx (fP f y fs)))
def B1 (X:Cx) (op:Operator) (rd:V→V→Hp→VK→Prop):Prop :=
 ∀(pins:List (Addr × Obj)) (s:Shared) (σ:St) (H:Hp) (x y:V) (u v:Value) (Q:VK),Inv X pins σ H s→RelV x u→RelV y v→rd x y H Q→wpAny (model X.prog X.w) X.A (inplaceOp op u v) (EP X pins σ Q) X.xe s
def jT (K:PySem.W.Frag) (ta tv:TE) (rd:V→V→Hp→VK→Prop) (f:Str):TS:=fun D σ H=>ta σ H fun x H1=>∃ a C dx fs v,x=.ref a∧H1 a=some (.ins C dx fs)∧lH K C∧cG K C f∧fs.lookup f=some v ∧
 tv σ H1 fun y H2=>rd v y H2 fun z H3=>∃ dx' fs',H3 a=some (.ins C dx' fs')∧fs'.length<1000∧D.nx σ (upd H3 a (.ins C dx' (fP f z fs')))
section
variable {X:Cx} {o e value:Expr} {f:Str} {pos pos' tpos:Pos} {ta tv:TE}
theorem gX (he:PE X e ta) (hb:attributeBase e f X.env (eval e X.env)=eval e X.env):PE X (.Attribute e f pos) (BE X.K ta f):=by
 intro pins s σ H Q I h
 refine yC hb (bo (he pins s σ H _ I h) fun u s1 ⟨x,H1,I1,rx,a,C,dx,fs,v,ex,ea,c,n,l,q⟩=>?_)
 subst ex
 obtain rfl:u=Value.ref a:=rx
 exact kj I1 ea c n l fun u' s2 I2 ru=>⟨v,H1,I2,ru,q⟩
theorem rA (ha:PE X o ta) (hv:PE X value tv) (hs:swapsWith value (some (.Attribute o f pos')) pos.line X.env=pure false):PS X (.Assign [.Attribute o f pos'] value pos) (Bw X.K ta tv f):=by
 intro pins s σ H D I h
 refine plainObj_wpAny_Assign_Attribute (bo (hv pins s σ H _ I h) fun u s1 ⟨y,H1,I1,ry,q⟩=>bo (ha pins s1 σ H1 _ I1 q) fun ov s2 ⟨x,H2,I2,rx,a,C,dx,fs,ex,ea,c,n,l,q2⟩=>?_) hs
 subst ex
 obtain rfl:ov=Value.ref a:=rx
 exact kU I2 ea c n l ry fun s3 I3=>⟨σ,_,I3,q2⟩
theorem uQ {op:Operator} {rd:V→V→Hp→VK→Prop} (ha:PE X o ta) (hv:PE X value tv) (hop:B1 X op rd):PS X (.AugAssign (.Attribute o f tpos) op value pos) (jT X.K ta tv rd f):=by
 intro pins s σ H D I h
 refine wpAny_AugAssign_AttributeAny (bo (ha pins s σ H _ I h) fun ov s1 ⟨x,H1,I1,rx,a,C,dx,fs,v,ex,ea,c,n,l,q⟩=>?_)
 subst ex
 obtain rfl:ov=Value.ref a:=rx
 refine kj I1 ea c n l fun u s2 I2 ru=>bo (hv pins s2 σ H1 _ I2 q) fun w3 s3 ⟨y,H2,I3,ry,q3⟩=>bo (hop pins s3 σ H2 v y u w3 _ I3 ru ry q3) fun w4 s4 ⟨z,H3,I4,rz,dx',fs',ea',l',q4⟩=>?_
 exact kU I4 ea' c n l' rz fun s5 I5=>⟨σ,_,I5,q4⟩
def Dm:V→V→Hp→VK→Prop:=fun x y H Q=>∃ i j,x=.int i∧y=.int j∧Q (.int (i+j)) H
theorem AU:B1 X .Add Dm:=by
 rintro pins s σ H x y u v Q I rx ry ⟨i,j,rfl,rfl,q⟩
 obtain⟨t,rfl⟩:=(show ∃ t,u=Value.int i t from rx)
 obtain⟨t',rfl⟩:=(show ∃ t',v=Value.int j t' from ry)
 exact PyProof.Rows.iadd_int ⟨.int (i+j),H,I.tok _,⟨_,rfl⟩,q⟩
end
section
variable {X:Cx} {pins:List (Addr × Obj)} {σ:St} {H:Hp} {s:Shared} {A:Around} {E:Value→Shared→Prop} {Q:Value→Shared→Prop} {c:Value} {b:Bool}
inductive gA (K:PySem.W.Frag) (H:Hp):V→Value→Prop where
 | non:gA K H .non (.type "NoneType")
 | bl (x:Bool):gA K H (.bl x) (.type "bool")
 | int (i:Int):gA K H (.int i) (.type "int")
 | str (x:Str):gA K H (.str x) (.type "str")
 | flt (x:UInt64):gA K H (.flt x) (.type "float")
 | lst {a:Addr} {xs:List V} (e:H a=some (.lst xs)):gA K H (.ref a) (.type "list")
 | frz {a:Addr} {o:Obj} {xs:List V} (e:H a=some (.frz o (.lst xs))):gA K H (.ref a) (.type "list")
 | tup {a:Addr} {xs:List V} (e:H a=some (.tup xs)):gA K H (.ref a) (.type "tuple")
 | dK {a:Addr} {kvs:List (Key × V)} (e:H a=some (.dK kvs)):gA K H (.ref a) (.type "dict")
 | dT {a:Addr} {kvs:List (List Key × V)} (e:H a=some (.dT kvs)):gA K H (.ref a) (.type "dict")
 | ins {a C dx:Addr} {fs:List (Str × V)} (e:H a=some (.ins C dx fs)) (cl:lH K C) (ha:PySem.W.findIn K (.ref C) "__class__"=some (some (.builtin "object.__class__")))
   (hn:PySem.W.specialIn K (.builtin "object.__class__") "__get__"=some (some (.builtin "getset_descriptor.__get__"))) (htk:PySem.W.takesIn K (.builtin "object.__class__")=some true)
   (hm:PySem.W.mroIn K C (.type "object")=some true):gA K H (.ref a) (.ref C)
theorem gi {x:V} {u t:Value} (I:Inv X pins σ H s) (rx:RelV x u) (ty:gA X.K H x t) (e:PySem.W.kitOne X.K t c=some b) (h:∀ tk,Q (.bool b) { s with toks:=tk }) :
  wpAny (model X.prog X.w) A (call (.builtin "isinstance") [u,c]) Q E s:=by
 cases ty with
 | non=>cases (show u=Value.none from rx);exact PySem.W.kia_one PySem.W.kitx_none I.fF True.intro e (fun z=>nomatch z) h
 | bl y=>cases (show u=Value.bool y from rx);exact PySem.W.kia_one PySem.W.kitx_bool I.fF True.intro e (fun z=>nomatch z) h
 | int i=>obtain⟨t,q⟩:=(show ∃ t,u=Value.int i t from rx);cases q;exact PySem.W.kia_one PySem.W.kitx_int I.fF True.intro e (fun z=>nomatch z) h
 | str y=>obtain⟨t,q⟩:=(show ∃ t,u=Value.str y t from rx);cases q;exact PySem.W.kia_one PySem.W.kitx_str I.fF True.intro e (fun z=>nomatch z) h
 | flt y=>obtain⟨t,q⟩:=(show ∃ t,u=Value.float y t from rx);cases q;exact PySem.W.kia_one PySem.W.kitx_float I.fF True.intro e (fun z=>nomatch z) h
 | @lst a xs ea =>
  cases (show u=Value.ref a from rx)
  obtain⟨_,_,n,_,h1⟩:=(show br X.prog X.w H s.heap a (.lst xs) from I.hok a _ ea)
  exact PySem.W.kia_one PySem.W.kitx_list I.fF ⟨_,h1,rfl⟩ e (fun z=>nomatch z) h
 | @frz a ob xs ea =>
  cases (show u=Value.ref a from rx)
  obtain⟨_,_,_,n,_,h1⟩:=(show br X.prog X.w H s.heap a (.frz ob (.lst xs)) from I.hok a _ ea)
  exact PySem.W.kia_one PySem.W.kitx_list I.fF ⟨_,h1,rfl⟩ e (fun z=>nomatch z) h
 | @tup a xs ea =>
  cases (show u=Value.ref a from rx)
  obtain⟨_,_,_,p⟩:=(show br X.prog X.w H s.heap a (.tup xs) from I.hok a _ ea)
  obtain⟨o,h1,h2,_⟩:=p
  exact PySem.W.kia_one PySem.W.kitx_tuple I.fF ⟨o,h1,h2⟩ e (fun z=>nomatch z) h
 | @dK a kvs ea =>
  cases (show u=Value.ref a from rx)
  obtain⟨_,_,vs,_,p⟩:=(show br X.prog X.w H s.heap a (.dK kvs) from I.hok a _ ea)
  obtain⟨o,es,ep,h1,h2,_⟩:=p
  exact PySem.W.kia_one PySem.W.kitx_dict I.fF ⟨o,h1,h2.1⟩ e (fun z=>nomatch z) h
 | @dT a kvs ea =>
  cases (show u=Value.ref a from rx)
  obtain⟨_,_,xs,_,o,es,ep,h1,h2,_⟩:=(show br X.prog X.w H s.heap a (.dT kvs) from I.hok a _ ea)
  exact PySem.W.kia_one PySem.W.kitx_dict I.fF ⟨o,h1,h2.1⟩ e (fun z=>nomatch z) h
 | @ins a C dx fs ea cl ha hn htk hm =>
  cases (show u=Value.ref a from rx)
  obtain⟨mA,O,_⟩:=jO I.hok ea
  obtain⟨od,J,_⟩:=O.look
  exact PySem.W.kia_one (PySem.W.kitx_own (cl.get _) cl.hd ha hn htk hm) I.fF J e (fun z=>nomatch z) h
end
end L2
namespace L2
open PySem PySem.Spec PyProof.Rows
structure bP (k:Nat) (A:Around):Prop where
 hd:A.handled=none
 dp:A.depth+3*k+5<recursionLimit
 un:A.units+16*k+200<cLine
theorem bP.mono {j k:Nat} {A:Around} (r:bP k A) (h:j≤k):bP j A:=⟨r.hd,by have:=r.dp;omega,by have:=r.un;omega⟩
theorem bP.deeper {k:Nat} {A:Around} (r:bP (k+1) A) (env:Env):bP k (A.deeper env) :=
 ⟨r.hd,by have:=r.dp;show A.depth+1+3*k+5<_;omega,by have:=r.un;show A.units+3+16*k+200<_;omega⟩
theorem qU {A:Around} {C:Addr} {us:List Value} {kw:List (Str × Value)}:(A.under (.builtin "type.__call__" ⟨.ref C::us,kw⟩)).depth=A.depth+1:=by
 first | rfl | simp [Around.under,Code.weight,Code.isCreation,Code.isGuard,Code.isCaller,Code.frames,Code.isFrame,guardIds]
theorem qV {A:Around} {C:Addr} {us:List Value} {kw:List (Str × Value)}:(A.under (.builtin "type.__call__" ⟨.ref C::us,kw⟩)).units=A.units+1:=by
 first | rfl | simp [Around.under,Code.cUnits,Code.frames,Code.isFrame]
theorem bP.make {k:Nat} {A:Around} (r:bP (k+1) A) (C:Addr) (us:List Value) (kw:List (Str × Value)):bP k (A.under (.builtin "type.__call__" ⟨.ref C::us,kw⟩)) :=
 ⟨r.hd,by have:=r.dp;rw [qU];omega,by have:=r.un;rw [qV];omega⟩
theorem bP.depth {k:Nat} {A:Around} (r:bP k A):A.depth<recursionLimit:=by have:=r.dp;omega
theorem bP.units {k:Nat} {A:Around} (r:bP k A):A.units+64<cLine:=by have:=r.un;omega
def uY:TA:=fun _ H Q=>Q [] H
def qr (ta:TE) (tr:TA):TA:=fun σ H Q=>ta σ H fun x H1=>tr σ H1 fun xs H2=>Q (x::xs) H2
section
variable {X:Cx} {e:Expr} {es:List Expr} {te:TE} {t:TA} {pos:Pos}
theorem af:PA X [] uY:=fun _ _ _ _ H Q I h=>Calls.spliced_nil ⟨[],H,I,.nil,h⟩
theorem aa (ha:PE X e te) (hr:PA X es t) (hs:starEach (e::es) X.env=(false,eval e X.env)::starEach es X.env:=by rfl):PA X (e::es) (qr te t):=by
 intro pos pins s σ H Q I h
 rw [hs]
 show wpAny _ _ (spliced ((false,eval e X.env)::backTo pos (starEach es X.env))) _ _ s
 refine Calls.spliced_cons (bo (ha pins s σ H _ I h) fun u s1 ⟨x,H1,I1,r1,q1⟩=>?_)
 exact bo (hr pos pins s1 σ H1 _ I1 q1) fun us s2 ⟨xs,H2,I2,r2,q2⟩=>⟨x::xs,H2,I2,.cons r1 r2,q2⟩
def BJ (t:TA):TE:=fun σ H Q=>t σ H fun xs H1=>xs.length≤sizeLine∧∀ p,H1 p=none→Q (.ref p) (upd H1 p (.tup xs))
def BF (t:TA):TE:=fun σ H Q=>t σ H fun xs H1=>xs.length≤sizeLine∧∀ p,H1 p=none→Q (.ref p) (upd H1 p (.lst xs))
theorem aM {x1} (h:PA X es t):PE X (.Tuple es x1 pos) (BJ t):=by
 intro pins s σ H Q I hq
 refine wpAny_Tuple_spliced (bo (h pos pins s σ H _ I hq) fun us s1 ⟨xs,H1,I1,r,z,q⟩=>⟨by rw [← r.length];exact z,?_⟩)
 have hf:H1 s1.heap.objs.size=none:=I1.hok.fresh (Nat.le_refl _)
 refine⟨.ref s1.heap.objs.size,upd H1 s1.heap.objs.size (.tup xs),I1.laid (t':=s1.toks) (fun b u e=>Heap.get?_push_of_some _ e) (Nat.le_refl _) ?_,rfl,q _ hf⟩
 exact⟨z,us,r,⟨_,Heap.get?_push_size _ rfl,rfl,_,rfl⟩⟩
theorem dG (h:PA X es t):PE X (.List es pos) (BF t):=by
 intro pins s σ H Q I hq
 refine wpAny_List_spliced (bo (h pos pins s σ H _ I hq) fun us s1 ⟨xs,H1,I1,r,z,q⟩=>⟨by rw [← r.length];exact z,?_⟩)
 have hf:H1 s1.heap.objs.size=none:=I1.hok.fresh (Nat.le_refl _)
 refine⟨.ref s1.heap.objs.size,upd H1 s1.heap.objs.size (.lst xs),I1.laid (t':=s1.toks) (fun b u e=>Heap.get?_push_of_some _ e) (Nat.le_refl _) ?_,rfl,q _ hf⟩
 exact⟨z,us,0,r,Heap.get?_push_size _ rfl⟩
end
abbrev Sp:=List V→Hp→VK→XK→Prop
abbrev lq:=List Env→Hp→Shared→XK→Value→Shared→Prop
structure qA (P:Program) (w:World) (K:PySem.W.Frag) (mg:Str→Option Value) (base:Heap) (A:Around) (outer:List Env) (s:Shared) (H:Hp):Prop where
 frames:A.frames=some outer
 mod:Mod K mg base
 bs:∀ b o,base.get? b=some o→s.heap.get? b=some o∧H b=none
 bsz:base.objs.size≤s.heap.objs.size
 jz:s.heap.FunFrames base outer
 frf:∀ b∈gD outer,H b=none
 hok:fG P w H s.heap
 bare:AllBare s.gens
def CE (outer:List Env) (P:Program) (w:World) (H:Hp) (s:Shared) (Q:VK) (u:Value) (s':Shared):Prop :=
 ∃ v H',s'.os=s.os∧AllBare s'.gens∧Un (gD outer) [] H H' s.heap s'.heap∧fG P w H' s'.heap∧RelV v u∧Q v H'
def CR (CX:lq) (outer:List Env) (P:Program) (w:World) (H:Hp) (s:Shared) (Q:VK) (E:XK) (r:Result) (s':Shared):Prop :=
 match r with
 | .ok (.ret u)=>CE outer P w H s Q u s'
 | .ok _=>False
 | .error e=>CX outer H s E e s'
structure cS (P:Program) (w:World) (K:PySem.W.Frag) (mg:Str→Option Value) (base:Heap) (CX:lq) (k:Nat) (f:Addr) (fd:FuncData) (ps:List Str) (sp:Sp):Prop where
 len:∀ vs H Q E,sp vs H Q E→vs.length=ps.length
 run:∀(A:Around) (outer:List Env) (s:Shared) (H:Hp) (args:Args) (us:List Value) (vs:List V) (Q:VK) (E:XK),bP k A→qA P w K mg base A outer s H→BindsTo s fd args (ps.zip us)→Vals vs us→sp vs H Q E →
  codeAny (model P w) A (.call (.ref f) args) (CR CX outer P w H s Q E) s
theorem cS.mono {P:Program} {w:World} {K:PySem.W.Frag} {mg:Str→Option Value} {base:Heap} {CX:lq} {j k:Nat} {f:Addr} {fd:FuncData} {ps:List Str} {sp:Sp} (F:cS P w K mg base CX j f fd ps sp) (h:j≤k) :
  cS P w K mg base CX k f fd ps sp:=⟨F.len,fun A outer s H args us vs Q E hr=>F.run A outer s H args us vs Q E (hr.mono h)⟩
theorem cS.imp {P:Program} {w:World} {K:PySem.W.Frag} {mg:Str→Option Value} {base:Heap} {CX:lq} {k:Nat} {f:Addr} {fd:FuncData} {ps:List Str} {sp sp':Sp} (F:cS P w K mg base CX k f fd ps sp)
  (h:∀ vs H Q E,sp' vs H Q E→sp vs H Q E):cS P w K mg base CX k f fd ps sp' :=
 ⟨fun vs H Q E q=>F.len vs H Q E (h _ _ _ _ q),fun A outer s H args us vs Q E hr he hb hv hs=>F.run A outer s H args us vs Q E hr he hb hv (h _ _ _ _ hs)⟩
theorem qA.make {P:Program} {w:World} {K:PySem.W.Frag} {mg:Str→Option Value} {base:Heap} {A:Around} {outer:List Env} {s:Shared} {H:Hp} (e:qA P w K mg base A outer s H) (C:Addr) (us:List Value) (kw:List (Str × Value)) :
  qA P w K mg base (A.under (.builtin "type.__call__" ⟨.ref C::us,kw⟩)) outer s H:=⟨by first | exact e.frames | (simpa [Around.under,Code.envs,Code.isFrame,pushEnvs] using e.frames),e.mod,e.bs,e.bsz,e.jz,e.frf,e.hok,e.bare⟩
section
variable {X:Cx} {pins:List (Addr × Obj)} {σ:St} {H:Hp} {s s':Shared}
theorem Inv.AN (I:Inv X pins σ H s):qA X.prog X.w X.K X.mg X.base X.A X.stack s H :=
 ⟨I.ok.frames,I.ok.mod,I.bs,Nat.le_trans I.ok.bsz I.sz,I.stack,I.iM,I.hok,I.bare⟩
theorem Inv.after {Q:VK} {u:Value} (I:Inv X pins σ H s) (h:CE X.stack X.prog X.w H s Q u s'):EP X pins σ Q u s':=by
 obtain⟨v,H',os,bare,un,hok,r,q⟩:=h
 obtain⟨hh,g,d,t,os'⟩:=s'
 obtain rfl:os'=s.os:=os
 exact⟨v,H',I.call (h':=hh) (g':=g) (d':=d) (t':=t) (ch:=[]) un hok bare (fun b z=>absurd z (by simp)),r,q⟩
end
def mG (sp:Sp) (aQ:List V) (E:XK) (t:TA):TE:=fun σ H Q=>t σ H fun vs H1=>sp (vs++aQ) H1 Q E
def mH (C:Addr) (m:Str) (sp:Sp) (aQ:List V) (E:XK) (ta:TE) (t:TA):TE:=fun σ H Q=>ta σ H fun x H1=>∃ a dx fs,x=.ref a∧H1 a=some (.ins C dx fs)∧fs.lookup m=none ∧
 t σ H1 fun vs H2=>sp (x::(vs++aQ)) H2 Q E
def tJ (C:Addr) (sp:Sp) (aQ:List V) (E:XK) (t:TA):TE:=fun σ H Q=>t σ H fun vs H1=>∀ x dx,H1 x=none→H1 dx=none→dx≠x →
 sp (.ref x::(vs++aQ)) (upd (upd H1 dx (.own x)) x (.ins C dx [])) (fun v H2=>v=.non∧Q (.ref x) H2) E
def Binds (K:PySem.W.Frag) (fd:FuncData) (ps:List Str) (ds:List Value):Prop :=
 ∀(s:Shared) (us:List Value),K.In s.heap→(us++ds).length=ps.length→BindsTo s fd ⟨us,[]⟩ (ps.zip (us++ds))
theorem Binds.all {K:PySem.W.Frag} {fd:FuncData} {ps:List Str} (h:∀ us:List Value,us.length=ps.length→bindArgs fd ⟨us,[]⟩=pure (ps.zip us)):Binds K fd ps []:=fun s us _ hl=>by
 rw [List.append_nil] at hl ⊢
 exact .of_eq (h us hl)
def Passes (CX:lq) (X:Cx) (E:XK):Prop:=∀(pins:List (Addr × Obj)) (σ:St) (H:Hp) (s:Shared) (e:Value) (s':Shared),Inv X pins σ H s→CX X.stack H s E e s'→X.xe e s'
section
variable {X:Cx} {CX:lq} {k:Nat} {f C:Addr} {fd:FuncData} {ps:List Str} {sp:Sp} {aQ:List V} {ds:List Value} {E:XK} {x m:Str} {p pos apos:Pos} {e o:Expr} {es:List Expr} {ta:TE} {t:TA}
theorem rB {pins:List (Addr × Obj)} {σ:St} {H:Hp} {s:Shared} {Q:VK} {us:List Value} {vs:List V} (F:cS X.prog X.w X.K X.mg X.base CX k f fd ps sp) (hr:bP k X.A) (hb:Binds X.K fd ps ds) (hd:Vals aQ ds) (hx:Passes CX X E)
  (I:Inv X pins σ H s) (r:Vals vs us) (h:sp (vs++aQ) H Q E):wpAny (model X.prog X.w) X.A (call (.ref f) us) (EP X pins σ Q) X.xe s:=by
 have r2:Vals (vs++aQ) (us++ds):=r.append hd
 have hl:(us++ds).length=ps.length:=by rw [← r2.length];exact F.len _ _ _ _ h
 refine wpAny_call (codeAny_mono (F.run X.A X.stack s H ⟨us,[]⟩ (us++ds) (vs++aQ) Q E hr I.AN (hb s us I.fF hl) r2 h) fun r s' hq=>?_)
 cases r with
 | error e=>exact hx pins σ H s e s' I hq
 | ok fl =>
  cases fl with
  | ret u=>exact I.after hq
  | next=>exact False.elim hq
  | brk=>exact False.elim hq
  | cont=>exact False.elim hq
theorem sH (F:cS X.prog X.w X.K X.mg X.base CX k f fd ps sp) (hr:bP k X.A) (hg:Gl X x) (hm:X.mg x=some (.ref f)) (hk:PySem.W.keepIn X.K (.ref f)=true) (hb:Binds X.K fd ps ds) (hd:Vals aQ ds) (hx:Passes CX X E)
  (ha:PA X (e::es) t) (hdb:(x==("__debug__":Str))=false:=by decide) (he:starEach (e::es) X.env=(false,eval e X.env)::starEach es X.env:=by rfl) (hpl:(backTo pos (starEach es X.env)).any (·.1)=false:=by rfl) :
  PE X (.Call (.Name x p) (e::es) [] pos) (mG sp aQ E t):=by
 intro pins s σ H Q I h
 refine wpAny_Call_Name_kw (iw I hg hm ?_ hdb)
 refine PySem.W.callWith_K (h₀:=X.base) I.ok.mod.kin hk (bo (ha pos pins s σ H _ I h) fun us s1 ⟨vs,H1,I1,r,q⟩=>⟨I1.fF,?_⟩) he hpl
 exact rB F hr hb hd hx I1 r q
theorem zr {pl:Sem Bool} (he:PE X o ta) (c:lH X.K C) (hm:Meth X.K C m f) (F:cS X.prog X.w X.K X.mg X.base CX k f fd ps sp) (hr:bP k X.A) (hb:Binds X.K fd ps ds) (hd:Vals aQ ds) (hx:Passes CX X E) (ha:PA X (e::es) t)
  (hst:starEach (e::es) X.env=(false,eval e X.env)::starEach es X.env:=by rfl) (hpl:(backTo pos (starEach es X.env)).any (·.1)=false:=by rfl)
  (ht:eval (.Call (.Attribute o m apos) (e::es) [] pos) X.env=(do
   let ov ← eval o X.env
   standAt apos.atName
   let (f,first) ← holding [ov] (getMethod ov m pl)
   callWith pos f first (backTo pos (starEach (e::es) X.env)) (backToKw pos (keywordEach [] X.env))):=by rfl) :
  PE X (.Call (.Attribute o m apos) (e::es) [] pos) (mH C m sp aQ E ta t):=by
 intro pins s σ H Q I h
 refine PySem.W.methodCall_KW (pl:=pl) (bo (he pins s σ H _ I h) fun u s1 ⟨x,H1,I1,rx,a,dx,fs,ex,ea,l,q⟩=>?_) ht
 subst ex
 obtain rfl:u=Value.ref a:=rx
 refine kq I1 ea c hm l ?_
 refine PySem.W.callWith_K (first:=[.ref a]) (h₀:=X.base) I.ok.mod.kin hm.kp (bo (ha pos pins s1 σ H1 _ I1 q) fun us s2 ⟨vs,H2,I2,r,q2⟩=>⟨I2.fF,?_⟩) hst hpl
 exact rB (us:=.ref a::us) (vs:=.ref a::vs) F hr hb hd hx I2 (.cons rfl r) q2
theorem wU {pl:Sem Bool} (he:PE X o ta) (c:lH X.K C) (hm:Meth X.K C m f) (F:cS X.prog X.w X.K X.mg X.base CX k f fd ps sp) (hr:bP k X.A) (hb:Binds X.K fd ps ds) (hd:Vals aQ ds) (hx:Passes CX X E)
  (ht:eval (.Call (.Attribute o m apos) [] [] pos) X.env=(do
   let ov ← eval o X.env
   standAt apos.atName
   let (f,first) ← holding [ov] (getMethod ov m pl)
   callWith pos f first (backTo pos (starEach [] X.env)) (backToKw pos (keywordEach [] X.env))):=by rfl) :
  PE X (.Call (.Attribute o m apos) [] [] pos) (mH C m sp aQ E ta uY):=by
 intro pins s σ H Q I h
 refine PySem.W.methodCall_KW (pl:=pl) (bo (he pins s σ H _ I h) fun u s1 ⟨x,H1,I1,rx,a,dx,fs,ex,ea,l,q⟩=>?_) ht
 subst ex
 obtain rfl:u=Value.ref a:=rx
 refine kq I1 ea c hm l ?_
 exact PySem.W.callWith_K0 (first:=[.ref a]) I1.fF hm.kp (rB (us:=[.ref a]) (vs:=[.ref a]) F hr hb hd hx I1 (.cons rfl .nil) q)
structure Mk (K:PySem.W.Frag) (C f:Addr):Prop where
 makes:PySem.W.makesIn K C=true
 init:PySem.W.findIn K (.ref C) "__init__"=some (some (.ref f))
 fn:PySem.W.isFn K (.ref f)=true
 kp:PySem.W.keepIn K (.ref C)=true
theorem xB {pins:List (Addr × Obj)} {σ:St} {H:Hp} {s:Shared} {Q:VK} {us:List Value} {vs:List V} (M:Mk X.K C f) (F:cS X.prog X.w X.K X.mg X.base CX k f fd ps sp) (hr:bP (k+1) X.A) (hb:Binds X.K fd ps ds) (hd:Vals aQ ds)
  (hx:Passes CX X E) (I:Inv X pins σ H s) (r:Vals vs us)
  (h:∀ x dx,H x=none→H dx=none→dx≠x→sp (.ref x::(vs++aQ)) (upd (upd H dx (.own x)) x (.ins C dx [])) (fun v H2=>v=.non∧Q (.ref x) H2) E) :
  wpAny (model X.prog X.w) X.A (call (.ref C) us) (EP X pins σ Q) X.xe s:=by
 have hq:=h (s.heap.objs.size+1) s.heap.objs.size (I.hok.fresh (Nat.le_succ _)) (I.hok.fresh (Nat.le_refl _)) (Nat.ne_of_lt (Nat.lt_succ_self _))
 have I2:=Inv.made (C:=C) I
 have r2:Vals (V.ref (s.heap.objs.size+1)::(vs++aQ)) (Value.ref (s.heap.objs.size+1)::(us++ds)):=.cons rfl (r.append hd)
 have hl:(Value.ref (s.heap.objs.size+1)::us++ds).length=ps.length:=by
  have e:=r2.length
  rw [F.len _ _ _ _ hq] at e
  exact e.symm
 refine wpAny_call (wa (f:=f) I.fF M.makes M.init (beq_iff_eq.mp M.fn) (codeAny_mono (F.run _ X.stack _ _ ⟨Value.ref (s.heap.objs.size+1)::us,[]⟩ (Value.ref (s.heap.objs.size+1)::(us++ds)) _ _ E (hr.make C us [])
  (I2.AN.make C us []) (hb _ (Value.ref (s.heap.objs.size+1)::us) I2.fF hl) r2 hq) fun r s' hq'=>?_))
 cases r with
 | error e=>exact hx pins σ _ _ e s' I2 hq'
 | ok fl =>
  cases fl with
  | ret u =>
   obtain⟨v,H',I3,rv,ev,q3⟩:=I2.after hq'
   subst ev
   exact⟨rv,⟨V.ref (s.heap.objs.size+1),H',I3,rfl,q3⟩⟩
  | next=>exact False.elim hq'
  | brk=>exact False.elim hq'
  | cont=>exact False.elim hq'
theorem zq (M:Mk X.K C f) (F:cS X.prog X.w X.K X.mg X.base CX k f fd ps sp) (hr:bP (k+1) X.A) (hg:Gl X x) (hm:X.mg x=some (.ref C)) (hb:Binds X.K fd ps ds) (hd:Vals aQ ds) (hx:Passes CX X E)
  (ha:PA X (e::es) t) (hdb:(x==("__debug__":Str))=false:=by decide) (he:starEach (e::es) X.env=(false,eval e X.env)::starEach es X.env:=by rfl) (hpl:(backTo pos (starEach es X.env)).any (·.1)=false:=by rfl) :
  PE X (.Call (.Name x p) (e::es) [] pos) (tJ C sp aQ E t):=by
 intro pins s σ H Q I h
 refine wpAny_Call_Name_kw (iw I hg hm ?_ hdb)
 refine PySem.W.callWith_K (h₀:=X.base) I.ok.mod.kin M.kp (bo (ha pos pins s σ H _ I h) fun us s1 ⟨vs,H1,I1,r,q⟩=>⟨I1.fF,?_⟩) he hpl
 exact xB M F hr hb hd hx I1 r q
end
section
variable {X:Cx} {CX:lq} {k:Nat} {f C:Addr} {fd:FuncData} {ps ks:List Str} {sp:Sp} {E:XK} {x m:Str} {p pos apos kpos:Pos} {e o:Expr} {es:List Expr} {kws:List Keyword} {te ta:TE} {t tk:TA} {nm:Option Str}
variable {g:List Value→List Value→List Value} {gV:List V→List V→List V}
end
structure aA (N P:List Str) (sc:Scope):Prop where
 kind:sc.kind=.function
 co:sc.isCoroutine=false
 gen:sc.isGenerator=false
 nd:N.Nodup
 pre:N.take P.length=P
 par:∀ x∈P,sc.names.lookup x=some .local∨sc.names.lookup x=some .cell
 nofree:∀ y∈sc.names,y.2≠.free
theorem lM {kindOf:Str→Option NameKind} {x:Str}:∀{binds:List (Str × Value)} {m:Str→Option Value},(∀ v,(x,v)∉binds)→bindL kindOf binds m x=m x
 | [],_,_=>rfl
 | (n,v)::r,m,h=>by
  unfold bindL
  rw [lM fun w hw=>h w (List.mem_cons_of_mem _ hw)]
  split
  ·have:x≠n:=by rintro rfl;exact h v List.mem_cons_self
   simp [this]
  ·rfl
theorem lK {kindOf:Str→Option NameKind} {x:Str}:∀{binds:List (Str × Value)} {m:Str→Option Value},(∀ v,(x,v)∉binds)→bindC kindOf binds m x=m x
 | [],_,_=>rfl
 | (n,v)::r,m,h=>by
  unfold bindC
  rw [lK fun w hw=>h w (List.mem_cons_of_mem _ hw)]
  split
  ·rfl
  ·have:x≠n:=by rintro rfl;exact h v List.mem_cons_self
   simp [this]
theorem lL {kindOf:Str→Option NameKind} {x:Str} {v:Value}:∀{P:List Str} {vs:List Value} {i:Nat} {m:Str→Option Value},P.Nodup→P[i]?=some x→vs[i]?=some v→kindOf x=some .local →
  bindL kindOf (P.zip vs) m x=some v
 | [],_,_,_,_,h,_,_=>by simp at h
 | _::_,[],_,_,_,_,h,_=>by simp at h
 | p::P,w::vs,0,m,nd,h1,h2,hk=>by
  simp at h1 h2;subst h1;subst h2
  show bindL kindOf ((p,w)::P.zip vs) m p=_
  unfold bindL
  rw [lM fun v hv=>(List.nodup_cons.mp nd).1 (List.of_mem_zip hv).1,if_pos hk]
  simp
 | p::P,w::vs,i+1,m,nd,h1,h2,hk=>by
  show bindL kindOf ((p,w)::P.zip vs) m x=_
  unfold bindL
  exact lL (i:=i) (List.nodup_cons.mp nd).2 (by simpa using h1) (by simpa using h2) hk
theorem lJ {kindOf:Str→Option NameKind} {x:Str} {v:Value}:∀{P:List Str} {vs:List Value} {i:Nat} {m:Str→Option Value},P.Nodup→P[i]?=some x→vs[i]?=some v→kindOf x≠some .local →
  bindC kindOf (P.zip vs) m x=some v
 | [],_,_,_,_,h,_,_=>by simp at h
 | _::_,[],_,_,_,_,h,_=>by simp at h
 | p::P,w::vs,0,m,nd,h1,h2,hk=>by
  simp at h1 h2;subst h1;subst h2
  show bindC kindOf ((p,w)::P.zip vs) m p=_
  unfold bindC
  rw [lK fun v hv=>(List.nodup_cons.mp nd).1 (List.of_mem_zip hv).1,if_neg hk]
  simp
 | p::P,w::vs,i+1,m,nd,h1,h2,hk=>by
  show bindC kindOf ((p,w)::P.zip vs) m x=_
  unfold bindC
  exact lJ (i:=i) (List.nodup_cons.mp nd).2 (by simpa using h1) (by simpa using h2) hk
def start (N:List Str) (vs:List V):St:=vs.map some++List.replicate (N.length-vs.length) none
def fc (CX:lq) (P:Program) (w:World) (K:PySem.W.Frag) (mg:Str→Option Value) (base:Heap) (N:List Str) (qual:Str) (scope:Scope) (f:Addr) (cd:Value) (A:Around) (outer:List Env) (s:Shared) (H:Hp) (E:XK):Cx where
 prog:=P
 w:=w
 K:=K
 mg:=mg
 base:=base
 A:=A.deeper (envOfC qual scope s.heap.objs.size f cd)
 N:=N
 s₀:=s
 H₀:=H
 env:=envOfC qual scope s.heap.objs.size f cd
 outer:=outer
 stack:=envOfC qual scope s.heap.objs.size f cd::outer
 ex:=[]
 calm:=true
 fn:=fun _=>true
 pn:=[]
 xe:=fun e s'=>wpAny (model P w) (A.deeper (envOfC qual scope s.heap.objs.size f cd)) (leaving (envOfC qual scope s.heap.objs.size f cd) e) (fun _ s''=>CX outer H s E e s'') (fun e' s''=>CX outer H s E e' s'') s'
theorem oB {sc:Scope} {n:Nat} {x:Str} (h:sc.names.lookup x=some .cell):∃ c,(cellsFrom n sc.names []).lookup x=some c:=by
 have q:=PySem.W.cellsFrom_some sc.names n [] (.inl h)
 exact Option.isSome_iff_exists.mp q
theorem uf {CX:lq} {P:Program} {w:World} {K:PySem.W.Frag} {mg:Str→Option Value} {base:Heap} {N ps:List Str} {qual:Str} {scope:Scope} {f:Addr} {cd:Value} {A:Around} {outer:List Env} {s s1:Shared} {H:Hp} {E:XK} {us:List Value} {vs:List V}
  (S:aA N ps scope) (hd:A.handled=none) (e0:qA P w K mg base A outer s H) (hl:vs.length=ps.length) (r:Vals vs us)
  (x:InCallC s s.heap.objs.size (bindL (envOfC qual scope s.heap.objs.size f cd).kindOf (ps.zip us) fun _=>none) (cellsFrom (s.heap.objs.size+1) scope.names []) (bindC (envOfC qual scope s.heap.objs.size f cd).kindOf (ps.zip us) fun _=>none) s1) :
  Inv (fc CX P w K mg base N qual scope f cd A outer s H E) [] (start N vs) H s1:=by
 have hpl:ps.length≤N.length:=by have:=congrArg List.length S.pre;rw [List.length_take] at this;omega
 obtain⟨h1,tk,rfl,hk⟩:=x.done
 have noA:∀ b:Addr,b∉(fc CX P w K mg base N qual scope f cd A outer s H E).ex:=fun b z=>absurd (show b∈([]:List Addr) from z) (by simp)
 refine⟨⟨e0.mod,S.kind,rfl,rfl,Nat.le_refl _,fun y z c h1 h2=>?_,fun y hy=>?_,fun y c _ h=>?_,fun _=>hd,Around.frames_deeper e0.frames,.inr ⟨rfl,rfl⟩,fun b z=>absurd z (noA b),e0.bs,e0.bsz,fun b _ _=>noA b,fun b z=>absurd z (noA b),e0.jz,e0.frf⟩,
  rfl,e0.bare,Un.kept hk,⟨_,x.toInCall.ns,fun i y v h1 h2 h3=>?_⟩,fun y c h=>⟨_,x.cell y c h⟩,e0.hok.fresh (Nat.le_refl _),fun y c h=>?_,fun p hp=>absurd (show p∈([]:List (Addr × Obj)) from hp) (by simp),e0.hok.kept hk,?_⟩
 ·exact name_of_addr x.apart (PySem.mem_of_lookup h1) (PySem.mem_of_lookup h2)
 ·have hy:scope.names.lookup y=some .cell∨scope.names.lookup y=some .free:=hy
  rcases hy with hy | hy
  ·exact oB hy
  ·exact absurd rfl (S.nofree _ (PySem.mem_of_lookup hy))
 ·exact Nat.le_of_lt (x.above y c (PySem.mem_of_lookup h))
 ·have hi:i<vs.length:=by
   unfold start at h2
   by_cases hi:i<vs.length
   ·exact hi
   ·rw [List.getElem?_append_right (by simpa using hi)] at h2
    rw [List.getElem?_replicate] at h2
    split at h2<;>cases h2
  have ha:vs[i]?=some v:=by
   unfold start at h2
   rw [List.getElem?_append_left (by simpa using hi),List.getElem?_map] at h2
   cases e:vs[i]? with
   | none=>rw [e] at h2;cases h2
   | some a=>rw [e] at h2;cases h2;rfl
  obtain⟨u,hu,rv⟩:=r.get ha
  have hp:ps[i]?=some y:=by
   rw [← S.pre,List.getElem?_take_of_lt (by omega)];exact h1
  have ndP:ps.Nodup:=by rw [← S.pre];exact S.nd.sublist (List.take_sublist _ _)
  refine⟨u,rv,?_⟩
  rcases S.par y (List.mem_of_getElem? hp) with k | k
  ·exact .inl ⟨k,lL ndP hp hu k⟩
  ·obtain⟨c,e⟩:=oB (n:=s.heap.objs.size+1) k
   refine .inr ⟨.inl k,c,e,?_⟩
   have q:=x.cell y c e
   rw [lJ ndP hp hu (by show scope.names.lookup y≠_;rw [k];decide)] at q
   exact q
 ·exact e0.hok.fresh (Nat.le_of_lt (x.above y c (PySem.mem_of_lookup h)))
 ·unfold start
  show _=N.length
  rw [List.length_append,List.length_map,List.length_replicate]
  omega
theorem vK {CX:lq} {P:Program} {w:World} {K:PySem.W.Frag} {mg:Str→Option Value} {base:Heap} {k:Nat} {f:Addr} {name qual:Str} {params:Arguments} {body:List Stmt} {scope:Scope} {dV kV doc pm cdv ct oc:Value} {an od:Option Addr}
  {osl:Array (Option Value)} {N ps:List Str} {sp:Sp} (lk:K.lookup f=some ⟨oc,od,.func (PySem.W.fnOf name qual params body scope dV kV doc pm an cdv ct),osl⟩) (hcd:PySem.W.codeIn K cdv qual=true) (S:aA N ps scope)
  (len:∀ vs H Q E,sp vs H Q E→vs.length=ps.length)
  (hbody:∀(A:Around) (outer:List Env) (s:Shared) (H:Hp) (vs:List V) (Q:VK) (E:XK),bP k (A.deeper (envOfC qual scope s.heap.objs.size f cdv))→sp vs H Q E →
   ∃ t,gF (fc CX P w K mg base N qual scope f cdv A outer s H E) body t∧t { nx:=fun _ H'=>Q .non H',rt:=Q } (start N vs) H) :
  cS P w K mg base CX (k+1) f (PySem.W.fnOf name qual params body scope dV kV doc pm an cdv ct) ps sp:=by
 refine⟨len,fun A outer s H args us vs Q E hr e0 hb r hsp=>?_⟩
 have hl:=len _ _ _ _ hsp
 have KX:K.In s.heap:=e0.mod.kin.keeps fun b o e=>(e0.bs b o e).1
 have lim:s.heap.NoLimit:=e0.mod.nolimit.keeps fun b o e=>(e0.bs b o e).1
 have hkind:∀ y∈ps.zip us,scope.names.lookup y.1=some .local∨(scope.names.lookup y.1=some .cell∧((cellsFrom (s.heap.objs.size+1) scope.names []).lookup y.1).isSome=true):=fun⟨n,v⟩ hy=>by
  rcases S.par n (List.of_mem_zip hy).1 with q | q
  ·exact .inl q
  ·exact .inr ⟨q,PySem.W.cellsFrom_some _ _ _ (.inl q)⟩
 refine codeAny_call_function hr.depth (KX _ _ lk) rfl S.co S.gen rfl (PySem.W.codeRec_of KX hcd) (hb _ _ _ _ ?_)
 refine wpAny_newFunctionEnv_cells S.kind hkind fun env he s1 x=>?_
 subst he
 refine⟨lim.keeps x.toInCall.keep,codeAny_func ?_⟩
 obtain⟨t,ht,hq⟩:=hbody A outer s H vs Q E (hr.deeper _) hsp
 have I:Inv (fc CX P w K mg base N qual scope f cdv A outer s H E) [] (start N vs) H s1:=uf S hr.hd e0 hl r x
 refine wpAny_mono (ht [] s1 (start N vs) H _ I hq) (fun fl s' hs=>?_) fun e s' hs=>hs
 have fin:∀{σ':St} {H':Hp} {v:V} {u:Value},Inv (fc CX P w K mg base N qual scope f cdv A outer s H E) [] σ' H' s'→RelV v u→Q v H'→CE outer P w H s Q u s' :=
  fun {σ' H' v u} J rv q=>⟨v,H',J.os,J.bare,J.base,J.hok,rv,q⟩
 cases fl with
 | ret u =>
  obtain⟨v,σ',H',J,rv,q⟩:=hs
  exact fin J rv q
 | next =>
  obtain⟨σ',H',J,q⟩:=hs
  exact fin (v:=V.non) (u:=Value.none) J rfl q
 | brk =>
  obtain⟨_,_,_,q⟩:=hs
  exact False.elim q
 | cont =>
  obtain⟨_,_,_,q⟩:=hs
  exact False.elim q
end L2
namespace L2
open PySem PySem.Spec PyProof.Rows
section
variable {X:Cx} {x:Str} {p pos:Pos} {e:Expr} {es:List Expr} {t:TA} {id T:String} {r:List V→Hp→VK→Prop}
def CP (r:List V→Hp→VK→Prop) (t:TA):TE:=fun σ H Q=>t σ H fun vs H1=>r vs H1 Q
theorem aH (hc:cZ X (.builtin id) r) (hg:Gl X x) (hm:X.mg x=none) (hv:bootBuiltins x=some (.builtin id)) (ha:PA X (e::es) t) (hn:x ≠ "__name__":=by decide) (hdb:(x==("__debug__":Str))=false:=by decide)
  (he:starEach (e::es) X.env=(false,eval e X.env)::starEach es X.env:=by rfl) (hpl:(backTo pos (starEach es X.env)).any (·.1)=false:=by rfl):PE X (.Call (.Name x p) (e::es) [] pos) (CP r t):=by
 intro pins s σ H Q I h
 refine wpAny_Call_Name_kw (gU I hg hm hv ?_ hn hdb)
 exact PyProof.Rows.callWith_builtin1 (bo (ha pos pins s σ H _ I h) fun us s1 ⟨vs,H1,I1,r1,q1⟩=>hc pins s1 σ H1 vs us Q I1 r1 q1) he hpl
theorem dz (hc:cZ X (.type T) r) (hg:Gl X x) (hm:X.mg x=none) (hv:bootBuiltins x=some (.type T)) (ha:PA X (e::es) t) (hn:x ≠ "__name__":=by decide) (hdb:(x==("__debug__":Str))=false:=by decide)
  (he:starEach (e::es) X.env=(false,eval e X.env)::starEach es X.env:=by rfl) (hpl:(backTo pos (starEach es X.env)).any (·.1)=false:=by rfl):PE X (.Call (.Name x p) (e::es) [] pos) (CP r t):=by
 intro pins s σ H Q I h
 refine wpAny_Call_Name_kw (gU I hg hm hv ?_ hn hdb)
 exact PyProof.Rows.callWith_type1 (bo (ha pos pins s σ H _ I h) fun us s1 ⟨vs,H1,I1,r1,q1⟩=>hc pins s1 σ H1 vs us Q I1 r1 q1) he hpl
end
end L2
namespace HT
open PySem PyProof.Rows
section
open PySem.SeqAt
open PySem.AutoSeq1 (wpAny_loadPart')
open PySem.MeetsSeq PySem.MeetsSeq2 PySem.MeetsSeq3
end
section
variable {prog:Program} {w:World} {A:Around} {E:Value→Shared→Prop} {s:Shared}
def cP (n d:Nat):Option Int→Nat
 | none=>d
 | some v=>if v<0 then (v+(n:Int)).toNat else min v.toNat n
theorem Bx (n d:Nat) (hd:d≤n) (o:Option Int):cP n d o≤n:=by
 cases o with
 | none=>exact hd
 | some v =>
  show (if v<0 then (v+(n:Int)).toNat else min v.toNat n)≤n
  by_cases hv:v<0
  ·rw [if_pos hv];omega
  ·rw [if_neg hv];exact Nat.min_le_right _ _
theorem rR (v:Int) (n d:Nat):(if v<0 then max (v+(n:Int)) 0 else min v (n:Int))=((cP n d (some v):Nat):Int):=by
 show (if v<0 then max (v+(n:Int)) 0 else min v (n:Int))=(((if v<0 then (v+(n:Int)).toNat else min v.toNat n):Nat):Int)
 by_cases hv:v<0
 ·simp only [if_pos hv];omega
 ·simp only [if_neg hv];omega
theorem qE (lo hi:Option Int) (n:Nat):Builtin.Slice.sliceAdjust lo hi 1 (n:Int)=(((cP n 0 lo:Nat):Int),((cP n n hi:Nat):Int)):=by
 have h1:¬((1:Int)<0):=by omega
 unfold Builtin.Slice.sliceAdjust
 simp only [h1,if_false]
 refine Prod.ext ?_ ?_
 ·cases lo with
  | none=>rfl
  | some v=>exact rR v n 0
 ·cases hi with
  | none=>rfl
  | some v=>exact rR v n n
theorem rq (i j:Nat):Builtin.Slice.slicePlaces (i:Int) (j:Int) 1=j-i:=by
 unfold Builtin.Slice.slicePlaces
 have h1:(1:Int) > 0:=by omega
 simp only [h1,if_true,Int.ediv_one]
 split<;>omega
theorem hZ {v:Value} {o:Option Int} {Q:Option Int→Shared→Prop} (p:IsPart v o) (h:Q o s):wpAny (model prog w) A (Builtin.Slice.slicePartIndex v) Q E s:=by
 cases p with
 | none=>exact slicePart_none h
 | int i t=>exact slicePart_int h
theorem i8 {sl:Addr} {vl vu:Value} {lo hi:Option Int} {n:Nat} {Q:Int × Int × Nat→Shared→Prop} (hs:s.heap.IsSliceOf sl vl vu .none) (pl:IsPart vl lo) (pu:IsPart vu hi)
  (h:Q (((cP n 0 lo:Nat):Int),1,cP n n hi-cP n 0 lo) s):wpAny (model prog w) A (Builtin.Slice.sliceApplied (.ref sl) (pure (n:Int))) Q E s:=by
 obtain⟨os,hos,hcs,hds⟩:=id hs
 unfold Builtin.Slice.sliceApplied Builtin.Slice.sliceFields
 refine wpAny_bind (wpAny_bind (wpAny_field hos hds (x:=vl) rfl (wpAny_bind (wpAny_field hos hds (x:=vu) rfl (wpAny_bind (wpAny_field hos hds (x:=.none) rfl (wpAny_pure ?_)))))))
 refine wpAny_bind (slicePart_none ?_)
 show wpAny _ _ (if ((1:Int)==0)=true then _ else _) _ _ s
 rw [if_neg (by decide)]
 refine wpAny_bind (hZ pl (wpAny_bind (hZ pu (wpAny_bind (wpAny_pure ?_)))))
 show wpAny _ _ (match Builtin.Slice.sliceAdjust lo hi 1 (n:Int) with | (lo,hi)=>pure (lo,(1:Int),Builtin.Slice.slicePlaces lo hi 1)) _ _ s
 rw [qE lo hi n]
 show wpAny _ _ (pure (((cP n 0 lo:Nat):Int),(1:Int),Builtin.Slice.slicePlaces ((cP n 0 lo:Nat):Int) ((cP n n hi:Nat):Int) 1)) _ _ s
 rw [rq]
 exact wpAny_pure h
theorem wW (xs:Array Value) (i k:Nat):((List.range k).filterMap fun(m:Nat)=>xs[((i:Int)+(m:Int)*1).toNat]?).toArray=((xs.toList.drop i).take k).toArray:=by
 have e:(fun(m:Nat)=>xs[((i:Int)+(m:Int)*1).toNat]?)=fun m=>xs[i+m]?:=by
  funext m
  have:((i:Int)+(m:Int)*1).toNat=i+m:=by omega
  rw [this]
 rw [e]
 have:=pick_run xs i k
 rw [List.filterMap_map] at this
 have e2:((fun x=>xs[x]?)∘fun x=>i+x)=fun m=>xs[i+m]?:=rfl
 rw [e2] at this
 rw [this]
theorem ir {t sl:Addr} {items:Array Value} {vl vu:Value} {lo hi:Option Int} {Q:Value→Shared→Prop} (ht:IsTup s.heap t items) (hs:s.heap.IsSliceOf sl vl vu .none) (pl:IsPart vl lo) (pu:IsPart vu hi)
  (hw:¬(cP items.size 0 lo=0∧cP items.size items.size hi=items.size))
  (h:Q (.ref s.heap.objs.size) { s with heap:=s.heap.push { cls:=.type "tuple",data:=.seq ((items.toList.drop (cP items.size 0 lo)).take (cP items.size items.size hi-cP items.size 0 lo)).toArray } })
  (hsz:items.size≤sizeLine):wpAny (model prog w) A (getItem (.ref t) (.ref sl)) Q E s:=by
 have htake:sizeOk (.seq ((items.toList.drop (cP items.size 0 lo)).take (cP items.size items.size hi-cP items.size 0 lo)).toArray):=by
  show ((items.toList.drop (cP items.size 0 lo)).take (cP items.size items.size hi-cP items.size 0 lo)).toArray.size≤sizeLine
  rw [List.size_toArray,List.length_take,List.length_drop,Array.length_toList]
  omega
 have hj:cP items.size items.size hi≤items.size:=Bx _ _ (Nat.le_refl _) hi
 obtain⟨os,hos,hcs,hds⟩:=id hs
 have hTs:s.TypeIs (.ref sl) "slice":=⟨os,hos,hcs⟩
 unfold getItem
 try with_reducible refine wpAny_holding ?_
 first | refine wpAny_bind (wpAny_pure ?_) | skip
 refine wpAny_bind (wpAny_sequenceKey ht.typeIs (by decide) ?_)
 refine wpAny_bind (wpAny_callSpecial?_slot (name:=Str.ofString "__getitem__") ht.typeIs PyProof.Rows.slot_tuple_getitem
  (wpAny_call_entry PyProof.Rows.slot_tuple_getitem ht.typeIs entry_tuple_getitem ?_ (args_tuple_getitem _ _)))
 show wpAny _ _ (Builtin.Tuple.tupleItemsOf (.ref t) >>= _) _ _ s
 refine wpAny_bind (tupleItemsOf_ ht ?_)
 refine wpAny_bind (wpAny_typeOf hTs ?_)
 rw [if_pos (by decide)]
 refine wpAny_bind (i8 hs pl pu ?_)
 have hno:¬((((cP items.size 0 lo:Nat):Int)==0 && (1:Int)==1 && (cP items.size items.size hi-cP items.size 0 lo)==items.size)=true):=by
  intro q
  rw [Bool.and_eq_true,Bool.and_eq_true] at q
  have q1:((cP items.size 0 lo:Nat):Int)=0:=eq_of_beq q.1.1
  have q2:cP items.size items.size hi-cP items.size 0 lo=items.size:=eq_of_beq q.2
  exact hw ⟨by omega,by omega⟩
 show wpAny _ _ (if (((cP items.size 0 lo:Nat):Int)==0 && (1:Int)==1 && (cP items.size items.size hi-cP items.size 0 lo)==items.size)=true then _ else _) _ _ s
 rw [if_neg hno,wW]
 first
  | exact wpAny_bind (m:=Builtin.Tuple.tupleExact _) (wpAny_newObj_type (wpAny_pure ⟨_,rfl,wpAny_pure h⟩) htake)
  | exact wpAny_bind (m:=Builtin.Tuple.tupleExact _) (wpAny_newObj_type (wpAny_bind (wpAny_pure (wpAny_pure ⟨_,rfl,wpAny_pure h⟩))) htake)
  | exact wpAny_bind (wpAny_bind (m:=Builtin.Tuple.tupleExact _) (wpAny_newObj_type (wpAny_pure (wpAny_pure ⟨_,rfl,wpAny_pure h⟩)) htake))
  | exact wpAny_bind (wpAny_bind (m:=Builtin.Tuple.tupleExact _) (wpAny_newObj_type (wpAny_pure ⟨_,rfl,wpAny_pure h⟩) htake))
end
end HT
namespace L2
open PySem PySem.Spec PyProof.Rows
abbrev TO:=St→Hp→(Option Int→Hp→Prop)→Prop
def PO (X:Cx) (e:Option Expr) (t:TO):Prop :=
 ∀(pins:List (Addr × Obj)) (s:Shared) (σ:St) (H:Hp) (Q:Option Int→Hp→Prop),Inv X pins σ H s→t σ H Q →
  wpAny (model X.prog X.w) X.A (evalPart e X.env) (fun u s'=>∃ o H',Inv X pins σ H' s'∧IsPart u o∧Q o H') X.xe s
def nR:TO:=fun _ H Q=>Q none H
def x5 (t:TE):TO:=fun σ H Q=>t σ H fun x H1=>∃ i,x=.int i∧Q (some i) H1
theorem intsAre_of {ns:List Int}:∀{us:List Value},Vals (ns.map V.int) us→IntsAre us ns:=by
 induction ns with
 | nil=>intro us r;rw [List.map_nil] at r;cases r;exact .nil
 | cons n ns ih =>
  intro us r
  rw [List.map_cons] at r
  cases r with
  | cons r1 r2 =>
   obtain⟨t,e⟩:=r1
   subst e
   exact .cons n t (ih r2)
section
variable {X:Cx} {e:Expr} {te:TE} {lo hi:Option Expr} {tl th:TO} {pos p2:Pos}
theorem jS:PO X none nR:=by
 intro pins s σ H Q I h
 rw [evalPart_none]
 exact wpAny_pure ⟨none,H,I,.none,h⟩
theorem gu (h:PE X e te):PO X (some e) (x5 te):=by
 intro pins s σ H Q I hw
 rw [evalPart_some]
 refine bo (h pins s σ H _ I hw) fun u s1 ⟨x,H1,I1,r1,q1⟩=>?_
 obtain⟨i,rfl,q⟩:=q1
 obtain⟨t,rfl⟩:=r1
 exact⟨some i,H1,I1,.int i t,q⟩
def C4 (X:Cx) (r:V→Option Int→Option Int→Hp→VK→Prop):Prop :=
 ∀(pins:List (Addr × Obj)) (s:Shared) (σ:St) (H:Hp) (x:V) (v vl vu:Value) (lo hi:Option Int) (sl:Addr) (Q:VK),Inv X pins σ H s→RelV x v→s.heap.IsSliceOf sl vl vu .none→IsPart vl lo→IsPart vu hi→r x lo hi H Q →
  ∃ T id,typeLookup (.type T) "__getitem__"=pure (some (.builtin id))∧s.TypeIs v T∧wpAny (model X.prog X.w) X.A (getItem v (.ref sl)) (EP X pins σ Q) X.xe s
def DB (r:V→Option Int→Option Int→Hp→VK→Prop) (te:TE) (tl th:TO):TE:=fun σ H Q=>te σ H fun x H1=>tl σ H1 fun l H2=>th σ H2 fun u H3=>r x l u H3 Q
theorem iA {r:V→Option Int→Option Int→Hp→VK→Prop} (hr:C4 X r) (he:PE X e te) (hl:PO X lo tl) (hu:PO X hi th):PE X (.Subscript e (.Slice lo hi none p2) pos) (DB r te tl th):=by
 intro pins s σ H Q I h
 refine Subscript_ (bo (he pins s σ H _ I h) fun v s1 ⟨x,H1,I1,r1,q1⟩=>?_)
 refine wpAny_Slice (bo (hl pins s1 σ H1 _ I1 q1) fun vl s2 ⟨l,H2,I2,pl,q2⟩=>bo (hu pins s2 σ H2 _ I2 q2) fun vu s3 ⟨u,H3,I3,pu,q3⟩=>?_)
 rw [evalPart_none]
 refine wpAny_pure ?_
 have I4:Inv X pins σ H3 { s3 with heap:=s3.heap.push { cls:=.type "slice",data:=.fields #[vl,vu,.none] } }:=I3.kept (t':=s3.toks) fun b ob q=>Heap.get?_push_of_some _ q
 obtain⟨T,id,hT,ht,hg⟩:=hr pins { s3 with heap:=s3.heap.push { cls:=.type "slice",data:=.fields #[vl,vu,.none] } } σ H3 x v vl vu l u s3.heap.objs.size Q I4 r1 (Heap.IsSliceOf.new ..) pl pu q3
 show wpAny (model X.prog X.w) X.A (subscriptTail e (.Slice lo hi none p2) v (.ref s3.heap.objs.size)) (EP X pins σ Q) X.xe { s3 with heap:=s3.heap.push { cls:=.type "slice",data:=.fields #[vl,vu,.none] } }
 exact tail_any (ops:=[.ref s3.heap.objs.size,v]) ht hT hg (by with_unfolding_all rfl)
def gB (xs:List V) (lo hi:Option Int):List V:=(xs.drop (HT.cP xs.length 0 lo)).take (HT.cP xs.length xs.length hi-HT.cP xs.length 0 lo)
theorem fI (xs:List V) (lo hi:Option Int):(gB xs lo hi).length≤xs.length:=by
 unfold gB
 rw [List.length_take,List.length_drop]
 omega
def Du (K:PySem.W.Frag):V→Option Int→Option Int→Hp→VK→Prop:=fun x lo hi H Q=>∃ a xs,x=.ref a∧bD K H a xs ∧
 ¬(HT.cP xs.length 0 lo=0∧HT.cP xs.length xs.length hi=xs.length)∧∀ p,H p=none→Q (.ref p) (upd H p (.tup (gB xs lo hi)))
theorem By:C4 X (Du X.K):=by
 intro pins s σ H x v vl vu lo hi sl Q I rx hs pl pu h
 obtain⟨a,xs,rfl,hx,hw,q⟩:=h
 cases rx
 obtain⟨its,r,ht,hz⟩:=I.tuple hx
 have hlen:its.toArray.size=xs.length:=by rw [List.size_toArray];exact r.length.symm
 refine⟨"tuple",_,PyProof.Rows.slot_tuple_getitem.lookup,ht.typeIs,?_⟩
 refine HT.ir ht hs pl pu (by rw [hlen];exact hw) ?_ (by rw [hlen];exact hz)
 rw [hlen]
 refine⟨.ref s.heap.objs.size,_,I.laid (t':=s.toks) (o:=.tup (gB xs lo hi)) (fun b ob q=>Heap.get?_push_of_some _ q) (Nat.le_refl _) ?_,rfl,q _ (I.hok.fresh (Nat.le_refl _))⟩
 exact⟨Nat.le_trans (fI xs lo hi) hz,_,(r.drop (HT.cP xs.length 0 lo)).take (HT.cP xs.length xs.length hi-HT.cP xs.length 0 lo),IsTup.new _ _⟩
end
end L2
namespace L2
open PySem PySem.Spec PyProof.Rows
def Ac (n:Nat) (i:Int):Option Nat:=if 0≤i then (if i<n then some i.toNat else none) else if -(n:Int)≤i then some (i+n).toNat else none
def vc {α:Type} (xs:List α) (i:Int):Option α:=(Ac xs.length i).bind fun j=>xs[j]?
theorem yO {n:Nat} {i:Int} {j:Nat} (h:Ac n i=some j):seqIndex? i n=some j∧j<n ∧ -(n:Int)≤i∧i<n:=by
 unfold Ac at h
 by_cases h0:0≤i
 ·rw [if_pos h0] at h
  by_cases h1:i<n
  ·rw [if_pos h1] at h
   have e:i.toNat=j:=Option.some.inj h
   exact⟨by rw [seqIndex_of h0 h1,e],by omega,by omega,h1⟩
  ·rw [if_neg h1] at h;cases h
 ·rw [if_neg h0] at h
  by_cases h1:-(n:Int)≤i
  ·rw [if_pos h1] at h
   have e:(i+n).toNat=j:=Option.some.inj h
   exact⟨by rw [seqIndex_neg (by omega) h1,e],by omega,h1,by omega⟩
  ·rw [if_neg h1] at h;cases h
theorem rP {α:Type} {xs:List α} {i:Int} {v:α} (h:vc xs i=some v):∃ j,seqIndex? i xs.length=some j∧xs[j]?=some v∧j<xs.length ∧ -(xs.length:Int)≤i∧i<xs.length:=by
 unfold vc at h
 cases e:Ac xs.length i with
 | none=>rw [e] at h;cases h
 | some j =>
  rw [e] at h
  obtain⟨h1,h2,h3,h4⟩:=yO e
  exact⟨j,h1,h,h2,h3,h4⟩
theorem rQ {α:Type} {xs:List α} {j:Nat} {v:α} (h:xs[j]?=some v):vc xs (j:Int)=some v:=by
 have hj:j<xs.length:=(List.getElem?_eq_some_iff.mp h).1
 have e:Ac xs.length (j:Int)=some j:=by
  unfold Ac
  rw [if_pos (by omega),if_pos (by omega)];simp
 unfold vc;rw [e];exact h
def yw (b:Expr):Prop:=∀ o i,subscripted b false o i=operate [o,i] (getItem o i)
def CK (X:Cx) (r:R2):Prop :=
 ∀(value slice:Expr) (pins:List (Addr × Obj)) (s:Shared) (σ:St) (H:Hp) (x y:V) (v u:Value) (Q:VK),Inv X pins σ H s→RelV x v→RelV y u→r x y H Q →
  subscripted slice false v u=operate [v,u] (getItem v u)→wpAny (model X.prog X.w) X.A (subscriptTail value slice v u) (EP X pins σ Q) X.xe s
def DF (X:Cx) (id:String) (r:V→List V→Hp→VK→Prop):Prop :=
 ∀(pins:List (Addr × Obj)) (s:Shared) (σ:St) (H:Hp) (x:V) (xs:List V) (v:Value) (us:List Value) (Q:VK),Inv X pins σ H s→RelV x v→Vals xs us→r x xs H Q →
  wpAny (model X.prog X.w) X.A (call (.builtin id) (v::us)) (EP X pins σ Q) X.xe s
section
variable {X:Cx} {a b:Expr} {ta tb:TE} {pos:Pos}
theorem aV {r:R2} (hr:CK X r) (ha:PE X a ta) (hb:PE X b tb) (hs:yw b):PE X (.Subscript a b pos) (BX r ta tb):=by
 intro pins s σ H Q I h
 exact Subscript_ (AJ ha hb I h fun v u s2 x y H2 I2 rx ry q=>hr a b pins s2 σ H2 x y v u Q I2 rx ry q (hs _ _))
def Bq (K:PySem.W.Frag):R2:=fun x y H Q=>∃ p xs i v,x=.ref p∧y=.int i∧aZ K H p xs∧vc xs i=some v∧Q v H
def Br (K:PySem.W.Frag):R2:=fun x y H Q=>∃ p xs i v,x=.ref p∧y=.int i∧bD K H p xs∧vc xs i=some v∧Q v H
theorem iu:CK X (Bq X.K):=by
 intro value slice pins s σ H x y v u Q I rx ry h hs
 obtain⟨p,xs,i,z,rfl,rfl,hq,he,q⟩:=h
 cases rx
 obtain⟨t,rfl⟩:=ry
 obtain⟨its,r,pl,hz⟩:=I.list hq
 obtain⟨j,h1,h2,h3,h4,h5⟩:=rP he
 obtain⟨w,ew,rw'⟩:=r.get h2
 have hl:=r.length
 have hn:=mX
 have fin:EP X pins σ Q w s:=⟨z,H,I,rw',q⟩
 by_cases h0:0≤i
 ·have hj:i.toNat=j:=by
   rw [seqIndex_of h0 h5] at h1
   exact Option.some.inj h1
  exact item_listR pl.isList h0 (by omega) (by rw [hj];simpa using ew) fin hs
 ·have hj:(i+(its.toArray.size:Int)).toNat=j:=by
   rw [seqIndex_neg (by omega) h4] at h1
   rw [List.size_toArray,← hl]
   exact Option.some.inj h1
  exact subscriptTail_builtinR (x:=w) pl.isList.typeIs slot_list_getitem.lookup
   (wpAny_getItem_list_neg (Q:=fun r s'=>r=w∧EP X pins σ Q r s') pl.isList (by omega) (by rw [List.size_toArray]<;>omega) (by omega) (by rw [hj];simpa using ew) ⟨rfl,fin⟩) hs
theorem bB:CK X (Br X.K):=by
 intro value slice pins s σ H x y v u Q I rx ry h hs
 obtain⟨p,xs,i,z,rfl,rfl,hq,he,q⟩:=h
 cases rx
 obtain⟨t,rfl⟩:=ry
 obtain⟨its,r,pl,hz⟩:=I.tuple hq
 obtain⟨j,h1,h2,h3,h4,h5⟩:=rP he
 obtain⟨w,ew,rw'⟩:=r.get h2
 have hl:=r.length
 have hn:=mX
 have fin:EP X pins σ Q w s:=⟨z,H,I,rw',q⟩
 exact subscriptTail_builtinR (x:=w) pl.typeIs slot_tuple_getitem.lookup
  (getItem_tuple (j:=j) (Q:=fun r s'=>r=w∧EP X pins σ Q r s') pl (by omega) (by omega) (by rw [List.size_toArray,← hl];exact h1) (by simpa using ew) ⟨rfl,fin⟩) hs
theorem nK (lo hi:Option Int) (n:Nat):(sliceBounds lo hi none n).1=((HT.cP n 0 lo:Nat):Int)∧(sliceBounds lo hi none n).2.1=((HT.cP n n hi:Nat):Int)∧(sliceBounds lo hi none n).2.2=1:=by
 refine⟨?_,?_,rfl⟩
 ·cases lo with
  | none=>simp [sliceBounds,HT.cP]
  | some i =>
   simp only [sliceBounds,HT.cP,Option.getD_none,show (1:Int) > 0 by decide,if_true]
   by_cases h:i<0
   ·simp only [h,if_true]<;>omega
   ·simp only [h,if_false]<;>omega
 ·cases hi with
  | none=>simp [sliceBounds,HT.cP]
  | some i =>
   simp only [sliceBounds,HT.cP,Option.getD_none,show (1:Int) > 0 by decide,if_true]
   by_cases h:i<0
   ·simp only [h,if_true]<;>omega
   ·simp only [h,if_false]<;>omega
theorem lD (its:List Value) (lo hi:Option Int):slicePick its.toArray lo hi none=((its.drop (HT.cP its.length 0 lo)).take (HT.cP its.length its.length hi-HT.cP its.length 0 lo)).toArray:=by
 obtain⟨h1,h2,h3⟩:=nK lo hi its.toArray.size
 unfold slicePick
 rw [h1,h2,h3]
 simp only [sliceRange_one,pick_run,List.size_toArray]<;>rfl
def Dt (K:PySem.W.Frag):V→Option Int→Option Int→Hp→VK→Prop:=fun x lo hi H Q=>∃ a xs,x=.ref a∧aZ K H a xs∧∀ p,H p=none→Q (.ref p) (upd H p (.lst (gB xs lo hi)))
theorem nJ:C4 X (Dt X.K):=by
 intro pins s σ H x v vl vu lo hi sl Q I rx hs pl pu h
 obtain⟨a,xs,rfl,hx,q⟩:=h
 cases rx
 obtain⟨its,r,ht,hz⟩:=I.list hx
 have hlen:=r.length
 refine⟨"list",_,slot_list_getitem.lookup,ht.isList.typeIs,?_⟩
 refine wpAny_getItem_list_slice ht.isList hs pl pu .none (by simp) ?_ (by rw [List.size_toArray]<;>omega)
 rw [lD,← hlen]
 refine⟨.ref s.heap.objs.size,_,I.laid (t':=s.toks) (o:=.lst (gB xs lo hi)) (fun b ob q=>Heap.get?_push_of_some _ q) (Nat.le_refl _) ?_,rfl,q _ (I.hok.fresh (Nat.le_refl _))⟩
 exact⟨Nat.le_trans (fI xs lo hi) hz,_,0,(r.drop (HT.cP xs.length 0 lo)).take (HT.cP xs.length xs.length hi-HT.cP xs.length 0 lo),Heap.get?_push_size _ rfl⟩
def z7:V→Bool
 | .non=>true
 | .bl _=>true
 | .int _=>true
 | .str _=>true
 | _=>false
def DU:V→V→Bool
 | .non,.non=>true
 | .bl a,.bl b=>a==b
 | .bl a,.int b=>(if a then 1 else 0)==b
 | .int a,.bl b=>a==(if b then 1 else 0)
 | .int a,.int b=>a==b
 | .str a,.str b=>a==b
 | _,_=>false
theorem mP:cZ X (.builtin "len") (fun xs H Q=>∃ p ys,xs=[.ref p]∧(aZ X.K H p ys∨bD X.K H p ys)∧Q (.int ys.length) H):=by
 intro pins s σ H xs us Q I r h
 obtain⟨p,ys,rfl,hq,q⟩:=h
 obtain⟨u,rfl,rx⟩:=vals1 r
 cases rx
 have hn:=mX
 rcases hq with hq | hq
 ·obtain⟨its,r',pl,hz⟩:=I.list hq
  have hlen:=r'.length
  exact Calls.call_len_list pl.isList (by simp only [List.size_toArray]<;>omega) ⟨.int ys.length,H,I.tok _,⟨s.toks+1,by rw [List.size_toArray,hlen]⟩,q⟩
 ·obtain⟨its,r',pl,hz⟩:=I.tuple hq
  have hlen:=r'.length
  exact len_tuple pl (by simp only [List.size_toArray]<;>omega) ⟨.int ys.length,H,I.tok _,⟨s.toks+1,by rw [List.size_toArray,hlen]⟩,q⟩
theorem cW:cZ X (.type "tuple") (fun xs H Q=>∃ p ys,xs=[.ref p]∧((aZ X.K H p ys∧∀ l,H l=none→Q (.ref l) (upd H l (.tup ys)))∨(bD X.K H p ys∧Q (.ref p) H))):=by
 intro pins s σ H xs us Q I r h
 obtain⟨p,ys,rfl,h⟩:=h
 obtain⟨u,rfl,rx⟩:=vals1 r
 cases rx
 rcases h with⟨hq,q⟩|⟨hq,q⟩
 ·obtain⟨its,r',pl,hz⟩:=I.list hq
  have hlen:=r'.length
  refine call_tuple_list pl.isList (fun h' kp=>?_) (by simp only [List.size_toArray]<;>omega)
  have I1:Inv X pins σ H { s with heap:=h' }:=I.kept (t':=s.toks) kp
  have I2:Inv X pins σ (upd H h'.objs.size (.tup ys)) { s with heap:=h'.push { cls:=.type "tuple",data:=.seq its.toArray } } :=
   I1.laid (t':=s.toks) (fun b o e=>Heap.get?_push_of_some _ e) (Nat.le_refl _) (show br X.prog X.w _ _ _ (.tup ys) from ⟨hz,its,r',IsTup.new _ _⟩)
  exact⟨.ref h'.objs.size,_,I2,rfl,q _ (I1.hok.fresh (Nat.le_refl _))⟩
 ·obtain⟨its,r',pl,hz⟩:=I.tuple hq
  exact call_tuple_same pl ⟨.ref p,H,I,rfl,q⟩
def DD (K:PySem.W.Frag) (T:String) (x:V) (H:Hp):Prop:=match x with
 | .str _=>T = "str"
 | .int _=>T = "int"
 | .ref p=>(T = "list"∧∃ xs,aZ K H p xs)∨(T = "tuple"∧∃ o,K.lookup p=some o∧o.cls=.type "tuple"∧o.dict=none) ∨
   (T = "dict"∧((∃ kvs,H p=some (.dK kvs))∨∃ kvs,H p=some (.dT kvs)))∨(T = "set"∧∃ S n,H p=some (.set S n))
 | _=>False
theorem BL {pins:List (Addr × Obj)} {σ:St} {H:Hp} {s:Shared} {T:String} {x:V} {v:Value} (I:Inv X pins σ H s) (r:RelV x v) (ty:DD X.K T x H) :
  s.TypeIs v T∧∀ a,v=.ref a→∃ ob,s.heap.get? a=some ob∧ob.dict=none:=by
 cases x with
 | str z =>
  obtain⟨t,rfl⟩:=r
  cases (show T = "str" from ty)
  exact⟨typeIs_str s z t,fun _ e=>nomatch e⟩
 | int i =>
  obtain⟨t,rfl⟩:=r
  cases (show T = "int" from ty)
  exact⟨typeIs_int s i t,fun _ e=>nomatch e⟩
 | ref p =>
  cases r
  rcases ty with⟨rfl,xs,hq⟩|⟨rfl,o,hk,hc,hd⟩|⟨rfl,hk⟩|⟨rfl,S,n,hk⟩
  ·obtain⟨its,_,pl,_⟩:=I.list hq
   refine⟨pl.isList.typeIs,fun a e=>?_⟩
   cases e
   obtain⟨o,n,e,c,hd,_⟩:=pl
   exact⟨o,e,hd⟩
  ·refine⟨⟨o,I.fF p o hk,hc⟩,fun a e=>?_⟩
   cases e
   exact⟨o,I.fF _ o hk,hd⟩
  ·have z:∃ o,s.heap.get? p=some o∧o.ExactDict:=by
    rcases hk with⟨kvs,hk⟩|⟨kvs,hk⟩
    ·obtain⟨_,_,_,_,o,_,_,e,ex,_⟩:=I.hok p _ hk
     exact⟨o,e,ex⟩
    ·obtain⟨_,_,_,_,o,_,_,e,ex,_⟩:=I.hok p _ hk
     exact⟨o,e,ex⟩
   obtain⟨o,e,ex⟩:=z
   refine⟨⟨o,e,ex.1⟩,fun a e2=>?_⟩
   cases e2
   exact⟨o,e,ex.2.1⟩
  ·obtain⟨o,_,_,_,e,ex,_⟩:=I.hok p _ hk
   refine⟨⟨o,e,ex.1⟩,fun a e2=>?_⟩
   cases e2
   exact⟨o,e,ex.2.1⟩
 | _=>exact False.elim ty
def CC (K:PySem.W.Frag) (T:String) (r:V→List V→Hp→VK→Prop) (to:TE):TE:=fun σ H Q=>to σ H fun x H1=>DD K T x H1∧r x [] H1 Q
def Dx (K:PySem.W.Frag) (T:String) (r:V→List V→Hp→VK→Prop) (to:TE) (t:TA):TE:=fun σ H Q=>to σ H fun x H1=>DD K T x H1∧t σ H1 fun xs H2=>r x xs H2 Q
variable {o e:Expr} {es:List Expr} {to:TE} {t:TA} {name:Str} {apos cpos:Pos} {T id:String} {r:V→List V→Hp→VK→Prop}
theorem sG (pa:PlainAttrs T) (slot:Slot T name id) (hty:typeOf (.builtin id)=pure (.type "method_descriptor")) (hm:DF X id r) (ho:PE X o to) (ha:PA X (e::es) t)
  (hbase:attributeBase o name X.env (eval o X.env)=eval o X.env:=by rfl)
  (hfew:((backTo cpos (starEach (e::es) X.env)).all (fun x=>!x.1) && (backToKw cpos (keywordEach [] X.env)).all (fun x=>x.1.isSome)
   && decide ((e::es).length+([]:List Keyword).length+(if ([]:List Keyword).isEmpty then 0 else 1)<30))=true:=by rfl)
  (hline:(apos.endLine==cpos.line)=true:=by rfl) (hs:starEach (e::es) X.env=(false,eval e X.env)::starEach es X.env:=by rfl) (hplain:(backTo cpos (starEach es X.env)).any (·.1)=false:=by rfl) :
  PE X (.Call (.Attribute o name apos) (e::es) [] cpos) (Dx X.K T r to t):=by
 intro pins s σ H Q I h
 refine wpAny_Call_method_late hbase hfew hline rfl (bo (ho pins s σ H _ I h) fun v s1 ⟨x,H1,I1,r1,ty,q1⟩=>?_)
 obtain⟨h1,h2⟩:=BL I1 r1 ty
 refine⟨T,id,pa,slot,hty,h1,h2,?_⟩
 have hA:=ha cpos pins s1 σ H1 _ I1 q1
 rw [hs] at hA ⊢
 refine Calls.callWith_builtin (by show (false || (backTo cpos (starEach es X.env)).any (·.1))=false;rw [hplain]<;>rfl) (Calls.evalArgs_plain ?_)
 exact bo hA fun us s2 ⟨vs,H2,I2,r2,q2⟩=>hm pins s2 σ H2 x vs v us Q I2 r1 r2 q2
/- xs.append(e),list.index on a module's tuple .. are DF facts of 06m -/
end
end L2
namespace L2
open PySem PySem.Spec PyProof.Rows
def DQ (X:Cx) (id:String) (r:V→List V→Hp→VK→Prop):Prop :=
 ∀(pins:List (Addr × Obj)) (s:Shared) (σ:St) (H:Hp) (x:V) (xs:List V) (v:Value) (us:List Value) (Q:VK),Inv X pins σ H s→RelV x v→Vals xs us→r x xs H Q →
  wpAny (model X.prog X.w) X.A (call (.builtin id) (v::us)) (EP X pins σ Q) X.xe s
theorem Vals.one:∀{x:V} {us:List Value},Vals [x] us→∃ u,us=[u]∧RelV x u
 | _,_,.cons r .nil=>⟨_,rfl,r⟩
section
variable {X:Cx} {pins:List (Addr × Obj)} {σ:St} {H:Hp} {s:Shared} {l b:Addr} {xs ys zs:List V}
theorem Inv.Di {its its':List Value} {n:Nat} {f:Array Value→Array Value} {t':Nat} (I:Inv X pins σ H s) (hH:H l=some (.lst xs))
  (e:s.heap.get? l=some { cls:=.type "list",data:=.seq its.toArray n }) (hf:f its.toArray=its'.toArray) (hv:Vals ys its') (hz:ys.length≤sizeLine) :
  Inv X pins σ (upd H l (.lst ys)) { s with heap:=s.heap.update l (Obj.mapSeq f),toks:=t' }:=by
 have q:=PySem.IsL.update e f
 rw [hf] at q
 refine I.write (x:=l) (e:=l) (by rw [hH];exact trivial) (.inl rfl) (fun b' u hb hu=>(Heap.get?_update_other s.heap (Obj.mapSeq f) (Ne.symm hb)).trans hu) ⟨_,q⟩ ?_
 exact⟨hz,its',_,hv,q⟩
theorem Inv.Dh {its:List Value} {t':Nat} (I:Inv X pins σ H s) (hv:Vals ys its) (hz:ys.length≤sizeLine) :
  Inv X pins σ (upd H s.heap.objs.size (.lst ys)) { s with heap:=s.heap.push { cls:=.type "list",data:=.seq its.toArray },toks:=t' } :=
 I.laid (fun _ _ q=>Heap.get?_push_of_some _ q) (Nat.le_refl _) ⟨hz,its,0,hv,Heap.get?_push_size _ rfl⟩
theorem Inv.fresh (I:Inv X pins σ H s):H s.heap.objs.size=none:=I.hok.fresh (Nat.le_refl _)
theorem Inv.A4 (I:Inv X pins σ H s) (hH:H l=some (.lst xs)):xs.length≤sizeLine∧∃(its:List Value) (n:Nat),Vals xs its∧xs.length=its.length∧s.heap.get? l=some { cls:=.type "list",data:=.seq its.toArray n }:=by
 obtain⟨z,its,n,r,e⟩:=I.hok l _ hH
 exact⟨z,its,n,r,r.length,e⟩
end
section
variable {X:Cx}
def sM:V→List V→Hp→VK→Prop:=fun x vs H Q=>∃ l xs y,x=.ref l∧vs=[y]∧H l=some (.lst xs)∧xs.length<sizeLine∧Q .non (upd H l (.lst (xs++[y])))
theorem gj:DQ X "list.append" sM:=by
 intro pins s σ H x vs v us Q I rx rv h
 obtain⟨l,xs,y,rfl,rfl,hH,hz,q⟩:=h
 cases rx
 obtain⟨u,rfl,ru⟩:=rv.one
 obtain⟨z,its,n,r,hl,e⟩:=I.A4 hH
 refine call_meets F.slot_list_append ⟨_,e,rfl⟩ F.entry_list_append (F.args_list_append_2 _ _) (PySem.list_append l its.toArray n u (by rw [List.size_toArray];omega)) ⟨e,?_⟩
 refine⟨.non,_,I.Di (its':=its++[u]) hH e (by simp) (r.append (.cons ru .nil)) ?_,rfl,q⟩
 rw [List.length_append,List.length_singleton]
 omega
def Dp:R2:=fun x y H Q=>∃ l b xs zs,x=.ref l∧y=.ref b∧H l=some (.lst xs)∧H b=some (.lst zs)∧xs.length+zs.length≤sizeLine∧∀ p,H p=none→Q (.ref p) (upd H p (.lst (xs++zs)))
theorem Bh:jI X (binaryOp .Add) Dp:=by
 intro pins s σ H x y v u Q I rx ry h
 obtain⟨l,b,xs,zs,rfl,rfl,hH,hB,hz,q⟩:=h
 cases rx
 cases ry
 obtain⟨z,its,n,r,hl,e⟩:=I.A4 hH
 obtain⟨z2,its2,n2,r2,hl2,e2⟩:=I.A4 hB
 refine PySem.P.add_list e e2 ?_ (by rw [List.size_toArray,List.size_toArray];omega)
 have ea:its.toArray++its2.toArray=(its++its2).toArray:=by simp
 rw [ea]
 exact⟨.ref _,_,I.Dh (t':=s.toks) (r.append r2) (by rw [List.length_append];omega),rfl,q _ I.fresh⟩
end
section
variable {prog:Program} {w:World} {A:Around} {E:Value→Shared→Prop} {s:Shared}
end
section
variable {X:Cx}
end
end L2
namespace Att
open PySem PySem.W PySem.Calls PyProof.Rows
theorem jE {P:Params} {h:Heap}:∀(ns:List Int) (vs:List Value),WellAll P h vs (ns.map WData.int)→IntsAre vs ns:=by
 intro ns
 induction ns with
 | nil =>
  intro vs w
  rw [List.map_nil] at w
  cases w
  exact .nil
 | cons n ns ih =>
  intro vs w
  rw [List.map_cons] at w
  cases w with
  | cons a b =>
   cases a
   exact .cons _ _ (ih _ b)
theorem uS {l:OpenLaw} {n:Nat} (hn:l.most=some n) {P:Params} {h:Heap} {args:List WData} {vals:List Value}
  (hpre:l.row.toRowW.claim.pre args=true) (hwl:WellAll P h vals args) :
  ∃ a vs ns,vals=[Value.ref a]∧args=[WData.list (ns.map WData.int)]∧h.get? a=some { cls:=.type "list",data:=.seq vs.toArray }∧IntsAre vs ns∧ns.length≤n:=by
 have hsh:WShape.hasAll [] args [.list .int]=true:=(pre_splitW hpre).1
 have hc:l.pre.holds [] { args:=args }=true:=(pre_splitW hpre).2
 obtain⟨d,r,rfl,h1,h2⟩:=hasAllW_cons hsh
 obtain rfl:=hasAllW_nil h2
 obtain⟨xs,rfl,h3⟩:=hasW_list h1
 obtain⟨ns,rfl⟩:=items_int h3
 have hlen:ns.length≤n:=by
  unfold OpenLaw.pre at hc
  have h4:(WTm.not (.lt (.lit (.int (n:Int))) (.len (.arg 0)))).holds [] { args:=[.list (ns.map .int)] }=true:=by
   have h4:=(holds_andW hc).1
   rw [hn] at h4
   exact h4
  have h5:=condW_of h4 (w_not (w_lt w_lit (w_len_list (w_arg rfl))))
  rw [List.length_map] at h5
  refine Nat.le_of_not_lt fun q=>?_
  have q':(n:Int)<((ns.length:Nat):Int):=by omega
  first
   | (rw [decide_eq_true q'] at h5;exact absurd h5 (by decide))
   | (simp at h5;omega)
 cases hwl with
 | cons w1 w2 =>
  cases w2
  cases w1 with
  | list ho hall=>exact⟨_,_,ns,rfl,rfl,ho,jE ns _ hall,hlen⟩
theorem uO (l:OpenLaw) (args:List WData):l.row.toRowW.claim.post args (.bool true) args=true :=
 postW_of (r:=l.row.toRowW) (X:=(true==true))
  (show WShape.has [] (.bool true) .bool=true by first | rfl | decide | simp [WShape.has,WShape.arms,WShape.armsAll])
  (show (WTm.eq .res (.lit (.bool true))).value [] { args:=args,res:=some (.bool true),after:=args }=some (.bool (true==true)) from w_eq_bool (w_res rfl) w_lit) rfl
theorem oa {l:OpenLaw} {n:Nat} {q:Program} {loose:List Str} {XP:(Str→Option Value)→Heap→Prop} {YP:World→Heap→Prop} {d:DefRec}
  (hn:l.most=some n) (hdf:d.params.defaults=[])
  (call:∀(w:World) (s₀ s₁:Shared) (mg mb:Str→Option Value) (fa:Addr) (o:Obj) (pm cd doc:Value) (a:Addr) (vs:List Value) (ns:List Int),
   Ground q loose [] XP w s₀ mg mb s₁.heap→YP w s₁.heap →
   s₁.heap.get? fa=some o→o.data=.func (docDef d.name d.params d.body d.scope pm cd doc)→s₁.heap.CodeRec cd d.name→mg d.name=some (.ref fa) →
   s₁.heap.get? a=some { cls:=.type "list",data:=.seq vs.toArray }→IntsAre vs ns→ns.length≤n→s₁.gens=#[] →
   codeAny (model l.prog w) callerA (.call (.ref fa) ⟨[.ref a],[]⟩) (fun r s'=>r=.ok (.ret (.bool true))∧OldK s₁.heap s'.heap∧s'.os=s₁.os∧AllBare s'.gens) s₁) :
  WalkO q loose XP YP l.row.toRowW d [] (fun f vs=>PySem.call f vs):=by
 intro w s₀ s₁ mg mb G Y fa o pm cd doc dV kV ho hd hcd hD hmg hg args vals as hpre hlay hrd hwl hlo
 obtain rfl:dV=.none:=Dflts.none hD hdf
 obtain rfl:kV=.none:=Dflts.noKw hD
 obtain⟨a,vs,ns,rfl,rfl,hobj,hints,hlen⟩:=uS hn hpre hwl
 refine enter_call (codeAny_mono (call w s₀ s₁ mg mb fa o pm cd doc a vs ns G Y ho (fd_plain hd) hcd hmg hobj hints hlen hg) fun r s' hq=>?_)
 obtain⟨rfl,h2,h3,h4⟩:=hq
 exact⟨.inl ⟨.bool true,.bool true,[],rfl,fun _=>rfl,.bool true,uO l _,fun _=>⟨List.Pairwise.nil,fun _ hm=>(nomatch hm)⟩⟩,h2,h3,h4⟩
section
variable {prog:Program} {w:World} {A:Around} {E:Value→Shared→Prop} {s:Shared} {K:Frag}
end
end Att
namespace L2
open PySem PySem.Spec PyProof.Rows
theorem mJ:∀{vs:List Value} {ns:List Int},IntsAre vs ns→Vals (ns.map V.int) vs
 | _,_,.nil=>.nil
 | _,_,.cons n t h=>.cons ⟨t,rfl⟩ (mJ h)
def yv (H:Hp):Prop:=∀ b,H b=none∨∃ o xs,H b=some (.frz o (.lst xs))
theorem v7 {P:Program} {w:World} {K:PySem.W.Frag} {mg mb:Str→Option Value} {CX:lq} {k:Nat} {fa a:Addr} {fd:FuncData} {x:Str} {sp:Sp} {s₁:Shared} {vs:List Value} {ns:List Int}
  (KX:K.In s₁.heap) (hns:s₁.heap.Ns mainGlobals mg) (hb:s₁.heap.Ns builtinsNs mb) (hbb:∀ x:Str,x ≠ "__name__"→mb x=bootBuiltins x) (hlim:s₁.heap.NoLimit) (hg:s₁.gens=#[])
  (ha:s₁.heap.get? a=some { cls:=.type "list",data:=.seq vs.toArray }) (hi:IntsAre vs ns) (hl:ns.length≤sizeLine) (hr:bP k callerA)
  (F:∀ base:Heap,K.In base→base.Ns mainGlobals mg→cS P w K mg base CX k fa fd [x] sp) (hbind:∀(s:Shared) (u:Value),BindsTo s fd ⟨[u],[]⟩ [(x,u)])
  (hsp:∀ H:Hp,yv H→aZ K H a (ns.map V.int)→sp [.ref a] H (fun v _=>v=.bl true) fun _ _ _=>False)
  (hCX:∀ H e s',CX [] H s₁ (fun _ _ _=>False) e s'→False) :
  codeAny (model P w) callerA (.call (.ref fa) ⟨[.ref a],[]⟩) (fun r s'=>r=.ok (.ret (.bool true))∧OldK s₁.heap s'.heap∧s'.os=s₁.os∧AllBare s'.gens) s₁:=by
 have rv:=mJ hi
 have lenV:=hi.length
 -- from an abstract heap in which nothing but the script may be tracked
 have core:∀ H:Hp,yv H→aZ K H a (ns.map V.int)→fG P w H s₁.heap→(∀ b,H b≠none→b=a)→(H a≠none→K.lookup a=none) →
   codeAny (model P w) callerA (.call (.ref fa) ⟨[.ref a],[]⟩) (fun r s'=>r=.ok (.ret (.bool true))∧OldK s₁.heap s'.heap∧s'.os=s₁.os∧AllBare s'.gens) s₁:=by
  intro H hO hS hok hA hK
  have base_of:∀{b:Addr} {o:Obj},s₁.heap.get? b=some o→H b=none→(mV s₁.heap H).get? b=some o:=fun e n=>vS e n
  have noA:∀{b:Addr} {o:Obj} {es:Array DictEntry} {ep:Nat},s₁.heap.get? b=some o→o.data=.dict es ep→H b=none:=fun {b o es ep} e d=>by
   cases q:H b with
   | none=>rfl
   | some u =>
    have e':b=a:=hA b (by rw [q];simp)
    subst e'
    rw [ha] at e;cases e
    have d':Data.seq vs.toArray _=Data.dict es ep:=d
    cases d'
  have nsK:∀{b:Addr} {m:Str→Option Value},s₁.heap.Ns b m→(mV s₁.heap H).Ns b m:=fun {b m} ⟨o,es,ep,e,d,r⟩=>⟨o,es,ep,base_of e (noA e d),d,r⟩
  have hKb:K.In (mV s₁.heap H):=fun b o e=>base_of (KX b o e) (by
   cases q:H b with
   | none=>rfl
   | some u =>
    have e':b=a:=hA b (by rw [q];simp)
    subst e'
    rw [hK (by rw [q];simp)] at e;cases e)
  have hM:Mod K mg (mV s₁.heap H):=⟨hKb,nsK hns,⟨mb,nsK hb,hbb⟩,let ⟨mc,h1,h2⟩:=hlim;⟨mc,nsK h1,h2⟩⟩
  have e0:qA P w K mg (mV s₁.heap H) callerA [] s₁ H:=⟨rfl,hM,fun b o e=>yW e,Nat.le_of_eq (ud _ _),trivial,fun b hb=>absurd (show b∈([]:List Addr) from hb) (by simp),hok,.of_eq hg⟩
  refine codeAny_mono ((F _ hKb (nsK hns)).run callerA [] s₁ H ⟨[.ref a],[]⟩ [.ref a] [.ref a] _ _ hr e0 (hbind s₁ (.ref a)) (.cons rfl .nil) (hsp H hO hS)) fun r s' h=>?_
  cases r with
  | error e=>exact (hCX H e s' h).elim
  | ok fl =>
   cases fl with
   | next=>exact False.elim h
   | brk=>exact False.elim h
   | cont=>exact False.elim h
   | ret u =>
    obtain⟨v,H',os,bare,un,hok',r',q⟩:=h
    have q':v=.bl true:=q
    subst q'
    obtain rfl:u=Value.bool true:=r'
    refine⟨rfl,OldK.of_keep fun b o e=>?_,os,bare⟩
    cases q:H b with
    | none=>exact un.keep b o e q (by intro z;exact absurd (show b∈([]:List Addr) from z) (by simp)) (by simp)
    | some u =>
     rcases hO b with z | ⟨ob,xs,z⟩
     ·rw [q] at z;cases z
     ·have z2:=un.frzs b ob _ z
      obtain⟨e1,_⟩:=hok b _ z
      obtain⟨e2,_⟩:=hok' b _ z2
      rw [e] at e1;cases e1
      exact e2
 cases hk:K.lookup a with
 | some o =>
  -- the script is one of the module's own objects
  have e:=KX a o hk
  rw [ha] at e
  cases e
  refine core (fun _=>none) (fun _=>.inl rfl) (.inr ⟨_,vs.toArray,_,hk,rfl,rfl,rfl,by rw [List.size_toArray,lenV];exact hl,by simpa using rv⟩) (fun b u z=>by have z':(none:Option HO)=some u:=z;cases z') (fun b z=>absurd rfl z) fun z=>absurd rfl z
 | none =>
  refine core (fun b=>if b=a then some (.frz { cls:=.type "list",data:=.seq vs.toArray } (.lst (ns.map V.int))) else none) (fun b=>?_) (.inl (.inr ⟨{ cls:=.type "list",data:=.seq vs.toArray },if_pos rfl⟩)) (fun b u z=>?_) (fun b z=>?_) fun _=>hk
  ·by_cases hb:b=a
   ·exact .inr ⟨_,_,if_pos hb⟩
   ·exact .inl (if_neg hb)
  ·by_cases hb:b=a
   ·have z':=(if_pos hb).symm.trans z
    cases z'
    subst hb
    exact⟨ha,by rw [List.length_map];exact hl,vs,_,rv,ha⟩
   ·have z':=(if_neg hb).symm.trans z
    cases z'
  ·by_cases hb:b=a
   ·exact hb
   ·exact absurd (if_neg hb) z
end L2
namespace L2
open PySem PySem.Spec PyProof.Rows
abbrev bj {K:PySem.W.Frag} {h:Heap} (_:K.In h):PySem.W.Frag:=K
theorem tM {l:PySem.W.OpenLaw} {n k:Nat} {q:Program} {loose:List Str} {XP:(Str→Option Value)→Heap→Prop} {YP:World→Heap→Prop} {d:DefRec} {K:Params→PySem.W.Frag} {CX:World→lq} {sp:World→Sp} {x:Str}
  (hn:l.most=some n) (hn2:n≤sizeLine) (hdf:d.params.defaults=[]) (hr:bP k callerA)
  (hY:∀(w:World) (h:Heap),YP w h→(K w.params).In h)
  (F:∀(w:World) (mg:Str→Option Value) (fa:Addr) (h:Heap),(K w.params).In h→h.Ns mainGlobals mg→mg d.name=some (.ref fa) →
   ∃ fd:FuncData,(∀(s:Shared) (u:Value),BindsTo s fd ⟨[u],[]⟩ [(x,u)]) ∧
    ∀ base:Heap,(K w.params).In base→base.Ns mainGlobals mg→cS l.prog w (K w.params) mg base (CX w) k fa fd [x] (sp w))
  (hsp:∀(w:World) (H:Hp) (a:Addr) (ns:List Int),ns.length≤n→yv H→aZ (K w.params) H a (ns.map V.int)→sp w [.ref a] H (fun v _=>v=.bl true) fun _ _ _=>False)
  (hCX:∀(w:World) (H:Hp) (s:Shared) (e:Value) (s':Shared),CX w [] H s (fun _ _ _=>False) e s'→False) :
  PySem.W.WalkO q loose XP YP l.row.toRowW d [] (fun f vs=>PySem.call f vs):=by
 refine Att.oa hn hdf fun w s₀ s₁ mg mb fa o pm cd doc a vs ns G Y ho hd hcd hmg hobj hints hlen hg=>?_
 have KX:=hY w _ Y
 obtain⟨fd,hb,hF⟩:=F w mg fa _ KX G.T.g hmg
 exact v7 KX G.T.g G.T.b G.T.builtins G.T.nolimit hg hobj hints (Nat.le_trans hlen hn2) hr hF hb (fun H hO hS=>hsp w H a ns hlen hO hS) fun H e s'=>hCX w H s₁ e s'
theorem yh {l:PySem.W.OpenLaw} {n k:Nat} {q:Program} {loose:List Str} {XP:(Str→Option Value)→Heap→Prop} {YP:World→Heap→Prop} {d:DefRec} {K:Params→PySem.W.Frag} {CX:lq} {sp:PySem.W.Frag→Sp} {x:Str}
  (hn:l.most=some n) (hn2:n≤sizeLine) (hdf:d.params.defaults=[]) (hr:bP k callerA)
  (hY:∀(w:World) (h:Heap),YP w h→(K w.params).In h)
  (F:∀(w:World) (mg:Str→Option Value) (fa:Addr) (h:Heap),(K w.params).In h→h.Ns mainGlobals mg→mg d.name=some (.ref fa) →
   ∃ fd:FuncData,(∀(s:Shared) (u:Value),BindsTo s fd ⟨[u],[]⟩ [(x,u)]) ∧
    ∀ base:Heap,(K w.params).In base→base.Ns mainGlobals mg→cS l.prog w (K w.params) mg base CX k fa fd [x] (sp (K w.params)))
  (hsp:∀(K:PySem.W.Frag) (H:Hp) (a:Addr) (ns:List Int),ns.length≤n→yv H→aZ K H a (ns.map V.int)→sp K [.ref a] H (fun v _=>v=.bl true) fun _ _ _=>False)
  (hCX:∀(H:Hp) (s:Shared) (e:Value) (s':Shared),CX [] H s (fun _ _ _=>False) e s'→False) :
  PySem.W.WalkO q loose XP YP l.row.toRowW d [] (fun f vs=>PySem.call f vs) :=
 tM (K:=K) (CX:=fun _=>CX) (sp:=fun w=>sp (K w.params)) hn hn2 hdf hr hY F (fun w H a ns h1 h2 h3=>hsp (K w.params) H a ns h1 h2 h3) fun _ H s e s'=>hCX H s e s'
end L2
/- THE LAST THEOREM (shape;LID,My.* are yours):
   My.Adr: a structure of the addresses that your layer names (classes,functions);My.Txt K t: a structure (Prop) of the equations over K;
   My.txt_mk:{K} {implicit addresses ..} (e1:nsIn K mainGlobals "law"=some (some (.ref f))) (e2:K.lookup f=some ⟨oc,od,.func (fnOf "law" "law" params body scope dV kV doc pm an cdv ct),sl⟩) (e3:codeIn K cdv "law"=true) ..:∃ t,My.Txt K t
set_option maxRecDepth 100000 in
set_option maxHeartbeats 0 in
theorem PySem.Challenge.cw_LID_holds : PySem.Challenge.rw_LID.Holds := by
 w_on;o_law;k_head;(case hw=>w_witness2)
 k_fill
 refine L2.tM (l:=PySem.Challenge.rw_LID) (n:=63) (k:=40) (x := "script") (CX:=fun w=>..) (sp:=fun _=>My.sp_law) rfl (by decide) rfl ⟨rfl,by decide,by decide⟩ (fun w h Y=>PySem.W.kIn_of Y) ?F ?S ?C
 case F =>
  intro w mg fa h KX G hmg
  have T:∃ t,My.Txt (L2.bj KX) t:=by
   dsimp only [L2.bj]                          -- K must stand as «<heap const> w.params» for k_is
   refine' My.txt_mk ?e1 ?e2 ?e3 ..
   (case e1=>PySem.W.k_is)                    -- in the order: a name -> its address -> its object -> its parts
   (case e2=>PySem.W.k_is)
   ..
  obtain⟨t,T⟩:=T
  have e0:=hmg.symm.trans (PySem.W.mg_of KX G T.law)
  cases e0                                       -- fa is the law's own address
  exact⟨_,fun s u=>.of_eq rfl,fun base kb nb=>My.law_fn T kb nb⟩     -- if «.of_eq rfl» comes too early: refine' ⟨_,?b,fun base kb nb=>My.law_fn T kb nb⟩;exact fun s u=>.of_eq rfl
 case S=>exact fun w H a ns hl hO hS=>..
 case C=>exact ..
(the tactic k_is has no namespace: write k_is) -/
namespace L2
open PySem PySem.Spec PyProof.Rows
def inClass (s:Stmt) (j:Nat):Stmt:=match s with
 | .ClassDef _ _ _ body _ _ _ _ _ _ _=>body.getD j (.Pass ⟨0,0,0,0⟩)
 | _=>.Pass ⟨0,0,0,0⟩
def bA (s:Stmt):Arguments:=match s with
 | .FunctionDef _ a _ _ _ _ _ _ _ _=>a
 | _=>{ posonlyargs:=[],args:=[],vararg:=none,kwonlyargs:=[],kw_defaults:=[],kwarg:=none,defaults:=[] }
def aS (s:Stmt):List Stmt:=match s with
 | .FunctionDef _ _ b _ _ _ _ _ _ _=>b
 | _=>[]
def ak (s:Stmt):Scope:=match s with
 | .FunctionDef _ _ _ _ _ _ sc _ _ _=>sc
 | _=>{ kind:=.function,names:=[],isGenerator:=false,isCoroutine:=false }
abbrev aO:lq:=fun _ _ _ _ _ _=>False
abbrev E0:XK:=fun _ _ _=>False
theorem aG {X:Cx}:Passes aO X E0:=fun _ _ _ _ _ _ _ h=>h.elim
structure vg (K:PySem.W.Frag) (x qual:Str) (st:Stmt) (f:Addr) (fd:FuncData):Prop where
 ex:∃(oc:Value) (od:Option Addr) (kV doc pm:Value) (an:Option Addr) (cdv ct:Value) (osl:Array (Option Value)),
  fd=PySem.W.fnOf x qual (bA st) (aS st) (ak st) .none kV doc pm an cdv ct∧K.lookup f=some ⟨oc,od,.func fd,osl⟩∧PySem.W.codeIn K cdv qual=true
 kp:PySem.W.keepIn K (.ref f)=true
section
variable {P:Program} {w:World} {K:PySem.W.Frag} {mg:Str→Option Value} {base:Heap}
theorem vg.ok {x qual:Str} {st:Stmt} {f:Addr} {fd:FuncData} {N ps:List Str} {k:Nat} {sp:Sp} (F:vg K x qual st f fd) (S:aA N ps (ak st)) (len:∀ vs H Q E,sp vs H Q E→vs.length=ps.length)
  (hbody:∀(cdv:Value) (A:Around) (outer:List Env) (s:Shared) (H:Hp) (vs:List V) (Q:VK) (E:XK),bP k (A.deeper (envOfC qual (ak st) s.heap.objs.size f cdv))→sp vs H Q E →
   ∃ t,gF (fc aO P w K mg base N qual (ak st) f cdv A outer s H E).l9 (aS st) t∧t { nx:=fun _ H'=>Q .non H',rt:=Q } (start N vs) H):cS P w K mg base aO (k+1) f fd ps sp:=by
 obtain⟨oc,od,kV,doc,pm,an,cdv,ct,osl,rfl,lk,hcd⟩:=F.ex
 refine vK lk hcd S len fun A outer s H vs Q E hr hsp=>?_
 obtain⟨t,h,q⟩:=hbody cdv A outer s H vs Q E hr hsp
 exact⟨t,h.l9,q⟩
theorem vg.binds {x qual:Str} {st:Stmt} {f:Addr} {fd:FuncData} {ps:List Str} (F:vg K x qual st f fd)
  (h:∀(kV doc pm:Value) (an:Option Addr) (cdv ct:Value) (us:List Value),us.length=ps.length→bindArgs (PySem.W.fnOf x qual (bA st) (aS st) (ak st) .none kV doc pm an cdv ct) ⟨us,[]⟩=pure (ps.zip us)):Binds K fd ps []:=by
 obtain⟨oc,od,kV,doc,pm,an,cdv,ct,osl,rfl,lk,hcd⟩:=F.ex
 exact .all (h kV doc pm an cdv ct)
theorem qP {x qual:Str} {st:Stmt} {f:Addr} {oc:Value} {od an:Option Addr} {osl:Array (Option Value)} {kV doc pm cdv ct:Value} (l:K.lookup f=some ⟨oc,od,.func (PySem.W.fnOf x qual (bA st) (aS st) (ak st) .none kV doc pm an cdv ct),osl⟩)
  (c:PySem.W.codeIn K cdv qual=true) (k:PySem.W.keepIn K (.ref f)=true):vg K x qual st f (PySem.W.fnOf x qual (bA st) (aS st) (ak st) .none kV doc pm an cdv ct):=⟨⟨oc,od,kV,doc,pm,an,cdv,ct,osl,rfl,l,c⟩,k⟩
end
theorem dD {A:Around} {k:Nat} (hr:bP k A):A.units+1<cLine:=Nat.lt_of_le_of_lt (Nat.add_le_add_left (by decide:1≤64) _) hr.units
theorem uT {n:Nat} (h:n≤1000):n<sizeLine:=Nat.lt_of_le_of_lt h (by decide)
section
variable {X:Cx}
theorem pv (i:Nat) {x:Str} {pos:Pos} (hN:X.N[i]?=some x:=by rfl) (hv:BS X.env.scope x:=by first | exact Or.inl rfl | exact Or.inr (Or.inl rfl) | exact Or.inr (Or.inr rfl)) (hd:(x==("__debug__":Str))=false:=by decide)
  (hcd:(x==("__classdict__":Str))=false:=by decide):PE X (.Name x pos) (uZ i):=rm hN hv hd hcd
end
theorem aR {c A B:Prop} [Decidable c] (h1:c→A) (h2:¬c→B):if c then A else B:=by
 by_cases h:c
 ·rw [if_pos h]
  exact h1 h
 ·rw [if_neg h]
  exact h2 h
def aF (H H':Hp):Prop:=∀ b o,H b=some o→H' b=some o
theorem aF.refl (H:Hp):aF H H:=fun _ _ h=>h
theorem aF.trans {H H1 H2:Hp} (a:aF H H1) (b:aF H1 H2):aF H H2:=fun c o h=>b c o (a c o h)
theorem aF.free {H H':Hp} (e:aF H H') {l:Addr} (h:H' l=Option.none):H l=Option.none:=by
 cases q:H l with
 | none=>rfl
 | some o =>
  rw [e l o q] at h
  cases h
end L2
set_option maxHeartbeats 1000000
namespace L2
open PySem PySem.Spec PyProof.Rows
theorem mT {Ex:Value→Shared→Prop} {prog:Program} {w:World} {A:Around} {R:Result→Shared→Prop} {s:Shared} {elt target iter:Expr} {ifs:List Expr} {scope:Scope} {pos:Pos} {it acc:Value} {env:Env} (I:Nat→Shared→Prop)
  (turn:∀ n s,I n s→wpAny (model prog w) A (pyNext it) (fun r s₁=>match r with
   | none=>R (.ok .next) s₁
   | some v=>wpAny (model prog w) A (letOwnedTupleGo target it v) (fun _ s₁'=>wpAny (model prog w) A (assign target env v) (fun _ s₂ =>
     wpAny (model prog w) A (forIn ifs true fun c r=>if r=true then do let ok ← isTrue c env (eval c env);pure (ForInStep.yield ok) else pure (ForInStep.yield r)) (fun ok s₃ =>
      if ok=true then wpAny (model prog w) A (eval elt env) (fun x s₄ =>
       wpAny (model prog w) A (call (.builtin "list.append") [acc,x]) (fun _ s₅=>∃ m,m<n∧I m s₅) Ex s₄) Ex s₃
      else ∃ m,m<n∧I m s₃) Ex s₂) Ex s₁') Ex s₁) Ex s)
  (n:Nat) (h:I n s) (hE:∀ e s',Ex e s'→notedBy (model prog w) A env (fun e s''=>R (.error e) s'') e s') :
  codeAny (model prog w) A (.compLoop (.ListComp elt [⟨target,iter,ifs,0⟩] scope pos) 0 it acc env) R s:=by
 refine codeAny_loop rfl I (fun n s hI=>?_) n h
 show wpAny _ A ((compTurn (.ListComp elt [⟨target,iter,ifs,0⟩] scope pos) 0 it acc env).onRaise (fun x=>do noteFrame x env;theTreesLotGoes x)) _ _ s
 refine wpAny_noted ?_
 rw [compTurn_list]
 refine wpAny_bind (wpAny_standAt (wpAny_bind (wpAny_mono (turn n s hI) (fun r s₁ h₁=>?_) fun _ _ h'=>hE _ _ h')))
 cases r with
 | none=>exact wpAny_pure h₁
 | some v =>
  refine wpAny_bind (wpAny_mono h₁ (fun _ s₁' h₁'=>?_) fun _ _ h'=>hE _ _ h')
  refine wpAny_bind (wpAny_mono h₁' (fun _ s₂ h₂=>wpAny_bind (wpAny_mono h₂ (fun ok s₃ h₃=>?_) fun _ _ h'=>hE _ _ h')) fun _ _ h'=>hE _ _ h')
  cases ok with
  | false=>exact wpAny_pure ⟨rfl,h₃⟩
  | true =>
   exact wpAny_bind (wpAny_bind (wpAny_mono h₃ (fun x s₄ h₄=>wpAny_bind (wpAny_mono h₄ (fun _ s₅ h₅=>wpAny_pure (wpAny_pure ⟨rfl,h₅⟩)) fun _ _ h'=>hE _ _ h')) fun _ _ h'=>hE _ _ h'))
def dP (X:Cx) (Ex:Value→Shared→Prop) (N':List Str) (scope:Scope) (cl:List (Str × Addr)) (C:Addr) (s₂:Shared) (H₂:Hp) (fp:List Addr):Cx :=
 { X with N:=N',s₀:=s₂,H₀:=H₂,env:=compEnvC scope (cellsFrom (C+1) scope.names cl) C X.env,outer:=X.stack,stack:=X.stack,ex:=fp,fn:=fun x=>scope.names.lookup x==some .cell,pn:=[],xe:=Ex }
abbrev gS (X:Cx):=dP X fun _ _=>False
def AllIn (env:Env):List (Str × Addr)→Prop
 | []=>True
 | p::r=>env.cells.lookup p.1=some p.2∧AllIn env r
theorem AllIn.get {env:Env}:∀{l:List (Str × Addr)},AllIn env l→∀ y c,l.lookup y=some c→env.cells.lookup y=some c
 | [],_,_,_,h=>by simp at h
 | (z,d)::r,a,y,c,h=>by
  rw [List.lookup_cons] at h
  cases e:y==z with
  | true =>
   rw [e] at h
   have q:y=z:=by simpa using e
   subst q
   cases h
   exact a.1
  | false =>
   rw [e] at h
   exact AllIn.get a.2 y c h
def dc (js:List (Option Nat)) (σ:St):St:=js.map fun o=>match o with | none=>none | some j=>(σ[j]?).join
structure jZ (X:Cx) (N':List Str) (js:List (Option Nat)) (scope:Scope) (cl:List (Str × Addr)):Prop where
 clos:closureFor scope X.env=pure cl
 kind:scope.kind=.function
 nocell:∀ y∈scope.names,y.2=.cell→scope.names.lookup y.1=some .cell∧∀ p∈js.zip N',p.1.isSome=true→p.2≠y.1
 names:∀ y∈scope.names,y.2=.local→scope.names.lookup y.1=some .local
 sub:AllIn X.env cl
 has:∀ y∈scope.names,y.2=.free→(cl.lookup y.1).isSome=true
 jlen:js.length=N'.length
 jok:∀(i j:Nat) x,js[i]?=some (some j)→N'[i]?=some x→X.N[j]?=some x∧(cl.lookup x).isSome=true∧BS X.env.scope x∧X.env.kindOf x≠some .local∧((relabel scope X.env).names.lookup x=some .cell∨(relabel scope X.env).names.lookup x=some .free)
theorem jj {scope:Scope} {env:Env} {x:Str} {k:NameKind} (h:(relabel scope env).names.lookup x=some k) (hk:k=.cell∨k=.free):∃ y∈scope.names,y.1=x∧(y.2=.free∨y.2=.cell):=by
 have hm:=PySem.mem_of_lookup h
 obtain⟨⟨n,q⟩,hm',e⟩:=List.mem_map.mp hm
 dsimp only at e
 split at e
 ·rename_i hc
  have e1:n=x:=congrArg Prod.fst e
  refine⟨(n,q),hm',e1,.inl ?_⟩
  have:(q==NameKind.free)=true:=by
   simp only [Bool.and_eq_true] at hc
   exact hc.1.1
  simpa using this
 ·have e1:n=x:=congrArg Prod.fst e
  have e2:q=k:=congrArg Prod.snd e
  refine⟨(n,q),hm',e1,?_⟩
  rcases hk with hk | hk
  ·exact .inr (e2.trans hk)
  ·exact .inl (e2.trans hk)
theorem ic {x:Str} {c:Addr}:∀(ns:List (Str × NameKind)) (n:Nat) (acc:List (Str × Addr)),(cellsFrom n ns acc).lookup x=some c→acc.lookup x=some c∨n≤c
 | [],_,_,h=>.inl h
 | (y,k)::r,n,acc,h=>by
  unfold cellsFrom at h
  split at h
  ·rcases ic r _ _ h with z | z
   ·rw [List.lookup_cons] at z
    split at z
    ·cases z;exact .inr (Nat.le_refl _)
    ·exact .inl z
   ·exact .inr (Nat.le_of_succ_le z)
  ·exact ic r _ _ h
theorem qJ {x:Str} {c:Addr}:∀(ns:List (Str × NameKind)) (n:Nat) (acc:List (Str × Addr)),ns.lookup x=some .cell→(cellsFrom n ns acc).lookup x=some c→n≤c
 | [],_,_,h,_=>by cases h
 | (y,k)::r,n,acc,h,e=>by
  rw [List.lookup_cons] at h
  unfold cellsFrom at e
  split at h
  ·rename_i hy
   cases h
   rcases ic r _ _ e with z | z
   ·rw [List.lookup_cons,hy] at z
    cases z;exact Nat.le_refl _
   ·exact Nat.le_of_succ_le z
  ·split at e
   ·exact Nat.le_of_succ_le (qJ r _ _ h e)
   ·exact qJ r _ _ h e
theorem mS {x:Str}:∀(ns:List (Str × NameKind)) (n:Nat) (acc:List (Str × Addr)),(∀ y∈ns,y.2=.cell→x≠y.1)→(cellsFrom n ns acc).lookup x=acc.lookup x
 | [],_,_,_=>rfl
 | (y,k)::r,n,acc,h=>by
  unfold cellsFrom
  split
  ·rename_i hk
   rw [mS r _ _ fun z hz=>h z (List.mem_cons_of_mem _ hz),List.lookup_cons]
   have:(x==y)=false:=by simpa using h (y,k) List.mem_cons_self (by simpa using hk)
   rw [this]
  ·exact mS r _ _ fun z hz=>h z (List.mem_cons_of_mem _ hz)
theorem qI:∀(ns:List (Str × NameKind)) (n:Nat) (acc:List (Str × Addr)),(∀ x c,acc.lookup x=some c→c<n)→(∀ x y c,acc.lookup x=some c→acc.lookup y=some c→x=y) →
  ∀ x y c,(cellsFrom n ns acc).lookup x=some c→(cellsFrom n ns acc).lookup y=some c→x=y
 | [],_,_,_,h=>h
 | (z,k)::r,n,acc,hl,hi=>by
  unfold cellsFrom
  split
  ·refine qI r _ _ (fun x c e=>?_) fun x y c e1 e2=>?_
   ·rw [List.lookup_cons] at e
    split at e
    ·cases e;exact Nat.lt_succ_self _
    ·exact Nat.lt_succ_of_lt (hl x c e)
   ·rw [List.lookup_cons] at e1 e2
    split at e1<;>split at e2
    ·rename_i a _ b
     rw [eq_of_beq a,eq_of_beq b]
    ·cases e1;exact absurd (hl y _ e2) (Nat.lt_irrefl _)
    ·cases e2;exact absurd (hl x _ e1) (Nat.lt_irrefl _)
    ·exact hi x y c e1 e2
  ·exact qI r _ _ hl hi
theorem mR:∀(ns:List (Str × NameKind)) (h:Heap) (acc:List (Str × Addr)),(∀ x c,acc.lookup x=some c→∃ v,h.IsCell c v)→∀ x c,(cellsFrom h.objs.size ns acc).lookup x=some c→∃ v,(pushCells h ns).IsCell c v
 | [],_,_,h=>h
 | (z,k)::r,h,acc,hl=>by
  unfold cellsFrom pushCells
  split
  ·have:=mR r (h.push { cls:=.type "cell",data:=.cell none }) ((z,h.objs.size)::acc) fun x c e=>by
    rw [List.lookup_cons] at e
    split at e
    ·cases e;exact⟨none,_,Heap.get?_push_size _ rfl,rfl⟩
    ·obtain⟨v,q⟩:=hl x c e
     exact⟨v,q.keeps fun b o e=>Heap.get?_push_of_some _ e⟩
   rwa [Heap.size_push] at this
  ·exact mR r h acc hl
theorem lG {M:Model} {A:Around} {E:Value→Shared→Prop} {s:Shared} {scope:Scope} {g:Addr} {cl:List (Str × Addr)} {qual:Str} {env:Env} {Q:Env→Shared→Prop}
  (h:Q (newEnv scope s.heap.objs.size g (cellsFrom (s.heap.objs.size+1) scope.names cl) qual none .none (some env) builtinsNs) { s with heap:=pushCells (s.heap.push { cls:=.type "dict",data:=.dict #[] }) scope.names }) :
  wpAny M A (newFunctionEnv scope g cl [] qual none .none (some env)) Q E s:=by
 simp only [newFunctionEnv,Option.isSome_some,if_true]
 refine wpAny_bind (wpAny_alloc ?_)
 refine wpAny_bind (wpAny_layCells _ (fun name kind cells=>by cases hkc:kind==NameKind.cell<;>simp [hkc]) _ _ _ _ ?_)
 rw [show ({ s with heap:=s.heap.push { cls:=.type "dict",data:=.dict #[] } }:Shared).heap.objs.size=s.heap.objs.size+1 from Heap.size_push ..]
 exact wpAny_bind (wpAny_pure (wpAny_pure h))
def lobj (ys:List Value):Obj:={ cls:=.type "list",data:=.seq ys.toArray ys.length }
def tO (X:Cx) (ifs:List Expr) (t:TT):Prop :=
 ∀(pins:List (Addr × Obj)) (s:Shared) (σ:St) (H:Hp) (Q:Bool→Hp→Prop),Inv X pins σ H s→t σ H Q →
  wpAny (model X.prog X.w) X.A (forIn ifs true fun c r=>if r=true then do let ok ← isTrue c X.env (eval c X.env);pure (ForInStep.yield ok) else pure (ForInStep.yield r)) (TP X pins σ Q) X.xe s
def tK:TT:=fun _ H Q=>Q true H
theorem bQ {X:Cx}:tO X [] tK:=fun pins s σ H Q I h=>wpAny_tests_nil ⟨H,I,h⟩
theorem pQ {X:Cx} {c:Expr} {t:TT} (h:PT X c t):tO X [c] t:=fun pins s σ H Q I q=>wpAny_tests_one (h pins s σ H Q I q)
def cq:List (Option V)→List (Option V)→Prop
 | [],[]=>True
 | none::r,_::r'=>cq r r'
 | some v::r,some u::r'=>u=v∧cq r r'
 | _,_=>False
theorem cq.len:∀{a b:List (Option V)},cq a b→a.length=b.length
 | [],[],_=>rfl
 | none::r,_::r',h=>by simp [cq.len (a:=r) (b:=r') h]
 | some v::r,some u::r',h=>by simp [cq.len (a:=r) (b:=r') h.2]
 | some v::r,none::r',h=>h.elim
 | some v::r,[],h=>h.elim
 | none::r,[],h=>h.elim
 | [],_::_,h=>h.elim
theorem cq.get:∀{a b:List (Option V)},cq a b→∀(i:Nat) v,a[i]?=some (some v)→b[i]?=some (some v)
 | [],[],_,i,v,h=>by simp at h
 | none::r,_::r',h,0,v,e=>by simp at e
 | none::r,_::r',h,i+1,v,e=>by
  have:=cq.get (a:=r) (b:=r') h i v (by simpa using e)
  simpa using this
 | some v::r,some u::r',h,0,v',e=>by
  have q:v=v':=by simpa using e
  have:=h.1
  simp [this,q]
 | some v::r,some u::r',h,i+1,v',e=>by
  have:=cq.get (a:=r) (b:=r') h.2 i v' (by simpa using e)
  simpa using this
 | some v::r,none::r',h,_,_,_=>h.elim
 | some v::r,[],h,_,_,_=>h.elim
 | none::r,[],h,_,_,_=>h.elim
 | [],_::_,h,_,_,_=>h.elim
def CQ (js:List (Option Nat)) (wi:TI) (g:TG) (tt:TT) (te:TE):TE:=fun σ H Q=>wi σ H fun J H1=>∃ W:Nat→Nat→List V→Hp→Prop,(∃ m,W 0 m [] H1)∧∀ i m ys H,W i m ys H →
 (J.stop i H∧ys.length≤sizeLine∧∀ p,H p=none→Q (.ref p) (upd H p (.lst ys))) ∨
 (J.go i H∧ys.length<sizeLine∧∃ N:List V→Hp→Prop,(∀ ys' H',N ys' H'→∃ m',m'<m∧W (i+1) m' ys' H') ∧
  ∀ x H',J.yld i H x H'→g x (dc js σ) H' fun σ2 H2=>cq (dc js σ) σ2∧tt σ2 H2 fun b H3=>if b=true then te σ2 H3 fun v H4=>N (ys++[v]) H4 else N ys H3)
structure qB (X:Cx) (C:Addr) (s₂:Shared) (H₂:Hp) (fp:List Addr):Prop where
 inv:∃ pins σ,Inv X pins σ H₂ s₂
 new:∀ b∈fp,X.s₀.heap.objs.size≤b∨b∈X.ex
 nof:∀ b∈gD X.stack,b∉fp
 le:s₂.heap.objs.size≤C
theorem sj {X:Cx} {Ex:Addr→Shared→Hp→List Addr→Value→Shared→Prop} {elt target iter:Expr} {ifs:List Expr} {scope:Scope} {pos:Pos} {N':List Str} {js:List (Option Nat)} {cl:List (Str × Addr)} {g:TG} {tt:TT} {te:TE} (hcalm:X.calm=true)
  (K:jZ X N' js scope cl)
  (hg:∀ C s₂ H₂ fp,qB X C s₂ H₂ fp→PG (dP X (Ex C s₂ H₂ fp) N' scope cl C s₂ H₂ fp) target g) (ht:∀ C s₂ H₂ fp,qB X C s₂ H₂ fp→tO (dP X (Ex C s₂ H₂ fp) N' scope cl C s₂ H₂ fp) ifs tt) (he:∀ C s₂ H₂ fp,qB X C s₂ H₂ fp→PE (dP X (Ex C s₂ H₂ fp) N' scope cl C s₂ H₂ fp) elt te)
  (herr:∀ C s₂ H₂ fp use Q' acc e s',Ex C s₂ H₂ fp e s'→notedBy (model X.prog X.w) X.A (compEnvC scope (cellsFrom (C+1) scope.names cl) C X.env) (fun e s''=>compPost (model X.prog X.w) X.A X.xe use Q' acc C (.error e) s'') e s')
  {pins:List (Addr × Obj)} {σ:St} {Q:VK} {use:Option (Value→Sem Unit)} {Q':Value→Shared→Prop} {itv:Value} {s2:Shared}
  (h2:C3 X pins σ target (fun J H1=>∃ W:Nat→Nat→List V→Hp→Prop,(∃ m,W 0 m [] H1)∧∀ i m ys H,W i m ys H →
 (J.stop i H∧ys.length≤sizeLine∧∀ p,H p=none→Q (.ref p) (upd H p (.lst ys))) ∨
 (J.go i H∧ys.length<sizeLine∧∃ N:List V→Hp→Prop,(∀ ys' H',N ys' H'→∃ m',m'<m∧W (i+1) m' ys' H') ∧
  ∀ x H',J.yld i H x H'→g x (dc js σ) H' fun σ2 H2=>cq (dc js σ) σ2∧tt σ2 H2 fun b H3=>if b=true then te σ2 H3 fun v H4=>N (ys++[v]) H4 else N ys H3)) itv s2)
  (hok:∀ C D vys H4 s5,(∃ m,s5.heap.Ns C m)→s2.heap.objs.size≤D→D≤C→D≠C→H4 D=none→H4 C=none→(∀ h',Heap.SameBut C s5.heap h'→Inv X pins σ (upd H4 D (.lst vys)) { s5 with heap:=h' })→Q (.ref D) (upd H4 D (.lst vys))→compPost (model X.prog X.w) X.A X.xe use Q' (.ref D) C (.ok .next) s5) :
  wpAny (model X.prog X.w) X.A (newList []) (fun acc s₃=>wpAny (model X.prog X.w) X.A (newFunctionEnv scope X.env.globals cl [] X.env.qual none .none (some X.env)) (fun cenv s₄ =>
   codeAny (model X.prog X.w) X.A (.compStart (.ListComp elt [⟨target,iter,ifs,0⟩] scope pos) 0 itv acc { cenv with scope:=relabel scope X.env }) (compPost (model X.prog X.w) X.A X.xe use Q' acc cenv.locals) s₄) X.xe s₃) X.xe s2:=by
 obtain⟨it,fp,tn,J,H2,e,I2,T,st2,f2,W,⟨m0,w0⟩,turn⟩:=h2
 subst e
 refine wpAny_newObj_type (lG ?_)
 dsimp only
 generalize hP2:s2.heap.push { cls:=.type "list",dict:=none,data:=.seq ([]:List Value).toArray }=P2
 generalize hh₁:pushCells (P2.push { cls:=.type "dict",data:=.dict #[] }) scope.names=h₁
 have hns₁:h₁.Ns P2.objs.size fun _=>none:=hh₁▸(Heap.Ns.new P2 (.type "dict")).keeps (pushCells_keeps _ _)
 have upP:∀ b o,P2.get? b=some o→h₁.get? b=some o:=fun b o e=>hh₁▸pushCells_keeps _ _ b o (Heap.get?_push_of_some _ e)
 have hcel:∀ x c,(cellsFrom (P2.objs.size+1) scope.names cl).lookup x=some c→∃ v,h₁.IsCell c v:=by
  have:=mR scope.names (P2.push { cls:=.type "dict",data:=.dict #[] }) cl fun x c e=>by
   obtain⟨v,q⟩:=I2.cell x c (K.sub.get x c e)
   exact⟨v,q.keeps fun b o e=>Heap.get?_push_of_some _ (hP2▸Heap.get?_push_of_some _ e)⟩
  rw [Heap.size_push,hh₁] at this
  exact this
 have hC:P2.objs.size=s2.heap.objs.size+1:=by rw [← hP2,Heap.size_push]
 have hDC:s2.heap.objs.size≠P2.objs.size:=by rw [hC];exact Nat.ne_of_lt (Nat.lt_succ_self _)
 have below:∀ b,b<s2.heap.objs.size→b≠P2.objs.size∧b≠s2.heap.objs.size:=fun b hb=>⟨by rw [hC];exact Nat.ne_of_lt (Nat.lt_succ_of_lt hb),Nat.ne_of_lt hb⟩
 have old:∀ b o,s2.heap.get? b=some o→h₁.get? b=some o:=fun b o e=>upP b o (hP2▸Heap.get?_push_of_some _ e)
 have hacc:h₁.get? s2.heap.objs.size=some (lobj []):=upP _ _ (hP2▸Heap.get?_push_size _ rfl)
 generalize hCe:P2.objs.size=C at *
 generalize hDe:s2.heap.objs.size=D at *
 let Y:Cx:=dP X (Ex C s2 H2 fp) N' scope cl C s2 H2 fp
 have clLt:∀ y c,cl.lookup y=some c→c<D:=fun y c e=>by
  obtain⟨v,q⟩:=I2.cell y c (K.sub.get y c e)
  rw [← hDe]
  exact q.lt
 have cellsX:∀ y c,Y.env.cells.lookup y=some c→cl.lookup y=some c∨C+1≤c:=fun y c e=>ic _ _ _ e
 have cellNe:∀ y c,Y.env.cells.lookup y=some c→c≠D:=fun y c e=>by
  rcases cellsX y c e with z | z
  ·exact Nat.ne_of_lt (clLt y c z)
  ·exact Nat.ne_of_gt (by omega)
 have freshH:∀ a,D≤a→H2 a=none:=fun a ha=>I2.hok.fresh (by rw [hDe];exact ha)
 have hDleC:D≤C:=by rw [hC];exact Nat.le_succ _
 have lc:qB X C s2 H2 fp:=⟨⟨pins,σ,I2⟩,fun b hb=>((f2 b hb).2.2.2.1).symm,fun b hf hb=>by
   rcases List.mem_cons.mp (I2.fY b hf) with z | z
   ·exact (f2 b hb).2.1 z
   ·exact (f2 b hb).2.2.1 z,by rw [hDe];exact hDleC⟩
 have hbelowfp:∀ b∈fp,b<D:=fun b hb=>by
  obtain⟨o,e,_⟩:=T.obj _ _ st2 b hb
  rw [← hDe]
  exact Heap.lt_size e
 have okY:Y.Ok:=by
  refine⟨I2.ok.mod,K.kind,I2.ok.glob,I2.ok.blt,?_,qI _ _ _ (fun x c e=>Nat.lt_succ_of_lt (Nat.lt_of_lt_of_le (clLt x c e) hDleC)) (fun x y c e1 e2=>I2.ok.inj x y c (K.sub.get x c e1) (K.sub.get y c e2)),fun x hx=>?_,fun x c hf hc=>?_,I2.ok.hd,I2.ok.frames,.inl rfl,fun b hb=>?_,I2.bs,Nat.le_trans I2.ok.bsz I2.sz,fun b o e hb=>?_,fun b hb hf=>?_,I2.stack,I2.iM⟩
  ·show s2.heap.objs.size≤C
   rw [hDe];exact hDleC
  ·have hx':(relabel scope X.env).names.lookup x=some .cell∨(relabel scope X.env).names.lookup x=some .free:=hx
   have:∃ y∈scope.names,y.1=x∧(y.2=.free∨y.2=.cell):=by
    rcases hx' with q | q
    ·exact jj q (.inl rfl)
    ·exact jj q (.inr rfl)
   obtain⟨y,hm,e1,e2⟩:=this
   refine Option.isSome_iff_exists.mp (PySem.W.cellsFrom_some _ _ _ ?_)
   rcases e2 with e2 | e2
   ·have q:=K.has y hm e2
    rw [e1] at q
    exact .inr q
   ·exact .inl (e1▸(K.nocell y hm e2).1)
  ·have hf':scope.names.lookup x=some .cell:=by simpa using (show (scope.names.lookup x==some .cell)=true from hf)
   have:=qJ _ _ _ hf' hc
   show s2.heap.objs.size≤c
   rw [hDe];exact Nat.le_trans hDleC (Nat.le_of_succ_le this)
  ·refine⟨Nat.ne_of_lt (Nat.lt_of_lt_of_le (hbelowfp b hb) hDleC),fun x c e=>?_⟩
   rcases cellsX x c e with z | z
   ·exact (f2 b hb).2.2.2.2.1 x c (K.sub.get x c z)
   ·exact Nat.ne_of_gt (Nat.lt_of_lt_of_le (Nat.lt_of_lt_of_le (hbelowfp b hb) hDleC) (Nat.le_of_succ_le z))
  ·rcases (f2 b hb).2.2.2.1 with z | z
   ·exact I2.ok.noex b o e z
   ·exact absurd (Nat.lt_of_lt_of_le (Heap.lt_size e) (Nat.le_trans I2.ok.bsz z)) (Nat.lt_irrefl _)
  ·rcases List.mem_cons.mp (I2.fY b hf) with z | z
   ·exact (f2 b hb).2.1 z
   ·exact (f2 b hb).2.2.1 z
 -- the block's names
 have locY:∀{s':Shared} {H':Hp} {σ':St},True:=fun {_ _ _}=>trivial
 have invY0:Inv Y [(D,lobj [])] (dc js σ) H2 { s2 with heap:=h₁ }:=by
  refine⟨okY,rfl,I2.bare,Un.kept old,⟨_,hns₁,fun i x v e1 e2 vis=>?_⟩,hcel,freshH C hDleC,fun y c e=>?_,fun p hp=>?_,I2.hok.kept old,?_⟩
  ·-- a name of the block that has a value stands outside in a cell
   have e2':(dc js σ)[i]?=some (some v):=e2
   unfold dc at e2'
   rw [List.getElem?_map] at e2'
   cases ej:js[i]? with
   | none=>rw [ej] at e2';cases e2'
   | some o =>
    rw [ej] at e2'
    cases o with
    | none=>cases e2'
    | some j =>
     obtain⟨n1,n2,n3,n4,n5⟩:=K.jok i j x ej e1
     have e3:(σ[j]?).join=some v:=by simpa using e2'
     have e4:σ[j]?=some (some v):=by
      cases q:σ[j]? with
      | none=>rw [q] at e3;cases e3
      | some z=>rw [q] at e3;simpa using e3
     obtain⟨m,hn,hl⟩:=I2.loc
     obtain⟨u,r,l⟩:=hl j x v n1 e4 n3
     refine⟨u,r,.inr ⟨n5,?_⟩⟩
     rcases l with⟨k,_⟩|⟨k,c,ec,z⟩
     ·exact absurd k n4
     ·obtain⟨c',ec'⟩:=Option.isSome_iff_exists.mp n2
      have ee:=K.sub.get x c' ec'
      rw [ec] at ee
      cases ee
      refine⟨c,(mS _ _ _ fun y hy hk=>(K.nocell y hy hk).2 (some j,x) ?_ rfl).trans ec',?_⟩
      ·exact List.mem_of_getElem? (i:=i) (by rw [List.getElem?_zip_eq_some];exact⟨ej,e1⟩)
      obtain⟨o,ho,hd⟩:=z
      exact⟨o,old c o ho,hd⟩
  ·rcases cellsX y c e with z | z
   ·exact I2.freeC y c (K.sub.get y c z)
   ·exact freshH c (by omega)
  ·have hp':p∈[(D,lobj [])]:=hp
   have e:p=(D,lobj []):=by simpa using hp'
   subst e
   refine⟨hacc,freshH D (Nat.le_refl _),hDC,fun z=>?_,fun v z=>by cases z⟩
   rcases List.mem_cons.mp (I2.fY D z) with q | q
   ·exact absurd (q▸I2.lt) (by rw [hDe];exact Nat.lt_irrefl _)
   ·exact I2.yT (by rw [hDe];exact Nat.le_refl _) q
  ·show (dc js σ).length=N'.length
   unfold dc
   rw [List.length_map]
   exact K.jlen
 have hDfs:D∉Y.fs:=fun z=>by
  rcases List.mem_cons.mp (I2.fY D z) with q | q
  ·exact absurd (q▸I2.lt) (by rw [hDe];exact Nat.lt_irrefl _)
  ·exact I2.yT (by rw [hDe];exact Nat.le_refl _) q
 have stat:∀{H':Hp} {ys:List Value},(∀ b∈fp,H' b=none)→∀ b∈fp,mL Y [(D,lobj ys)] H' b:=fun {H' ys} hn b hb=>by
  refine⟨hn b hb,Nat.ne_of_lt (Nat.lt_of_lt_of_le (hbelowfp b hb) hDleC),okY.exfs b hb,.inl hb,okY.exf b hb |>.2,fun p hp=>?_⟩
  have hp':p∈[(D,lobj ys)]:=hp
  have e:p=(D,lobj ys):=by simpa using hp'
  subst e
  exact Nat.ne_of_gt (hbelowfp b hb)
 have loop:∀ s3:Shared,s3={ s2 with heap:=h₁ } →
   codeAny (model X.prog X.w) X.A (.compLoop (.ListComp elt [⟨target,iter,ifs,0⟩] scope pos) 0 (.ref it) (.ref D) (compEnvC scope (cellsFrom (C+1) scope.names cl) C X.env)) (compPost (model X.prog X.w) X.A X.xe use Q' (.ref D) C) s3:=by
  rintro s3 rfl
  refine mT (fun n s'=>∃ i ys vys H',Inv Y [(D,lobj ys)] (dc js σ) H' s'∧tn i s'.heap∧(∀ b∈fp,H' b=none)∧Vals vys ys∧W i n vys H') ?_ m0
   ⟨0,[],[],H2,invY0,T.keep _ _ _ st2 fun b _ o e=>old b o e,fun b hb=>(f2 b hb).1,.nil,w0⟩ fun e s' z=>herr C s2 H2 fp use Q' (.ref D) e s' z
  rintro n s4 ⟨i,ys,vys,H4,I4,st4,fr4,rv,w4⟩
  rcases turn i n vys H4 w4 with⟨stop,hz,qn⟩|⟨go,hz,Nn,hN,step⟩
  ·refine bo (T.done Y rfl rfl rfl hcalm i _ s4 _ H4 (Ex C s2 H2 fp) I4 (stat fr4) st4 stop) fun r s5 ⟨hr,I5⟩=>?_
   subst hr
   obtain⟨m5,hn5,_⟩:=I5.loc
   obtain⟨pD,nD,_,_,_⟩:=I5.pin (D,lobj ys) (by show _∈[(D,lobj ys)];simp)
   have nC:H4 C=none:=I5.free
   refine hok C D vys H4 s5 ⟨m5,hn5⟩ (Nat.le_refl _) hDleC hDC nD nC (fun h' hsb=>?_) (qn D nD)
   have pD':h'.get? D=some (lobj ys):=hsb.extBut _ _ hDC pD
   refine I2.B9 (s':={ s5 with heap:=h' }) (ch:=fp) I5.os ?_ ?_ I5.bare (fun b hb=>?_)
   ·-- kept
    have u:=I5.base
    have neC:∀ b o,s2.heap.get? b=some o→b≠C∧b≠D:=fun b o e=>by
     have:=Heap.lt_size e
     rw [hDe] at this
     exact⟨Nat.ne_of_lt (Nat.lt_of_lt_of_le this hDleC),Nat.ne_of_lt this⟩
    refine⟨fun b o e nn hb hx=>hsb.extBut b o (neC b o e).1 (u.keep b o e nn hb hx),fun b o e nn hb hx=>?_,fun b o e nn hx=>?_,fun b o e hx=>?_,fun b xs e=>?_,fun b o xs e=>?_,fun b ps e=>?_⟩
    ·obtain⟨sl,q⟩:=u.slot b o e nn hb hx
     exact⟨sl,hsb.extBut b _ (neC b o e).1 q⟩
    ·rw [au (neC b o e).2]
     exact u.free b o e nn hx
    ·obtain⟨o',q⟩:=u.there b o e hx
     exact⟨o',hsb.extBut b _ (neC b o e).1 q⟩
    ·rw [au (a9 (u.tups b xs e) nD)]
     exact u.tups b xs e
    ·rw [au (a9 (u.frzs b o xs e) nD)]
     exact u.frzs b o xs e
    ·obtain⟨more,q⟩:=u.tbls b ps e
     exact⟨more,by rw [au (a9 q nD)];exact q⟩
   ·intro b o e
    by_cases hb:b=D
    ·subst hb
     rw [ag] at e
     cases e
     exact⟨hz,ys,_,rv,pD'⟩
    ·rw [au hb] at e
     refine (I5.hok b o e).gE (fun c w' hc q=>hsb.extBut c w' ?_ q) (fun c q=>by rw [au (a9 q nD)];exact q) fun c xs q=>by rw [au (a9 q nD)];exact q
     rintro rfl
     rcases hc with rfl | hc
     ·rw [nC] at e;cases e
     ·rw [nC] at hc;cases hc
   ·exact⟨(f2 b hb).2.2.2.1,(f2 b hb).2.1,(f2 b hb).2.2.2.2.1,(f2 b hb).2.2.2.2.2⟩
  ·refine bo (T.item Y rfl rfl rfl hcalm i _ s4 _ H4 (Ex C s2 H2 fp) I4 (stat fr4) st4 go) fun r s5 ⟨u,hr,h5⟩=>?_
   subst hr
   refine bo h5 fun _ s6 ⟨x,H6,I6,r6,y6,st6,fr6⟩=>?_
   have I6':=I6.pinned (stat fr6) (T.obj _ _ st6)
   refine bo (hg C s2 H2 fp lc _ s6 _ H6 x u _ I6' r6 (step x H6 y6)) fun _ s7 ⟨σ7,H7,I7,k7,q7⟩=>?_
   refine bo (ht C s2 H2 fp lc _ s7 σ7 H7 _ I7 q7) fun b s8 ⟨H8,I8,q8⟩=>?_
   -- behind the tests and the element: the state goes back to what the next turn wants
   have again:∀{s9:Shared} {H9:Hp},Inv Y ([(D,lobj ys)]++kM fp s6.heap) σ7 H9 s9→Inv Y [(D,lobj ys)] (dc js σ) H9 s9∧tn (i+1) s9.heap∧∀ b∈fp,H9 b=none:=fun {s9 H9} I9=>by
    refine⟨(I9.iQ).weak k7.len k7.get,T.keep _ _ _ st6 fun b hb o e=>(I9.pin (b,o) (List.mem_append_right _ (List.mem_append_right _ (fh hb e)))).1,fun b hb=>?_⟩
    obtain⟨o,e,d⟩:=T.obj _ _ st6 b hb
    exact (I9.pin (b,o) (List.mem_append_right _ (List.mem_append_right _ (fh hb e)))).2.1
   cases b with
   | false =>
    rw [if_neg Bool.false_ne_true] at q8 ⊢
    obtain⟨m',hm,w8⟩:=hN _ _ q8
    obtain⟨J8,t8,f8⟩:=again I8
    exact⟨m',hm,i+1,ys,vys,H8,J8,t8,f8,rv,w8⟩
   | true =>
    rw [if_pos rfl] at q8 ⊢
    refine bo (he C s2 H2 fp lc _ s8 σ7 H8 _ I8 q8) fun y s9 ⟨vy,H9,I9,r9,q9⟩=>?_
    obtain⟨J9,t9,f9⟩:=again I9
    obtain⟨pD,nD,neD,nfD,_⟩:=J9.pin (D,lobj ys) (by show _∈[(D,lobj ys)];simp)
    have zl:ys.length<sizeLine:=by rw [← rv.length];exact hz
    refine append_at (hsz:=by show ys.toArray.size≤sizeLine;rw [List.size_toArray];exact Nat.le_of_lt zl) (show s9.heap.get? D=some { cls:=.type "list",data:=.seq ys.toArray ys.length } from pD) fun h' hsb hD'=>?_
    obtain⟨m',hm,w9⟩:=hN _ _ q9
    have eD:h'.get? D=some (lobj (ys++[y])):=by
     rw [hD']
     unfold lobj
     rw [List.length_append,List.length_singleton,List.push_toArray]
    have J10:Inv Y [] (dc js σ) H9 s9:=J9.gq fun p hp=>absurd hp (by simp)
    have J11:Inv Y [] (dc js σ) H9 { s9 with heap:=h' }:=J10.turned (t':=s9.toks) (it:=D) (fun b o hb e=>hsb.extBut b o hb e) nD neD (.inr (by show s2.heap.objs.size≤D;rw [hDe];exact Nat.le_refl _))
     (fun x c e=>cellNe x c e) fun p hp=>absurd (show p∈([]:List (Addr × Obj)) from hp) (by simp)
    have J12:Inv Y [(D,lobj (ys++[y]))] (dc js σ) H9 { s9 with heap:=h' }:=J11.gq fun p hp=>by
     have e:p=(D,lobj (ys++[y])):=by simpa using hp
     subst e
     exact⟨eD,nD,neD,nfD,fun v z=>by cases z⟩
    have hDf:D∉fp:=fun z=>Nat.lt_irrefl _ (hbelowfp D z)
    exact⟨m',hm,i+1,ys++[y],vys++[vy],H9,J12,T.keep _ _ _ t9 fun b hb o e=>hsb.extBut b o (fun z=>hDf (z▸hb)) e,f9,rv.append (.cons r9 .nil),w9⟩
 exact codeAny_compStart_list (loop _ rfl) (T.self _ 0 _ _ _ (T.keep _ _ _ st2 fun b _ o e=>old b o e) (loop _ rfl))
theorem fO {X:Cx} {elt target iter:Expr} {ifs:List Expr} {scope:Scope} {pos:Pos} {N':List Str} {js:List (Option Nat)} {cl:List (Str × Addr)} {wi:TI} {g:TG} {tt:TT} {te:TE} (hcalm:X.calm=true)
  (K:jZ X N' js scope cl) (hi:PI X target iter wi)
  (hg:∀ C s₂ H₂ fp,PG (gS X N' scope cl C s₂ H₂ fp) target g) (ht:∀ C s₂ H₂ fp,tO (gS X N' scope cl C s₂ H₂ fp) ifs tt) (he:∀ C s₂ H₂ fp,PE (gS X N' scope cl C s₂ H₂ fp) elt te)
  (hs:∀ x,foldedSetIterable iter X.env x=pure x:=by intro _;rfl):PE X (.ListComp elt [⟨target,iter,ifs,0⟩] scope pos) (CQ js wi g tt te):=by
 intro pins s σ H Q I h
 rw [eval_ListComp]
 refine wpAny_comprehension_free (use:=none) rfl hs K.clos K.kind K.names (bo (hi pins s σ H _ I h) fun v s1 h1=>bo h1 fun itv s2 h2=>?_)
 exact sj (Ex:=fun _ _ _ _ _ _=>False) hcalm K (fun C s H f _=>hg C s H f) (fun C s H f _=>ht C s H f) (fun C s H f _=>he C s H f) (fun _ _ _ _ _ _ _ _ _ z=>z.elim) h2 fun C D vys H4 s5 ⟨m,hn⟩ _ _ _ _ _ hI q=>⟨m,hn,fun h' hsb=>⟨.ref D,_,hI h' hsb,rfl,q⟩⟩
end L2
namespace L2
open PySem PySem.Spec PyProof.Rows
def Bd (i:Int):Prop:=i.natAbs<2^4000
theorem vn:(10:Nat)^250≤2^4000:=by decide +kernel
theorem Bd.of {i:Int} (h1:-(10^250)<i) (h2:i<10^250):Bd i:=by
 refine Nat.lt_of_lt_of_le ?_ vn
 have:((10:Nat)^250:Nat)=((10:Int)^250).toNat:=by decide +kernel
 rw [this]
 omega
theorem Bd.bits {i:Int} (h:Bd i):Builtin.Int.intBits i≤2^20 :=
 Nat.le_trans (intBits_le h) (by decide)
theorem Bd.DM {i j:Int} (h:Bd j):Builtin.divisionGoesByPylong i j=false:=by
 refine PyProof.noPylong_of_log2 ?_
 by_cases z:j.natAbs=0
 ·rw [z];decide
 ·exact Nat.lt_of_lt_of_le ((Nat.log2_lt z).mpr h) (by decide)
section
variable {X:Cx}
theorem aL:jI X (binaryOp .Mult) (rI (fun i j=>Bd i∧Bd j) fun i j=>.int (i*j)):=Cr fun _ _ _ _ _ _ _ hc q=>mul_int q (IntMulOk.of_bits hc.1.bits hc.2.bits)
theorem aU:jI X (binaryOp .FloorDiv) (rI (fun _ j=>0<j∧Bd j) fun i j=>.int (i/j)):=Cr fun i j _ _ _ _ _ hc q=>by
 have h1:(0:Int)<j:=hc.1
 exact floordiv_int (by omega) (by rw [Int.fdiv_eq_ediv_of_nonneg i (by omega)];exact q) (.inl hc.2.DM)
theorem kr:jI X (inplaceOp .FloorDiv) (rI (fun _ j=>0<j∧Bd j) fun i j=>.int (i/j)):=Cr fun i j _ _ _ _ _ hc q=>by
 have h1:(0:Int)<j:=hc.1
 exact ifloordiv_int (by omega) (by rw [Int.fdiv_eq_ediv_of_nonneg i (by omega)];exact q) (.inl hc.2.DM)
theorem oX:jI X (inplaceOp .Mult) (rI (fun i j=>Bd i∧Bd j) fun i j=>.int (i*j)):=Cr fun _ _ _ _ _ _ _ hc q=>imul_int q (IntMulOk.of_bits hc.1.bits hc.2.bits)
theorem fJ {op:Operator} {r:R2} (ho:jI X (inplaceOp op) r):DH X op r:=fun pins s σ H x y v u Q I r1 r2 h=>ho pins s σ H x y v u Q I r1 r2 h
def x4 (i j k:Nat) (ta:TA):TS:=fun D σ H=>ta σ H fun vs H1=>∃ v w u,vs=[v,w,u]∧D.nx (((σ.set i (some v)).set j (some w)).set k (some u)) H1
theorem sL {i j k:Nat} {x y z:Str} {a b c:Expr} {ta:TA} {px py pz pt pos:Pos} {kt k2 pt2} (hc:X.calm=true) (hN:X.N.Nodup) (hi:X.N[i]?=some x) (hj:X.N[j]?=some y) (hk:X.N[k]?=some z) (hij:i≠j) (hik:i≠k) (hjk:j≠k)
  (hx:X.env.scope.names.lookup x=some .local) (hy:X.env.scope.names.lookup y=some .local) (hz:X.env.scope.names.lookup z=some .local) (ha:PA X [a,b,c] ta)
  (hw:swappedStores [.Tuple [.Name x px,.Name y py,.Name z pz] kt pt] (.Tuple [a,b,c] k2 pt2) X.env=pure (some [x,y,z]))
  (hs:swapsWithSole [.Tuple [.Name x px,.Name y py,.Name z pz] kt pt] (.Tuple [a,b,c] k2 pt2) pos.line X.env=pure false:=by rfl) :
  PS X (.Assign [.Tuple [.Name x px,.Name y py,.Name z pz] kt pt] (.Tuple [a,b,c] k2 pt2) pos) (x4 i j k ta):=by
 intro pins s σ H D I h
 rw [exec_Assign_arm]
 refine wpAny_bind (wpAny_standAt ?_)
 rw [hs]
 refine wpAny_bind (wpAny_pure ?_)
 rw [if_neg (by decide)]
 refine wpAny_bind (Tuple_ (bo (ha _ pins s σ H _ I h) fun us s1 ⟨vs,H1,I1,r1,q1⟩=>?_))
 obtain⟨v,w,u,e1,q1⟩:=q1
 subst e1
 obtain⟨u1,u2,u3,rfl,rv,rw',ru⟩:∃ u1 u2 u3,us=[u1,u2,u3]∧RelV v u1∧RelV w u2∧RelV u u3:=by
  cases r1 with
  | cons p q =>
   cases q with
   | cons p' q' =>
    cases q' with
    | cons p'' q'' =>
     cases q''
     exact⟨_,_,_,rfl,p,p',p''⟩
 refine wpAny_newObj_type ?_ (by show 3≤sizeLine;decide)
 have I2:Inv X pins σ H1 { s1 with heap:=s1.heap.push { cls:=.type "tuple",data:=.seq [u1,u2,u3].toArray } }:=I1.kept (t':=s1.toks) fun b o e=>Heap.get?_push_of_some _ e
 rw [hw]
 refine wpAny_bind (wpAny_pure ?_)
 show wpAny (model X.prog X.w) X.A (do rule "assign.swapped-stores";let items ← unpackItems (.ref s1.heap.objs.size) 3 none;assignInOrder [fun v=>bindName X.env z v,fun v=>bindName X.env y v,fun v=>bindName X.env x v] items.reverse;pure Flow.next) _ _ _
 refine wpAny_bind (wpAny_rule (wpAny_bind (unpackItems_tuple (items:=#[u1,u2,u3]) (I.ok.hd hc) (IsTup.new s1.heap _) fun h' hx'=>?_)))
 have I3:=I2.kept (h':=h') (t':=s1.toks) fun b o e=>hx' b o (Nat.ne_of_lt (Heap.lt_size e)) e
 show wpAny _ _ (assignInOrder [fun v=>bindName X.env z v,fun v=>bindName X.env y v,fun v=>bindName X.env x v] [u3,u2,u1] >>= fun _=>pure Flow.next) _ _ _
 refine wpAny_bind (assignInOrder_cons (wpAny_bindName (cO I3 hN hk (.inl hz) ru (fun s2 I4=>?_) (.inr hz))))
 refine assignInOrder_cons (wpAny_bindName (cO I4 hN hj (.inl hy) rw' (fun s3 I5=>?_) (.inr hy)))
 refine assignInOrder_cons (wpAny_bindName (cO I5 hN hi (.inl hx) rv (fun s4 I6=>assignInOrder_nil (wpAny_pure ?_)) (.inr hx)))
 have e:((σ.set k (some u)).set j (some w)).set i (some v)=((σ.set i (some v)).set j (some w)).set k (some u):=by
  rw [List.set_comm _ _ (Ne.symm hij),List.set_comm _ _ (Ne.symm hik),List.set_comm _ _ (Ne.symm hjk)]
 rw [e] at I6
 exact⟨_,H1,I6,q1⟩
def Bp (K:PySem.W.Frag):List V→Hp→VK→Prop:=fun xs H Q=>∃(a:Addr) (bs:List Bool),xs=[.ref a]∧aZ K H a (bs.map V.bl)∧Q (.bl (bs.all id)) H
theorem ou (hc:X.calm=true):cZ X (.builtin "all") (Bp X.K):=by
 intro pins s σ H xs us Q I r h
 obtain⟨a,bs,rfl,hq,q⟩:=h
 obtain⟨u,rfl,ru⟩:=vals1 r
 cases ru
 obtain⟨its,rv,p,hz⟩:=I.list hq
 have hl:=p.isList
 have hlt:a<s.heap.objs.size:=by obtain⟨_,e,_⟩:=hl;exact Heap.lt_size e
 have hb:∀(i:Nat) v,its[i]?=some v→∃ b,bs[i]?=some b∧v=.bool b:=fun i v e=>by
  have hi:i<its.length:=(List.getElem?_eq_some_iff.mp e).1
  have hi2:i<bs.length:=by have:=rv.length;rw [List.length_map] at this;omega
  obtain⟨u,e1,e2⟩:=rv.get (i:=i) (x:=V.bl bs[i]) (by rw [List.getElem?_map,List.getElem?_eq_getElem hi2];rfl)
  rw [e] at e1
  cases e1
  exact⟨bs[i],List.getElem?_eq_getElem hi2,e2⟩
 have hln:its.length=bs.length:=by have:=rv.length;rw [List.length_map] at this;omega
 refine call_all_walk (wpAny_pyIter_list hl ?_)
 refine⟨s.heap.objs.size,[s.heap.objs.size,a],[s.heap.objs.size],its.toArray.size,_,_,fun i=>(bs[i]?).getD true,rfl,Walks.list (A:=X.A.in1) (I.ok.hd hc) _ a (Nat.ne_of_lt hlt) its.toArray,
  ⟨⟨_,Heap.get?_push_size _ rfl,rfl,rfl⟩,hl.push _⟩,fun i v s' Q' E' hP hQ=>?_,fun h' tk hk=>?_⟩
 ·obtain⟨b,e,rfl⟩:=hb i v (by simpa using hP)
  simp only [e,Option.getD_some] at hQ
  exact wpAny_truthy_bool hQ
 ·have e:((List.range its.toArray.size).all fun i=>(bs[i]?).getD true)=bs.all id:=by
   rw [List.size_toArray,hln,Bool.eq_iff_iff]
   simp only [List.all_eq_true,List.mem_range,id]
   constructor
   ·intro z b hb'
    obtain⟨i,hi,rfl⟩:=List.mem_iff_getElem.mp hb'
    have:=z i hi
    rwa [List.getElem?_eq_getElem hi,Option.getD_some] at this
   ·intro z i hi
    rw [List.getElem?_eq_getElem hi,Option.getD_some]
    exact z _ (List.getElem_mem hi)
  rw [e]
  exact⟨.bl _,H,I.kept fun b o eb=>hk b o (fun hm=>by rw [List.mem_singleton.mp hm] at eb;exact Nat.lt_irrefl _ (Heap.lt_size eb)) (Heap.get?_push_of_some _ eb),rfl,q⟩
end
end L2
namespace L2
open PySem PySem.Spec PyProof.Rows
def ax (K:PySem.W.Frag) (mg:Str→Option Value) (x:Str) (st:Stmt):Prop:=∃ f fd,vg K x x st f fd∧mg x=some (.ref f)
structure Callee (P:Program) (w:World) (K:PySem.W.Frag) (mg:Str→Option Value) (base:Heap) (CX:lq) (k:Nat) (x:Str) (ps:List Str) (sp:Sp):Prop where
 ex:∃ f fd,cS P w K mg base CX k f fd ps sp∧mg x=some (.ref f)∧PySem.W.keepIn K (.ref f)=true∧Binds K fd ps []
section
variable {P:Program} {w:World} {K:PySem.W.Frag} {mg:Str→Option Value} {base:Heap} {CX:lq} {k:Nat} {x:Str} {ps:List Str} {sp:Sp}
theorem Callee.imp {sp':Sp} (C:Callee P w K mg base CX k x ps sp) (h:∀ vs H Q E,sp' vs H Q E→sp vs H Q E):Callee P w K mg base CX k x ps sp':=by
 obtain⟨f,fd,F,a,b,c⟩:=C.ex
 exact⟨f,fd,F.imp h,a,b,c⟩
theorem Callee.mono {j:Nat} (C:Callee P w K mg base CX k x ps sp) (h:k≤j):Callee P w K mg base CX j x ps sp:=by
 obtain⟨f,fd,F,a,b,c⟩:=C.ex
 exact⟨f,fd,F.mono h,a,b,c⟩
theorem aj {X:Cx} {E:XK} {e:Expr} {es:List Expr} {t:TA} {p pos:Pos} (C:Callee X.prog X.w X.K X.mg X.base CX k x ps sp) (hr:bP k X.A) (hg:Gl X x) (hx:Passes CX X E)
  (ha:PA X (e::es) t) (hdb:(x==("__debug__":Str))=false:=by decide) (he:starEach (e::es) X.env=(false,eval e X.env)::starEach es X.env:=by rfl) (hpl:(backTo pos (starEach es X.env)).any (·.1)=false:=by rfl) :
  PE X (.Call (.Name x p) (e::es) [] pos) (mG sp [] E t):=by
 obtain⟨f,fd,F,hm,hk,hb⟩:=C.ex
 exact sH F hr hg hm hk hb .nil hx ha hdb he hpl
theorem aB {st:Stmt} {N:List Str} (D:ax K mg x st)
  (hb:∀(kV doc pm:Value) (an:Option Addr) (cdv ct:Value) (us:List Value),us.length=ps.length→bindArgs (PySem.W.fnOf x x (bA st) (aS st) (ak st) .none kV doc pm an cdv ct) ⟨us,[]⟩=pure (ps.zip us))
  (S:aA N ps (ak st)) (len:∀ vs H Q E,sp vs H Q E→vs.length=ps.length)
  (hbody:∀(f:Addr) (cdv:Value) (A:Around) (outer:List Env) (s:Shared) (H:Hp) (vs:List V) (Q:VK) (E:XK),bP k (A.deeper (envOfC x (ak st) s.heap.objs.size f cdv))→sp vs H Q E →
   ∃ t,gF (fc aO P w K mg base N x (ak st) f cdv A outer s H E).l9 (aS st) t∧t { nx:=fun _ H'=>Q .non H',rt:=Q } (start N vs) H):Callee P w K mg base aO (k+1) x ps sp:=by
 obtain⟨f,fd,F,hm⟩:=D
 exact⟨f,fd,F.ok S len fun cdv A outer s H vs Q E hr h=>hbody f cdv A outer s H vs Q E hr h,hm,F.kp,F.binds hb⟩
theorem aE {h:Heap} {f:Addr} {st:Stmt} {oc:Value} {od an:Option Addr} {osl:Array (Option Value)} {kV doc pm cdv ct:Value} (X:K.In h) (G:h.Ns mainGlobals mg)
  (a:PySem.W.nsIn K mainGlobals x=some (some (.ref f))) (l:K.lookup f=some ⟨oc,od,.func (PySem.W.fnOf x x (bA st) (aS st) (ak st) .none kV doc pm an cdv ct),osl⟩)
  (c:PySem.W.codeIn K cdv x=true) (kk:PySem.W.keepIn K (.ref f)=true):ax K mg x st:=⟨f,_,qP l c kk,PySem.W.mg_of X G a⟩
end
def j3 (cl:List (Str × Addr)):List (Str × NameKind)→Prop
 | []=>True
 | y::r=>(match y.2 with | .free=>(cl.lookup y.1).isSome=true | _=>True)∧j3 cl r
theorem j3.get {cl:List (Str × Addr)}:∀{l:List (Str × NameKind)},j3 cl l→∀ y∈l,y.2=.free→(cl.lookup y.1).isSome=true
 | [],_,_,h,_=>nomatch h
 | z::r,a,y,h,e=>by
  rcases List.mem_cons.mp h with q | q
  ·subst q
   have:=a.1
   rw [e] at this
   exact this
  ·exact j3.get a.2 y q e
def iT (X:Cx) (scope:Scope) (cl:List (Str × Addr)):List (Option Nat)→List Str→Prop
 | none::r,_::n=>iT X scope cl r n
 | some j::r,x::n=>(X.N[j]?=some x∧(cl.lookup x).isSome=true∧(X.env.scope.names.lookup x=some .cell∨X.env.scope.names.lookup x=some .free)∧((relabel scope X.env).names.lookup x=some .cell∨(relabel scope X.env).names.lookup x=some .free))∧iT X scope cl r n
 | [],[]=>True
 | _,_=>False
theorem iT.len {X:Cx} {scope:Scope} {cl:List (Str × Addr)}:∀{js:List (Option Nat)} {N:List Str},iT X scope cl js N→js.length=N.length
 | [],[],_=>rfl
 | none::r,_::n,h=>by
  have h':iT X scope cl r n:=h
  simp [iT.len h']
 | some j::r,x::n,h=>by
  have h':iT X scope cl r n:=h.2
  simp [iT.len h']
 | [],_::_,h=>h.elim
 | none::_,[],h=>h.elim
 | some _::_,[],h=>h.elim
theorem iT.get {X:Cx} {scope:Scope} {cl:List (Str × Addr)}:∀{js:List (Option Nat)} {N:List Str},iT X scope cl js N→∀(i j:Nat) x,js[i]?=some (some j)→N[i]?=some x →
  X.N[j]?=some x∧(cl.lookup x).isSome=true∧BS X.env.scope x∧X.env.kindOf x≠some .local∧((relabel scope X.env).names.lookup x=some .cell∨(relabel scope X.env).names.lookup x=some .free)
 | [],[],_,i,j,x,e,_=>by simp at e
 | none::r,y::n,h,0,j,x,e,_=>by simp at e
 | none::r,y::n,h,i+1,j,x,e,e2=>iT.get (js:=r) (N:=n) h i j x (by simpa using e) (by simpa using e2)
 | some k::r,y::n,h,0,j,x,e,e2=>by
  have q:k=j:=by simpa using e
  have q2:y=x:=by simpa using e2
  subst q;subst q2
  obtain⟨a,b,c,d⟩:=h.1
  refine⟨a,b,?_,?_,d⟩
  ·rcases c with c | c
   ·exact .inr (.inl c)
   ·exact .inr (.inr c)
  ·intro z
   have z':X.env.scope.names.lookup y=some .local:=z
   rcases c with c | c
   ·rw [c] at z';cases z'
   ·rw [c] at z';cases z'
 | some k::r,y::n,h,i+1,j,x,e,e2=>iT.get (js:=r) (N:=n) h.2 i j x (by simpa using e) (by simpa using e2)
 | [],_::_,h,_,_,_,_,_=>h.elim
 | none::_,[],h,_,_,_,_,_=>h.elim
 | some _::_,[],h,_,_,_,_,_=>h.elim
theorem cJ {X:Cx} {N':List Str} {js:List (Option Nat)} {scope:Scope} {cl:List (Str × Addr)} (clos:closureFor scope X.env=pure cl) (kind:scope.kind=.function) (nocell:∀ y∈scope.names,y.2=.cell→scope.names.lookup y.1=some .cell∧∀ p∈js.zip N',p.1.isSome=true→p.2≠y.1)
  (names:∀ y∈scope.names,y.2=.local→scope.names.lookup y.1=some .local) (sub:AllIn X.env cl) (has:j3 cl scope.names) (j:iT X scope cl js N'):jZ X N' js scope cl :=
 ⟨clos,kind,nocell,names,sub,has.get,j.len,j.get⟩
theorem boot_int:bootBuiltins "int"=some (.type "int"):=by decide +kernel
theorem boot_bool:bootBuiltins "bool"=some (.type "bool"):=by decide +kernel
theorem boot_tuple:bootBuiltins "tuple"=some (.type "tuple"):=by decide +kernel
theorem boot_list:bootBuiltins "list"=some (.type "list"):=by decide +kernel
theorem boot_abs:bootBuiltins "abs"=some (.builtin "abs"):=by decide +kernel
theorem boot_all:bootBuiltins "all"=some (.builtin "all"):=by decide +kernel
theorem boot_max:bootBuiltins "max"=some (.builtin "max"):=by decide +kernel
theorem boot_min:bootBuiltins "min"=some (.builtin "min"):=by decide +kernel
theorem ao {H:Hp} {p:Addr} {o:HO} (h:H p=none):aF H (upd H p o):=fun b u q=>by rw [au (a9 q h)];exact q
end L2
namespace L2
open PySem PySem.Spec PyProof.Rows
theorem bh {α:Type} {c:TT} {tb:TS} {D:Ends} {σ:St} {H:Hp} (S:α→St) (Pv:α→Hp→Prop) (μ:α→Nat) (x₀:α) (hσ:σ=S x₀) (h0:Pv x₀ H)
  (hs:∀ x H,Pv x H→c (S x) H fun b H1=>if b=true then (∃ N:St→Hp→Prop,(∀ σ' H',N σ' H'→∃ y,σ'=S y∧Pv y H'∧μ y<μ x)∧tb { D with nx:=N,ct:=N,bk:=D.nx } (S x) H1) else D.nx (S x) H1):x8 c tb D σ H:=by
 subst hσ
 refine⟨fun m σ H=>∃ x,σ=S x∧Pv x H∧m=μ x,⟨_,x₀,rfl,h0,rfl⟩,?_⟩
 rintro m σ H ⟨x,rfl,p,rfl⟩
 have q:=hs x H p
 have e:(fun b H1=>if b=true then (∃ N:St→Hp→Prop,(∀ σ' H',N σ' H'→∃ y,σ'=S y∧Pv y H'∧μ y<μ x)∧tb { D with nx:=N,ct:=N,bk:=D.nx } (S x) H1) else D.nx (S x) H1) =
   (fun b H1=>if b=true then (∃ N:St→Hp→Prop,(∀ σ' H',N σ' H'→∃ m',m'<μ x∧∃ y,σ'=S y∧Pv y H'∧m'=μ y)∧tb { D with nx:=N,ct:=N,bk:=D.nx } (S x) H1) else D.nx (S x) H1):=by
  funext b H1
  cases b with
  | false=>rfl
  | true =>
   simp only [if_true]
   refine propext ⟨fun⟨N,hN,z⟩=>⟨N,fun σ' H' n=>?_,z⟩,fun⟨N,hN,z⟩=>⟨N,fun σ' H' n=>?_,z⟩⟩
   ·obtain⟨y,e1,e2,e3⟩:=hN σ' H' n
    exact⟨_,e3,y,e1,e2,rfl⟩
   ·obtain⟨m',l,y,e1,e2,e3⟩:=hN σ' H' n
    exact⟨y,e1,e2,e3▸l⟩
 rw [e] at q
 exact q
end L2
namespace Gcd
structure J (A B g u v ng nu nv:Int):Prop where
 g0:0≤g
 n0:0≤ng
 e1:u*A+v*B=g
 e2:nu*A+nv*B=ng
 ex:∃ s U NU V NV:Int,(s=1∨s = -1)∧0≤U∧0≤NU∧0≤V∧0≤NV∧u=s*U∧nu = -s*NU∧v = -s*V∧nv=s*NV∧g*NU+ng*U=B∧g*NV+ng*V=A ∧
  (U≤1∨U≤B)∧(NU≤1∨NU≤B)∧(V≤1∨V≤A)∧(NV≤1∨NV≤A)
theorem J.start {A B:Int} (ha:0≤A) (hb:0≤B):J A B A 1 0 B 0 1 :=
 ⟨ha,hb,by grind,by grind,1,1,0,0,1,.inl rfl,by decide,by decide,by decide,by decide,by grind,by grind,by grind,by grind,by grind,by grind,.inl (by decide),.inl (by decide),.inl (by decide),.inl (by decide)⟩
theorem lZ {n x B:Int} (hn:0<n) (hx:0≤x) (h:n*x≤B):x≤B:=by
 have:1*x≤n*x:=Int.mul_le_mul_of_nonneg_right hn hx
 omega
theorem J.turn {A B g u v ng nu nv:Int} (j:J A B g u v ng nu nv) (hn:0<ng) :
  J A B ng nu nv (g-g/ng*ng) (u-g/ng*nu) (v-g/ng*nv)∧(g-g/ng*ng)<ng∧0≤g/ng∧g/ng≤g:=by
 have q0:0≤g/ng:=Int.ediv_nonneg j.g0 j.n0
 have r:=Int.emod_def g ng
 have r0:=Int.emod_nonneg g (show ng≠0 by omega)
 have r1:=Int.emod_lt_of_pos g hn
 have ql:g/ng≤g:=Int.ediv_le_self ng j.g0
 have e1:=j.e1
 have e2:=j.e2
 have hc:g/ng*ng=ng*(g/ng):=Int.mul_comm _ _
 generalize g/ng=q at *
 obtain⟨s,U,NU,V,NV,hs,hU,hNU,hV,hNV,eu,enu,ev,env,b1,b2,l1,l2,l3,l4⟩:=j.ex
 have hqNU:0≤q*NU:=Int.mul_nonneg q0 hNU
 have hqNV:0≤q*NV:=Int.mul_nonneg q0 hNV
 have rr:0≤g-q*ng:=by omega
 have i1:ng*(U+q*NU)+(g-q*ng)*NU=B:=by grind
 have i2:ng*(V+q*NV)+(g-q*ng)*NV=A:=by grind
 have n1:0≤(g-q*ng)*NU:=Int.mul_nonneg rr hNU
 have n2:0≤(g-q*ng)*NV:=Int.mul_nonneg rr hNV
 refine⟨⟨j.n0,rr,e2,by grind,-s,NU,U+q*NU,NV,V+q*NV,by omega,hNU,by omega,hNV,by omega,by grind,by grind,by grind,by grind,i1,i2,l2,.inr (lZ hn (by omega) (by omega)),l4,.inr (lZ hn (by omega) (by omega))⟩,by omega,q0,ql⟩
structure Av (a b g u v:Int):Prop where
 g0:0≤g
 lin:u*a+v*b=g
 da:g∣a
 db:g∣b
 bu:u.natAbs≤max 1 b.natAbs
 bv:v.natAbs≤max 1 a.natAbs
theorem J.done {a b g u v nu nv:Int} (j:J (if a<0 then -a else a) (if b<0 then -b else b) g u v 0 nu nv):Av a b g (if a<0 then -u else u) (if b<0 then -v else v):=by
 have e1:=j.e1
 obtain⟨s,U,NU,V,NV,hs,hU,hNU,hV,hNV,eu,enu,ev,env,b1,b2,l1,l2,l3,l4⟩:=j.ex
 have hu:u.natAbs=U.toNat:=by
  rcases hs with rfl | rfl
  ·omega
  ·omega
 have hv:v.natAbs=V.toNat:=by
  rcases hs with rfl | rfl
  ·omega
  ·omega
 refine⟨j.g0,?_,?_,?_,?_,?_⟩
 ·split<;>split<;>rename_i h1 h2<;>simp only [h1,h2,if_true,if_false] at e1<;>grind
 ·have:g∣(if a<0 then -a else a):=⟨NV,by omega⟩
  by_cases h:a<0
  ·rw [if_pos h] at this
   exact Int.dvd_neg.mp this
  ·rw [if_neg h] at this
   exact this
 ·have:g∣(if b<0 then -b else b):=⟨NU,by omega⟩
  by_cases h:b<0
  ·rw [if_pos h] at this
   exact Int.dvd_neg.mp this
  ·rw [if_neg h] at this
   exact this
 ·have:(if a<0 then -u else u).natAbs=u.natAbs:=by split<;>omega
  rw [this,hu]
  split at l1<;>omega
 ·have:(if b<0 then -v else v).natAbs=v.natAbs:=by split<;>omega
  rw [this,hv]
  split at l3<;>omega
theorem J.small {A B g u v ng nu nv M:Int} (j:J A B g u v ng nu nv) (hA:0≤A) (hB:0≤B) (hAM:A≤M) (hBM:B≤M) (hM:1≤M):(-M≤u∧u≤M)∧(-M≤v∧v≤M)∧(-M≤nu∧nu≤M)∧(-M≤nv∧nv≤M):=by
 obtain⟨s,U,NU,V,NV,hs,hU,hNU,hV,hNV,eu,enu,ev,env,b1,b2,l1,l2,l3,l4⟩:=j.ex
 rcases hs with rfl | rfl
 ·refine⟨⟨?_,?_⟩,⟨?_,?_⟩,⟨?_,?_⟩,⟨?_,?_⟩⟩<;>omega
 ·refine⟨⟨?_,?_⟩,⟨?_,?_⟩,⟨?_,?_⟩,⟨?_,?_⟩⟩<;>omega
end Gcd
namespace L2
open PySem PySem.Spec PyProof.Rows
theorem aF.upd {H H1:Hp} {p:Addr} {o:HO} (h:aF H H1) (hp:H p=none):aF H (upd H1 p o):=fun b u q=>by rw [au (a9 q hp)];exact h b u q
theorem aF.BM {H H1:Hp} {p:Addr} {o:HO} (h:aF H H1) (hp:H1 p=none):aF H (L2.upd H1 p o):=h.upd (h.free hp)
theorem AI {α:Type} {xs:List α} {k:Int} (h0:0≤k) (h1:k<xs.length):∃ v,vc xs k=some v∧xs[k.toNat]?=some v:=by
 have hk:k.toNat<xs.length:=by omega
 refine⟨xs[k.toNat],?_,List.getElem?_eq_getElem hk⟩
 have:=rQ (xs:=xs) (j:=k.toNat) (List.getElem?_eq_getElem hk)
 rwa [Int.toNat_of_nonneg h0] at this
theorem si {K:PySem.W.Frag} {H:Hp} {p:Addr} {xs:List V} {k:Int} {Q:VK} (h:aZ K H p xs) (h0:0≤k) (h1:k<xs.length) (q:∀ v∈xs,Q v H):Bq K (.ref p) (.int k) H Q:=by
 obtain⟨v,e,e2⟩:=AI h0 h1
 exact⟨p,xs,k,v,rfl,rfl,h,e,q v (List.mem_of_getElem? e2)⟩
theorem v5 {K:PySem.W.Frag} {H:Hp} {p:Addr} {xs:List V} {k:Int} {v:V} {Q:VK} (h:aZ K H p xs) (h0:0≤k) (e:xs[k.toNat]?=some v) (q:Q v H):Bq K (.ref p) (.int k) H Q:=by
 have:=rQ e
 rw [Int.toNat_of_nonneg h0] at this
 exact⟨p,xs,k,v,rfl,rfl,h,this,q⟩
theorem yA {H:Hp} {p:Addr} {xs:List Int} {i:Int} {Q:VK} (h:H p=some (.lst (xs.map V.int))) (hz:xs.length<sizeLine) (q:Q .non (upd H p (.lst ((xs++[i]).map V.int)))):sM (.ref p) [.int i] H Q :=
 ⟨p,xs.map V.int,.int i,rfl,rfl,h,by rw [List.length_map];exact hz,by rw [List.map_append] at q;exact q⟩
def Loop (J:It) (g:TG) (tb:TS) (D:Ends) (σ:St) (H:Hp):Prop:=∃ W:Nat→Nat→St→Hp→Prop,(∃ m,W 0 m σ H)∧∀ i m σ H,W i m σ H →
 (J.stop i H∧D.nx σ H)∨(J.go i H∧∃ N:St→Hp→Prop,(∀ σ' H',N σ' H'→∃ m',m'<m∧W (i+1) m' σ' H')∧∀ x H',J.yld i H x H'→g x σ H' fun σ2 H2=>tb { D with nx:=N,ct:=N,bk:=D.nx } σ2 H2)
theorem tI {wi:TI} {g:TG} {tb:TS} {D:Ends} {σ:St} {H:Hp}:CD wi g tb D σ H=wi σ H fun J H1=>Loop J g tb D σ H1:=rfl
theorem dF {lo:Int} {n:Nat} {g:TG} {tb:TS} {D:Ends} {σ:St} {H:Hp} (Pv:Nat→St→Hp→Prop) (h0:Pv 0 σ H)
  (hs:∀ i σ H,i<n→Pv i σ H→g (.int (lo+i)) σ H fun σ2 H2=>tb { D with nx:=Pv (i+1),ct:=Pv (i+1),bk:=D.nx } σ2 H2) (hd:∀ σ H,Pv n σ H→D.nx σ H):Loop (zT lo n) g tb D σ H:=ua Pv h0 hs hd
theorem eO {K:PySem.W.Frag} {a:Addr} {xs:List V} {g:TG} {tb:TS} {D:Ends} {σ:St} {H:Hp} (Pv:Nat→St→Hp→Prop) (h0:Pv 0 σ H) (hl:∀ i σ H,i≤xs.length→Pv i σ H→aZ K H a xs)
  (hs:∀ i x σ H,xs[i]?=some x→Pv i σ H→g x σ H fun σ2 H2=>tb { D with nx:=Pv (i+1),ct:=Pv (i+1),bk:=D.nx } σ2 H2) (hd:∀ σ H,Pv xs.length σ H→D.nx σ H):Loop (Az K a) g tb D σ H:=vL Pv h0 hl hs hd
theorem v9 {K:PySem.W.Frag} {a:Addr} {xs:List V} {g:TG} {tb:TS} {D:Ends} {σ:St} {H:Hp} (Pv:Nat→St→Hp→Prop) (h0:Pv 0 σ H) (hl:∀ i σ H,i≤xs.length→Pv i σ H→bD K H a xs)
  (hs:∀ i x σ H,xs[i]?=some x→Pv i σ H→g x σ H fun σ2 H2=>tb { D with nx:=Pv (i+1),ct:=Pv (i+1),bk:=D.nx } σ2 H2) (hd:∀ σ H,Pv xs.length σ H→D.nx σ H):Loop (AA K a) g tb D σ H:=yK Pv h0 hl hs hd
def nW (J:It) (js:List (Option Nat)) (g:TG) (tt:TT) (te:TE) (σ:St) (Q:VK) (H1:Hp):Prop:=∃ W:Nat→Nat→List V→Hp→Prop,(∃ m,W 0 m [] H1)∧∀ i m ys H,W i m ys H →
 (J.stop i H∧ys.length≤sizeLine∧∀ p,H p=none→Q (.ref p) (upd H p (.lst ys))) ∨
 (J.go i H∧ys.length<sizeLine∧∃ N:List V→Hp→Prop,(∀ ys' H',N ys' H'→∃ m',m'<m∧W (i+1) m' ys' H') ∧
  ∀ x H',J.yld i H x H'→g x (dc js σ) H' fun σ2 H2=>cq (dc js σ) σ2∧tt σ2 H2 fun b H3=>if b=true then te σ2 H3 fun v H4=>N (ys++[v]) H4 else N ys H3)
theorem xX {js:List (Option Nat)} {wi:TI} {g:TG} {tt:TT} {te:TE} {σ:St} {H:Hp} {Q:VK}:CQ js wi g tt te σ H Q=wi σ H fun J H1=>nW J js g tt te σ Q H1:=rfl
theorem bW {K:PySem.W.Frag} {a:Addr} {xs:List V} {js:List (Option Nat)} {g:TG} {tt:TT} {te:TE} {σ:St} {Q:VK} {H1:Hp} (Pv:Nat→List V→Hp→Prop) (h0:Pv 0 [] H1) (hx:xs.length≤sizeLine) (hl:∀ i ys H,i≤xs.length→Pv i ys H→aZ K H a xs∧ys.length≤i)
  (hs:∀ i x ys H,xs[i]?=some x→Pv i ys H→g x (dc js σ) H fun σ2 H2=>cq (dc js σ) σ2∧tt σ2 H2 fun b H3=>if b=true then te σ2 H3 fun v H4=>Pv (i+1) (ys++[v]) H4 else Pv (i+1) ys H3)
  (hd:∀ ys H p,Pv xs.length ys H→H p=none→Q (.ref p) (upd H p (.lst ys))):nW (Az K a) js g tt te σ Q H1:=by
 refine⟨fun i m ys H=>m=xs.length-i∧i≤xs.length∧Pv i ys H,⟨xs.length,by simp,Nat.zero_le _,h0⟩,?_⟩
 rintro i m ys H ⟨rfl,hi,p⟩
 obtain⟨q,hy⟩:=hl i ys H hi p
 by_cases hlt:i<xs.length
 ·refine .inr ⟨⟨xs,xs[i],q,by simp [hlt]⟩,by omega,Pv (i+1),fun ys' H' p'=>⟨xs.length-(i+1),by omega,rfl,hlt,p'⟩,fun x H' y=>?_⟩
  obtain⟨e,y⟩:=y
  subst e
  exact hs i x ys _ (y xs q) p
 ·have e:i=xs.length:=by omega
  subst e
  exact .inl ⟨⟨xs,q,Nat.le_refl _⟩,by omega,fun p' hp'=>hd ys H p' p hp'⟩
theorem gb {K:PySem.W.Frag} {a:Addr} {xs:List V} {js:List (Option Nat)} {g:TG} {tt:TT} {te:TE} {σ:St} {Q:VK} {H1:Hp} (Pv:Nat→List V→Hp→Prop) (h0:Pv 0 [] H1) (hx:xs.length≤sizeLine) (hl:∀ i ys H,i≤xs.length→Pv i ys H→bD K H a xs∧ys.length≤i)
  (hs:∀ i x ys H,xs[i]?=some x→Pv i ys H→g x (dc js σ) H fun σ2 H2=>cq (dc js σ) σ2∧tt σ2 H2 fun b H3=>if b=true then te σ2 H3 fun v H4=>Pv (i+1) (ys++[v]) H4 else Pv (i+1) ys H3)
  (hd:∀ ys H p,Pv xs.length ys H→H p=none→Q (.ref p) (upd H p (.lst ys))):nW (AA K a) js g tt te σ Q H1:=by
 refine⟨fun i m ys H=>m=xs.length-i∧i≤xs.length∧Pv i ys H,⟨xs.length,by simp,Nat.zero_le _,h0⟩,?_⟩
 rintro i m ys H ⟨rfl,hi,p⟩
 obtain⟨q,hy⟩:=hl i ys H hi p
 by_cases hlt:i<xs.length
 ·refine .inr ⟨⟨xs,xs[i],q,by simp [hlt]⟩,by omega,Pv (i+1),fun ys' H' p'=>⟨xs.length-(i+1),by omega,rfl,hlt,p'⟩,fun x H' y=>?_⟩
  obtain⟨e,y⟩:=y
  subst e
  exact hs i x ys _ (y xs q) p
 ·have e:i=xs.length:=by omega
  subst e
  exact .inl ⟨⟨xs,q,Nat.le_refl _⟩,by omega,fun p' hp'=>hd ys H p' p hp'⟩
theorem DK {CX:lq} {P:Program} {w:World} {K:PySem.W.Frag} {mg:Str→Option Value} {base:Heap} {N:List Str} {qual:Str} {scope:Scope} {f:Addr} {cd:Value} {A:Around} {outer:List Env} {s:Shared} {H:Hp} {E:XK} :
  (fc CX P w K mg base N qual scope f cd A outer s H E).K=K:=rfl
theorem zW {X:Cx} {N':List Str} {scope:Scope} {cl:List (Str × Addr)} {C:Addr} {s₂:Shared} {H₂:Hp} {fp:List Addr}:(gS X N' scope cl C s₂ H₂ fp).K=X.K:=rfl
theorem bK {K:PySem.W.Frag} {b k:Bool} {H:Hp}:yx K (.bl b) H k=(k=b):=rfl
theorem qw {K:PySem.W.Frag} {i:Int} {k:Bool} {H:Hp}:yx K (.int i) H k=(k=(i != 0)):=rfl
def zC (K:PySem.W.Frag):List V→Hp→VK→Prop:=fun xs H Q=>∃ p ys,xs=[.ref p]∧(aZ K H p ys∨bD K H p ys)∧Q (.int ys.length) H
theorem bC {X:Cx}:cZ X (.builtin "len") (zC X.K):=mP
theorem df {K:PySem.W.Frag} {H:Hp} {p:Addr} {xs:List V} {Q:VK} (h:aZ K H p xs) (q:Q (.int xs.length) H):zC K [.ref p] H Q:=⟨p,xs,rfl,.inl h,q⟩
theorem ix {K:PySem.W.Frag} {H:Hp} {p:Addr} {xs:List V} {Q:VK} (h:bD K H p xs) (q:Q (.int xs.length) H):zC K [.ref p] H Q:=⟨p,xs,rfl,.inr h,q⟩
theorem vm {K:PySem.W.Frag} {H:Hp} {p:Addr} {bs:List Bool} {Q:VK} (h:aZ K H p (bs.map V.bl)) (q:Q (.bl (bs.all id)) H):Bp K [.ref p] H Q:=⟨p,bs,rfl,h,q⟩
theorem nG {a b:Int}:nF (.int a) (.int b)=true:=rfl
theorem sP {a b:Bool}:nF (.bl a) (.bl b)=true:=rfl
theorem sR {a:Int}:nF (.int a) .non=true:=rfl
theorem sS {a:Int}:nF .non (.int a)=true:=rfl
theorem sU:nF .non .non=true:=rfl
theorem sQ {a:Bool}:nF (.bl a) .non=true:=rfl
theorem sV {a b:Str}:nF (.str a) (.str b)=true:=rfl
def Dy (t:TS):TS:=fun D σ H=>∃ R:St→Hp→Prop,t { D with nx:=R } σ H∧∀ σ' H',R σ' H'→D.nx σ' H'
theorem c8 {X:Cx} {st:Stmt} {t:TS} (h:PS X st t):PS X st (Dy t):=by
 intro pins s σ H D I ⟨R,hw,hR⟩
 refine bo (h pins s σ H _ I hw) fun f s' q=>?_
 cases f with
 | next=>obtain⟨σ',H',I',r⟩:=q;exact⟨σ',H',I',hR _ _ r⟩
 | brk=>exact q
 | cont=>exact q
 | ret u=>exact q
theorem yJ {P:Program} {w:World} {K:PySem.W.Frag} {mg:Str→Option Value} {base:Heap} {k:Nat} {x:Str} {ps:List Str} {sp:Sp} {st:Stmt} {N:List Str} {f:Addr} {fd:FuncData} (F:vg K x x st f fd)
  (S:aA N ps (ak st)) (len:∀ vs H Q E,sp vs H Q E→vs.length=ps.length)
  (hbody:∀(cdv:Value) (A:Around) (outer:List Env) (s:Shared) (H:Hp) (vs:List V) (Q:VK) (E:XK),bP k (A.deeper (envOfC x (ak st) s.heap.objs.size f cdv))→sp vs H Q E →
   ∃ t,gF (fc aO P w K mg base N x (ak st) f cdv A outer s H E).l9 (aS st) t∧t { nx:=fun _ H'=>Q .non H',rt:=Q } (start N vs) H):cS P w K mg base aO (k+1) f fd ps sp :=
 F.ok S len fun cdv A outer s H vs Q E hr h=>hbody cdv A outer s H vs Q E hr h
theorem yP {P:Program} {w:World} {K:PySem.W.Frag} {mg:Str→Option Value} {k:Nat} {x y:Str} {sp:Sp} {st:Stmt} {fa:Addr} (hfa:mg x=some (.ref fa)) (D:ax K mg x st)
  (hb:∀(kV doc pm:Value) (an:Option Addr) (cdv ct:Value) (u:Value),bindArgs (PySem.W.fnOf x x (bA st) (aS st) (ak st) .none kV doc pm an cdv ct) ⟨[u],[]⟩=pure [(y,u)])
  (ok:∀(base:Heap) (f:Addr) (fd:FuncData),K.In base→vg K x x st f fd→cS P w K mg base aO k f fd [y] sp) :
  ∃ fd:FuncData,(∀(s:Shared) (u:Value),BindsTo s fd ⟨[u],[]⟩ [(y,u)])∧∀ base:Heap,K.In base→base.Ns mainGlobals mg→cS P w K mg base aO k fa fd [y] sp:=by
 obtain⟨f,fd,F,hm⟩:=D
 have e:=hfa.symm.trans hm
 cases e
 refine⟨fd,fun s u=>?_,fun base kb _=>ok base _ _ kb F⟩
 obtain⟨oc,od,kV,doc,pm,an,cdv,ct,osl,rfl,lk,hcd⟩:=F.ex
 exact .of_eq (hb kV doc pm an cdv ct u)
end L2
namespace L2
open PySem PySem.Spec PyProof.Rows PySem.W
def cD:List Value:=[.type "ValueError",.type "Exception",.type "BaseException",.type "object"]
def bX:List Value→Bool
 | .ref _::r=>bX r
 | l=>l==cD
theorem pU (self:Value):refuseLoop self "__setattr__" cD=pure ():=by kernel_rfl
theorem kQ (self:Value):∀{l:List Value},bX l=true→refuseLoop self "__setattr__" l=pure ()
 | .ref c::r,e=>by rw [refuseLoop_ref];exact kQ self (l:=r) e
 | [],e=>by cases e
 | .type n::r,e=>by
  have:Value.type n::r=cD:=by simpa [bX] using e
  rw [this];exact pU self
 | .none::r,e=>by simp [bX,cD] at e
 | .bool _::r,e=>by simp [bX,cD] at e
 | .int _ _::r,e=>by simp [bX,cD] at e
 | .str _ _::r,e=>by simp [bX,cD] at e
 | .bytes _ _::r,e=>by simp [bX,cD] at e
 | .float _ _::r,e=>by simp [bX,cD] at e
 | .builtin _::r,e=>by simp [bX,cD] at e
theorem rY {l:List Value}:bX l=true→l.contains (.type "object")=true∧l.contains (.type "BaseException")=true∧l.isEmpty=false:=by
 intro h
 induction l with
 | nil=>cases h
 | cons a r ih =>
  cases a with
  | ref c =>
   obtain⟨h1,h2,_⟩:=ih h
   exact⟨by rw [List.contains_cons,h1,Bool.or_true],by rw [List.contains_cons,h2,Bool.or_true],rfl⟩
  | type n =>
   have e:Value.type n::r=cD:=by simpa [bX] using h
   rw [e]
   exact⟨by decide,by decide,rfl⟩
  | _=>simp [bX,cD] at h
section
variable {prog:Program} {w:World} {A:Around} {E:Value→Shared→Prop} {s:Shared} {K:PySem.W.Frag} {x C:Addr} {name:Str} {v:Value} {cd:ClassData}
theorem yI {vs:Array Value} {sl:Array (Option Value)} {Q:Unit→Shared→Prop} (X:K.In s.heap) (hx:s.heap.get? x=some ⟨.ref C,none,.fields vs,sl⟩) (hc:clsIn K C=some cd) (hm:bX cd.mro=true) (hh:cd.hasDict=true)
  (hs:findIn K (.ref C) "__setattr__"=some (some (.builtin "object.__setattr__"))) (hn:findIn K (.ref C) name=some none)
  (h:∀ h',h'.get? x=some ⟨.ref C,some s.heap.objs.size,.fields vs,sl⟩→h'.Ns1 s.heap.objs.size (fun y=>if y=name then some v else none)→(∀ b ob,b≠x→s.heap.get? b=some ob→h'.get? b=some ob)→Q () { s with heap:=h',toks:=s.toks+2 }) :
  wpAny (model prog w) A (setAttr (.ref x) name v) Q E s:=by
 have I:PySem.W.InstAt s.heap x ⟨.ref C,none,.fields vs,sl⟩ C none:=⟨hx,rfl,rfl,True.intro⟩
 obtain⟨m1,m2,m3⟩:=rY hm
 refine PySem.W.set_plain X I hs ?_
 have SF:=PySem.F.store_object
 have sub:Looks (model prog w) s.heap (isInstance (.ref x) (.type "object")) true:=I.type.andThen (looks_mroIn X (by unfold mroIn;rw [hc,Option.bind_some,if_neg (by rw [m3];decide),m1]))
 refine codeAny_call_builtin SF.slot.plain SF.entry (@check_slot (model prog w) _ _ { s with toks:=s.toks+1 } "object.__setattr__" "object" "__setattr__" (.ref x) [.str name s.toks,v] [] _ SF.kind SF.split sub (SF.args (.ref x) (.str name s.toks) v) ?_)
 have L1:Looks (model prog w) s.heap (mroOf (.ref C)) cd.mro:=(looks_clsIn X hc).andThen .now
 rw [osa_eq,refuse_eq]
 refine wpAny_bind (wpAny_bind (Looks.here (s:={ s with toks:=s.toks+1 }) I.type (wpAny_bind (Looks.here (s:={ s with toks:=s.toks+1 }) L1 ?_))))
 rw [kQ _ hm]
 refine wpAny_pure (wpAny_bind (Looks.here (s:={ s with toks:=s.toks+1 }) I.type (wpAny_bind (Looks.here (s:={ s with toks:=s.toks+1 }) (looks_findIn X hn) (wpAny_bind (wpAny_pure ?_))))))
 show wpAny _ _ (Builtin.ObjectAttr.storeInOwnDict (.ref x) (.ref C) (.str name s.toks) name v false) _ _ _
 refine wpAny_bind (wpAny_pure (wpAny_bind (wpAny_bind (wpAny_loadPart hx (wpAny_bind (Looks.here (s:={ s with toks:=s.toks+1 }) (looks_clsIn X hc) ?_))))))
 rw [hh]
 refine wpAny_bind (wpAny_alloc ?_)
 have hlt:x≠s.heap.objs.size:=Nat.ne_of_lt (Heap.lt_size hx)
 have hp:(s.heap.push { cls:=.type "dict",data:=.dict #[] }).get? x=some ⟨.ref C,none,.fields vs,sl⟩:=Heap.get?_push_of_some _ hx
 refine wpAny_bind (wpAny_update (s:={ s with toks:=s.toks+1,heap:=s.heap.push { cls:=.type "dict",data:=.dict #[] } }) hp ?_)
 refine wpAny_pure ?_
 show wpAny _ _ (Builtin.ObjectAttr.storeInDict s.heap.objs.size (.str name s.toks) name v) _ _ _
 generalize hu:(s.heap.push { cls:=.type "dict",data:=.dict #[] }).update x (fun o=>{ o with dict:=some s.heap.objs.size })=h1
 have g1:h1.get? x=some ⟨.ref C,some s.heap.objs.size,.fields vs,sl⟩:=by rw [← hu];exact Heap.get?_update_self _ hp rfl
 have g2:∀ b,b≠x→h1.get? b=(s.heap.push { cls:=.type "dict",data:=.dict #[] }).get? b:=fun b hb=>by rw [← hu];exact Heap.get?_update_other _ _ (Ne.symm hb)
 have g3:h1.Ns1 s.heap.objs.size (fun _=>none):=by
  have e1:h1.get? s.heap.objs.size=some { cls:=.type "dict",data:=.dict #[] }:=by rw [g2 _ (Ne.symm hlt)];exact Heap.get?_push_size _ rfl
  have e3:h1.Ns s.heap.objs.size (fun _=>none):=⟨_,#[],_,e1,rfl,(fun e he=>absurd he (by simp)),fun _=>rfl⟩
  exact Heap.Ns1.of_empty e3
 refine wpAny_bind (wpAny_pure (wpAny_bind ?_))
 refine wpAny_nsSet1 (s:={ s with toks:=s.toks+1,heap:=h1 }) g3 fun h' hn2 hs2=>?_
 obtain⟨oD,esD,epD,hoD,hdD,hcD⟩:=hn2.count (ns:=[name]) (PySem.Within.cons name v (ns:=[]) (fun y hy=>absurd rfl hy))
 refine wpAny_bind (wpAny_lookBehind hoD (by rw [hdD];exact pastItsLine_dict (Nat.le_trans hcD (by show 1≤sizeLine+1;decide))) ?_)
 refine wpAny_pure (h h' ((hs2.2 _ hlt).trans g1) hn2 fun b ob hb e=>?_)
 have hb2:b≠s.heap.objs.size:=Nat.ne_of_lt (Heap.lt_size e)
 exact (hs2.2 b hb2).trans ((g2 b hb).trans (Heap.get?_push_of_some _ e))
structure fE (K:PySem.W.Frag) (C:Addr):Prop where
 cls:∃ cd,clsIn K C=some cd∧bX cd.mro=true∧cd.hasDict=true
 at_:∃ od cd sl,K.lookup C=some ⟨.type "type",od,.cls cd,sl⟩
 sa:findIn K (.ref C) "__setattr__"=some (some (.builtin "object.__setattr__"))
 ga:findIn K (.ref C) "__getattribute__"=some (some (.builtin "BaseException.__getattribute__"))
 gx:findIn K (.ref C) "__getattr__"=some none
 ca:findIn K (.ref C) "__class__"=some (some (.builtin "object.__class__"))
 gs:specialIn K (.builtin "object.__class__") "__get__"=some (some (.builtin "getset_descriptor.__get__"))
 tk:takesIn K (.builtin "object.__class__")=some true
end
section
variable {prog:Program} {w:World} {A:Around} {E:Value→Shared→Prop} {h:Heap} {g:Array GenState} {d:Drawn} {t:Nat} {os:OsState}
variable {nm q:Str} {C N:Addr} {bs bm:List Value} {hdct:Bool} {sn:List Str} {sub:List Value} {ab:Bool} {col:Option Bool} {dd:Option Addr} {k0 k1 k2 k3 k5:Option Value}
abbrev lE:String := "ValueError.__new__"
abbrev newExc (C a:Addr):Obj:={ cls:=.ref C,data:=.fields #[.ref a,.none,.none,.none,.bool false,.none] }
theorem yH (hB:bm.contains (.type "ValueError")=true) (hA:bm.contains (.type "AttributeError")=false) (hN:bm.contains (.type "NameError")=false) {rest:List Value} {R:Result→Shared→Prop}
  (hC:h.get? C=some (excClassObj nm q C N bs bm hdct sn sub ab col dd k0 k1 k2 k3 k5 lE)) (hrest:rest.length≤sizeLine)
  (hq:R (.ok (.ret (.ref (h.objs.size+1)))) ⟨(h.push { cls:=.type "tuple",data:=.seq rest.toArray }).push (newExc C h.objs.size),g,d,t,os⟩) :
  codeAny (model prog w) A (.builtin lE ⟨.ref C::rest,[]⟩) R ⟨h,g,d,t,os⟩:=by
 have Fn:=PySem.F.excBase_ValueError
 have hends:=Fn.ends
 have cB:(Value.ref C::bm).contains (.type "ValueError")=true:=by rw [List.contains_cons,hB,Bool.or_true]
 have cA:(Value.ref C::bm).contains (.type "AttributeError")=false:=by rw [List.contains_cons,hA];rfl
 have cN:(Value.ref C::bm).contains (.type "NameError")=false:=by rw [List.contains_cons,hN];rfl
 refine codeAny_builtinAt Fn.entry ?_
 unfold Builtin.«BaseException.__new__»
 refine PySem.wpAt_bind ?_
 show PySem.wpAt _ _ _ (stack >>= _) _ _ _
 refine PySem.wpAt_bind (PySem.wpAt_stack fun p below=>PySem.wpAt_of_wpAny ?_)
 wp_walk
 refine PySem.wpAt_of_wpAny ?_
 rw [Fn.owner]
 repeat (first | with_reducible refine wpAny_madeHere_exc Fn.canon hC ?_ | with_reducible refine wpAny_loadPart_at hC ?_ | (with_reducible refine wpAny_isSubtype_exc hC ?_;first | rw [cB] | rw [cA] | rw [cN]) | wp_step)
 show R _ _
 rw [Heap.size_push]
 exact hq
theorem ly (hB:bm.contains (.type "ValueError")=true) {rest:List Value} {M:Model} {Q:Unit→Shared→Prop} (hC:h.get? C=some (excClassObj nm q C N bs bm hdct sn sub ab col dd k0 k1 k2 k3 k5 lE))
  (hq:Q () ⟨h,g,d,t,os⟩):wpAny M A (checkBuiltinCall lE ⟨.ref C::rest,[]⟩) Q E ⟨h,g,d,t,os⟩:=by
 have Fn:=PySem.F.excBase_ValueError
 have cB:(Value.ref C::bm).contains (.type "ValueError")=true:=by rw [List.contains_cons,hB,Bool.or_true]
 have hstar:=Fn.noStar
 simp only [checkBuiltinCall,Fn.newKind,Fn.newSplit,Fn.newRow]
 repeat (first | refine wpAny_loadPart_at hC ?_ | (refine wpAny_isSubtype_exc hC ?_;rw [cB]) | refine wpAny_staticBase_exc hC ?_ | refine wpAny_madeBy_exc hC ?_ | simp only [bne_self_eq_false,Bool.false_eq_true,if_false] | wp_step)
 exact hq
theorem mU {K:PySem.W.Frag} {i:Value} {rest:List Value} {Q:Fin→Shared→Prop} (X:K.In h) (hB:bm.contains (.type "ValueError")=true) (hA:bm.contains (.type "AttributeError")=false) (hN:bm.contains (.type "NameError")=false)
  (hC:h.get? C=some (excClassObj nm q C N bs bm hdct sn sub ab col dd k0 k1 k2 k3 k5 lE)) (hrest:rest.length≤sizeLine) (hi:findIn K (.ref C) "__init__"=some (some i)) {j:Value}
  (hb:Looks (model prog w) h (bindSpecial i (.ref (h.objs.size+1))) (j,[.ref (h.objs.size+1)]))
  (hq:codeAny (model prog w) A (.call j ⟨.ref (h.objs.size+1)::rest,[]⟩) (fun r s'=>match r with | .ok (.ret v)=>v=.none∧Q (.done (.ret (.ref (h.objs.size+1)))) s' | .ok _=>False | .error e=>E e s')
   ⟨(h.push { cls:=.type "tuple",data:=.seq rest.toArray }).push (newExc C h.objs.size),g,d,t,os⟩) :
  wpAny (model prog w) A (Builtin.«type.__call__» ⟨.ref C::rest,[]⟩) Q E ⟨h,g,d,t,os⟩:=by
 have Fn:=PySem.F.excBase_ValueError
 repeat (first | with_reducible refine wpAny_loadPart_at hC ?_ | with_reducible refine wpAny_madeBy_exc hC ?_ | wp_step)
 refine codeAny_call_builtin_code (Code.quiet_builtin _ Fn.quiet) (ly hB hC ?_)
 refine yH hB hA hN hC hrest ?_
 show wpAny _ _ _ _ _ _
 have kp:∀ b o,h.get? b=some o→((h.push { cls:=.type "tuple",data:=.seq rest.toArray }).push (newExc C h.objs.size)).get? b=some o:=fun b o e=>Heap.get?_push_of_some _ (Heap.get?_push_of_some _ e)
 have hget:((h.push { cls:=.type "tuple",data:=.seq rest.toArray }).push (newExc C h.objs.size)).get? (h.objs.size+1)=some (newExc C h.objs.size):=by
  have:=Heap.get?_push_size (h.push { cls:=.type "tuple",data:=.seq rest.toArray }) (o:=newExc C h.objs.size) rfl
  rwa [Heap.size_push] at this
 have cC:(Value.ref C::bm).contains (.ref C)=true:=by simp
 have hC₁:=kp _ _ hC
 have L1:=(looks_findIn (M:=model prog w) X hi).keeps kp
 have L2:=hb.keeps kp
 unfold isInstance
 repeat (first | with_reducible refine wpAny_loadPart_at hget ?_ | (with_reducible refine wpAny_isSubtype_exc hC₁ ?_;rw [cC]) | wp_step)
 show wpAny _ _ (typeLookup (.ref C) _) _ _ _
 refine L1.at (wpAny_holding (wpAny_bind (L2.at (wpAny_bind (wpAny_call (codeAny_mono hq fun r s' z=>?_))))))
 rcases r with e | (_ | _ | _ | v)
 ·exact z
 ·exact z.elim
 ·exact z.elim
 ·exact z.elim
 ·obtain⟨rfl,z⟩:=z
  exact wpAny_pure (wpAny_pure z)
theorem oO {K:PySem.W.Frag} {i:Value} {rest:List Value} {Q:Value→Shared→Prop} (X:K.In h) (hB:bm.contains (.type "ValueError")=true) (hA:bm.contains (.type "AttributeError")=false) (hN:bm.contains (.type "NameError")=false)
  (hC:h.get? C=some (excClassObj nm q C N bs bm hdct sn sub ab col dd k0 k1 k2 k3 k5 lE)) (hrest:rest.length≤sizeLine) (hi:findIn K (.ref C) "__init__"=some (some i)) {j:Value}
  (hb:Looks (model prog w) h (bindSpecial i (.ref (h.objs.size+1))) (j,[.ref (h.objs.size+1)]))
  (hq:codeAny (model prog w) (A.under (.builtin "type.__call__" ⟨.ref C::rest,[]⟩)) (.call j ⟨.ref (h.objs.size+1)::rest,[]⟩) (fun r s'=>match r with | .ok (.ret v)=>v=.none∧Q (.ref (h.objs.size+1)) s' | .ok _=>False | .error e=>E e s')
   ⟨(h.push { cls:=.type "tuple",data:=.seq rest.toArray }).push (newExc C h.objs.size),g,d,t,os⟩) :
  wpAny (model prog w) A (call (.ref C) rest) Q E ⟨h,g,d,t,os⟩:=by
 have f1:=tc_lookup
 have f2:=tc_bind (.ref C)
 have hT:(⟨h,g,d,t,os⟩:Shared).TypeIs (.ref C) "type":=⟨_,hC,rfl⟩
 refine wpAny_call (codeAny_of_tree ?_)
 show wpAny _ _ (callAny (.ref C) _) _ _ _
 repeat (any_goals (first | assumption | with_reducible refine wpAny_loadPart_at hC ?_ | wp_step))
 refine⟨rfl,?_⟩
 refine codeAny_call_builtin_at (Code.quiet_builtin _ (by decide +kernel)) entry_typeCall (wpAny_check_type_call_sub hC ?_)
 exact mU X hB hA hN hC hrest hi hb hq
end
end L2
namespace L2
open PySem PySem.Spec PyProof.Rows PySem.W
def Tr (h:Heap) (e:Addr) (C:Value) (dd:Option Addr) (T:Addr) (fl:Value):Prop :=
 ∃ vs sl oT ts,h.get? e=some ⟨C,dd,.fields vs,sl⟩∧vs[1]?=some (.ref T)∧T≠e∧h.get? T=some oT∧oT.data=.fields ts∧ts[3]?=some fl
structure Kp (fs ch:List Addr) (h h':Heap):Prop where
 keep:∀ b o,b∉ch→b∉fs→h.get? b=some o→h'.get? b=some o
 slot:∀ b o,b∉ch→h.get? b=some o→∃ sl,h'.get? b=some { o with slots:=sl }
section
variable {M:Model} {A:Around} {E:Value→Shared→Prop} {s:Shared} {base:Heap} {env:Env} {outer:List Env} {L e T:Addr} {C:Value} {dd:Option Addr} {fl:Value}
theorem oQ {vs:Array Value} {sl:Array (Option Value)} {head:Value} {hadNext:Bool} {Q:Unit→Shared→Prop} (hfr:A.frames=some (env::outer)) (hl:s.heap.FunFrames base (env::outer)) (hf:env.frame=some L)
  (he:s.heap.get? e=some ⟨C,dd,.fields vs,sl⟩) (hsz:1<vs.size)
  (h:∀ h' T,Tr h' e C dd T (rawInt L)→s.heap.objs.size≤T→Kp (gD (env::outer)) [e] s.heap h'→Q () { s with heap:=h' }) :
  wpAny M A (do let a ← frameOf env;let pl ← entryPlaceOf L hadNext;let b ← EntryCells.newEntry head a .none (rawInt L) .none pl;setField (.ref e) 1 b) Q E s:=by
 have hne:e∉gD (env::outer):=fun hm=>by
  obtain⟨_,o,ho,hnf⟩:=hl.mem hm
  rw [he] at ho
  cases ho
  exact hnf vs rfl
 refine wpAny_bind (wpAny_frameOf_fun hfr hl hf fun h1 so=>?_)
 refine wpAny_bind (wpAny_entryPlaceOf fun pl hpl=>?_)
 unfold EntryCells.newEntry newFields
 refine wpAny_bind (wpAny_newObj_type ?_ (hpl.sizeOk5 _ _ _ _ _))
 have e1:h1.get? e=some ⟨C,dd,.fields vs,sl⟩:=(so.2.1 e hne).trans he
 generalize hO:({ cls:=.type "traceback",dict:=none,data:=.fields ([head,.ref L,.none,rawInt L,.none]++(if pl.isEmpty then List.replicate 6 Value.none else pl)).toArray }:Obj)=oT
 have hTd:oT.data=.fields ([head,.ref L,.none,rawInt L,.none]++(if pl.isEmpty then List.replicate 6 Value.none else pl)).toArray:=by rw [← hO]
 have hTf:oT.isFreed=false:=by rw [← hO];rfl
 have e2:(h1.push oT).get? e=some ⟨C,dd,.fields vs,sl⟩:=Heap.get?_push_of_some oT e1
 refine wpAny_setField e2 rfl hsz (h _ h1.objs.size ?_ ?_ ?_)
 ·have ne:h1.objs.size≠e:=Nat.ne_of_gt (Heap.lt_size e1)
  refine⟨vs.setIfInBounds 1 (.ref h1.objs.size),sl,oT,_,Heap.get?_update_self _ e2 rfl,by simp [hsz],ne,?_,hTd,by simp⟩
  rw [Heap.get?_update_other _ _ (Ne.symm ne)]
  exact Heap.get?_push_size h1 hTf
 ·exact Nat.le_of_eq (Eq.symm so.1)
 ·refine⟨fun b o hb hf' q=>?_,fun b o hb q=>?_⟩
  ·have hb':b≠e:=fun z=>hb (by simp [z])
   rw [Heap.get?_update_other _ _ (Ne.symm hb')]
   exact Heap.get?_push_of_some oT ((so.2.1 b hf').trans q)
  ·have hb':b≠e:=fun z=>hb (by simp [z])
   obtain⟨sl',q'⟩:=so.2.2 b o q
   refine⟨sl',?_⟩
   rw [Heap.get?_update_other _ _ (Ne.symm hb')]
   exact Heap.get?_push_of_some oT q'
theorem qX {vs:Array Value} {sl:Array (Option Value)} {Q:Unit→Shared→Prop} (hfr:A.frames=some (env::outer)) (hl:s.heap.FunFrames base (env::outer)) (hf:env.frame=some L)
  (he:s.heap.get? e=some ⟨C,dd,.fields vs,sl⟩) (h1:vs[1]?=some .none)
  (h:∀ h' T,Tr h' e C dd T (rawInt L)→s.heap.objs.size≤T→Kp (gD (env::outer)) [e] s.heap h'→Q () { s with heap:=h' }):wpAny M A (noteFrame (.ref e) env) Q E s:=by
 unfold noteFrame
 simp only [hf]
 refine wpAny_bind (wpAny_field he rfl h1 ?_)
 rw [if_neg (by decide)]
 exact oQ hfr hl hf he (Array.getElem?_eq_some_iff.mp h1).1 h
theorem um {Q:Unit→Shared→Prop} (hfr:A.frames=some (env::outer)) (hl:s.heap.FunFrames base (env::outer)) (hf:env.frame=some L) (ht:Tr s.heap e C dd T .none)
  (h:∀ h' T',Tr h' e C dd T' (rawInt L)→s.heap.objs.size≤T'→Kp (gD (env::outer)) [e,T] s.heap h'→Q () { s with heap:=h' }):wpAny M A (noteFrame (.ref e) env) Q E s:=by
 obtain⟨vs,sl,oT,ts,he,h1,hTe,hT,hdT,h3⟩:=ht
 unfold noteFrame
 simp only [hf]
 refine wpAny_bind (wpAny_field he rfl h1 ?_)
 rw [if_pos (show (Value.ref T != Value.none)=true from by simp)]
 refine wpAny_bind (wpAny_field hT hdT h3 ?_)
 rw [if_neg (show ¬((Value.none==rawInt L)=true) from by simp [rawInt])]
 refine wpAny_bind (wpAny_setField hT hdT (Array.getElem?_eq_some_iff.mp h3).1 ?_)
 generalize hu:s.heap.update T (Obj.mapFields (·.setIfInBounds 3 Value.none))=h1'
 have oth:∀ b,b≠T→h1'.get? b=s.heap.get? b:=fun b hb=>by rw [← hu];exact Heap.get?_update_other _ _ (Ne.symm hb)
 have hT1:∃ o,h1'.get? T=some o:=⟨_,by rw [← hu];exact Heap.get?_update_self _ hT (Obj.isFreed_of_fields (Obj.data_mapFields hdT _))⟩
 have hl1:h1'.FunFrames base (env::outer):=hl.of_keeps fun b o hb hnf=>⟨o,(oth b fun q=>by rw [q,hT] at hb;cases hb;exact hnf ts hdT).trans hb,rfl⟩
 refine oQ (s:={ s with heap:=h1' }) hfr hl1 hf ((oth e (Ne.symm hTe)).trans he) (Array.getElem?_eq_some_iff.mp h1).1 fun h' T' t' n' k'=>h h' T' t' ?_ ?_
 ·have z:h1'.objs.size=s.heap.objs.size:=by rw [← hu];exact Heap.size_update ..
  rw [← z];exact n'
 ·refine⟨fun b o hb hf' q=>k'.keep b o (fun z=>hb (by simp at z;simp [z])) hf' ((oth b fun z=>hb (by simp [z])).trans q),fun b o hb q=>k'.slot b o (fun z=>hb (by simp at z;simp [z])) ((oth b fun z=>hb (by simp [z])).trans q)⟩
theorem land {Q:Unit→Shared→Prop} {fs:List Addr} (ht:Tr s.heap e C dd T fl) (h:∀ h',Tr h' e C dd T .none→Kp fs [T] s.heap h'→Q () { s with heap:=h' }):wpAny M A (setFlight (.ref e) none) Q E s:=by
 obtain⟨vs,sl,oT,ts,he,h1,hTe,hT,hdT,h3⟩:=ht
 unfold setFlight
 refine wpAny_bind (wpAny_field he rfl h1 ?_)
 rw [if_pos (show (Value.ref T != Value.none)=true from by simp)]
 have hsz:=(Array.getElem?_eq_some_iff.mp h3).1
 refine wpAny_setField hT hdT hsz (h _ ?_ ?_)
 ·refine⟨vs,sl,_,_,(Heap.get?_update_other _ _ hTe).trans he,h1,hTe,Heap.get?_update_self _ hT (Obj.isFreed_of_fields (Obj.data_mapFields hdT _)),Obj.data_mapFields hdT _,by simp [hsz]⟩
 ·refine⟨fun b o hb _ q=>(Heap.get?_update_other _ _ fun z=>hb (by simp [z])).trans q,fun b o hb q=>⟨o.slots,(Heap.get?_update_other _ _ fun z=>hb (by simp [z])).trans q⟩⟩
theorem oY {vs:Array Value} {sl:Array (Option Value)} {Q:Unit→Shared→Prop} (hfr:A.frames=some (env::outer)) (hl:s.heap.FunFrames base (env::outer)) (hf:env.frame=some L)
  (he:s.heap.get? e=some ⟨C,dd,.fields vs,sl⟩) (h1:vs[1]?=some .none)
  (h:∀ h' T,Tr h' e C dd T .none→s.heap.objs.size≤T→Kp (gD (env::outer)) [e] s.heap h'→Q () { s with heap:=h' }):wpAny M A (leaving env (.ref e)) Q E s:=by
 unfold leaving
 refine wpAny_bind (qX hfr hl hf he h1 fun h1' T t1 n1 k1=>?_)
 refine land (fs:=gD (env::outer)) t1 fun h2 t2 k2=>h h2 T t2 n1 ⟨fun b o hb hf' q=>?_,fun b o hb q=>?_⟩
 ·exact k2.keep b o (fun z=>by simp at z;rw [z] at q;exact absurd (Heap.lt_size q) (Nat.not_lt.mpr n1)) hf' (k1.keep b o hb hf' q)
 ·obtain⟨s1,q1⟩:=k1.slot b o hb q
  obtain⟨s2,q2⟩:=k2.slot b _ (fun z=>by simp at z;rw [z] at q;exact absurd (Heap.lt_size q) (Nat.not_lt.mpr n1)) q1
  exact⟨s2,q2⟩
theorem qT {Q:Unit→Shared→Prop} (hfr:A.frames=some (env::outer)) (hl:s.heap.FunFrames base (env::outer)) (hf:env.frame=some L) (ht:Tr s.heap e C dd T .none)
  (h:∀ h' T',Tr h' e C dd T' .none→s.heap.objs.size≤T'→Kp (gD (env::outer)) [e,T] s.heap h'→Q () { s with heap:=h' }):wpAny M A (leaving env (.ref e)) Q E s:=by
 unfold leaving
 refine wpAny_bind (um hfr hl hf ht fun h1' T' t1 n1 k1=>?_)
 refine land (fs:=gD (env::outer)) t1 fun h2 t2 k2=>h h2 T' t2 n1 ⟨fun b o hb hf' q=>?_,fun b o hb q=>?_⟩
 ·exact k2.keep b o (fun z=>by simp at z;rw [z] at q;exact absurd (Heap.lt_size q) (Nat.not_lt.mpr n1)) hf' (k1.keep b o hb hf' q)
 ·obtain⟨s1,q1⟩:=k1.slot b o hb q
  obtain⟨s2,q2⟩:=k2.slot b _ (fun z=>by simp at z;rw [z] at q;exact absurd (Heap.lt_size q) (Nat.not_lt.mpr n1)) q1
  exact⟨s2,q2⟩
end
end L2
namespace L2
open PySem PySem.Spec PyProof.Rows PySem.W
def XO (x C:Addr) (dd:Option Addr):HO:=.ext fun h=>∃ vs sl,h.get? x=some ⟨.ref C,dd,.fields vs,sl⟩
def XN (x C:Addr) (dd:Option Addr):HO:=.ext fun h=>∃ t sl,h.get? x=some ⟨.ref C,dd,.fields #[.ref t,.none,.none,.none,.bool false,.none],sl⟩
section
variable {P:Program} {w:World} {H H':Hp} {h h':Heap} {x C:Addr} {dd:Option Addr}
theorem XO.ok {vs:Array Value} {sl:Array (Option Value)} (e:h.get? x=some ⟨.ref C,dd,.fields vs,sl⟩):br P w H h x (XO x C dd) :=
 ⟨⟨vs,sl,e⟩,⟨_,e⟩,fun _ _ ⟨vs,sl,q⟩ k=>⟨vs,sl,k _ q⟩⟩
theorem XN.ok {t:Addr} {sl:Array (Option Value)} (e:h.get? x=some ⟨.ref C,dd,.fields #[.ref t,.none,.none,.none,.bool false,.none],sl⟩):br P w H h x (XN x C dd) :=
 ⟨⟨t,sl,e⟩,⟨_,e⟩,fun _ _ ⟨vs,sl,q⟩ k=>⟨vs,sl,k _ q⟩⟩
theorem XN.get (hok:fG P w H h) (e:H x=some (XN x C dd)):∃ t sl,h.get? x=some ⟨.ref C,dd,.fields #[.ref t,.none,.none,.none,.bool false,.none],sl⟩:=by
 obtain⟨q,_⟩:=(show br P w H h x (XN x C dd) from hok x _ e)
 exact q
end
def c6 (P:Program) (w:World):lq:=fun outer H s E e s'=>∃(x C T:Addr) (dd:Option Addr) (H':Hp),e=.ref x∧s'.os=s.os∧AllBare s'.gens∧Un (gD outer) [] H H' s.heap s'.heap∧fG P w H' s'.heap ∧
 Tr s'.heap x (.ref C) dd T .none∧s.heap.get? x=none∧s.heap.get? T=none∧H' T=none∧H' x=some (XO x C dd)∧E (.ref C) (some x) H'
theorem sg {base h h':Heap} {H H':Hp} {ex:List Addr}:∀{l:List Env} {fs:List Addr},h.FunFrames base l→Un fs ex H H' h h'→(∀ b∈gD l,H b=none)→(∀ b∈gD l,b∉ex)→h'.FunFrames base l
 | [],_,_,_,_,_=>trivial
 | env::r,fs,hl,u,hn,hx=>by
  obtain⟨hk,⟨L,o,hf,hb,ho,hd⟩,hr⟩:=hl
  have hL:L∈gD (env::r):=by unfold gD;rw [List.filterMap_cons,hf];exact List.mem_cons_self
  have sub:∀ b∈gD r,b∈gD (env::r):=fun b hb'=>by unfold gD;rw [List.filterMap_cons,hf];exact List.mem_cons_of_mem _ hb'
  obtain⟨sl,e⟩:=u.any ho (hn L hL) (hx L hL)
  exact⟨hk,⟨L,_,hf,hb,e,hd⟩,sg hr u (fun b hb'=>hn b (sub b hb')) fun b hb'=>hx b (sub b hb')⟩
theorem sf {P:Program} {w:World} {H':Hp} {h h':Heap} {x C:Addr} {dd:Option Addr} {fs ch:List Addr} (hok:fG P w H' h) (k:Kp fs ch h h') (hch:∀ b∈ch,b=x∨H' b=none) (hfs:∀ b∈fs,H' b=none)
  (hx:H' x=some (XO x C dd)) {vs:Array Value} {sl:Array (Option Value)} (e:h'.get? x=some ⟨.ref C,dd,.fields vs,sl⟩):fG P w H' h':=by
 intro b o q
 by_cases hb:b=x
 ·subst hb
  rw [hx] at q
  cases q
  exact XO.ok e
 ·refine (hok b o q).gE (fun c u hc r=>k.keep c u (fun z=>?_) (fun z=>?_) r) (fun _ r=>r) fun _ _ r=>r
  ·rcases hch c z with q1 | q1
   ·rcases hc with q2 | q2
    ·exact hb (q2.symm.trans q1)
    ·rw [q1,hx] at q2;cases q2
   ·rcases hc with q2 | q2
    ·rw [q2,q] at q1;cases q1
    ·rw [q2] at q1;cases q1
  ·have q1:=hfs c z
   rcases hc with q2 | q2
   ·rw [q2,q] at q1;cases q1
   ·rw [q2] at q1;cases q1
theorem kI {P:Program} {w:World} {K:PySem.W.Frag} {mg:Str→Option Value} {base:Heap} {N:List Str} {qual:Str} {scope:Scope} {f:Addr} {cd:Value} {A:Around} {outer:List Env} {s:Shared} {H:Hp} {E:XK} :
  Passes (c6 P w) (fc (c6 P w) P w K mg base N qual scope f cd A outer s H E) E:=by
 intro pins σ H1 s1 e s' I hq
 obtain⟨x,C,T,dd,H',rfl,os,bare,un,hok,tr,nx,nT,hT,hx,hE⟩:=hq
 have hl:=sg I.stack un I.iM (fun b _=>by simp)
 have frN:∀ b∈gD (envOfC qual scope s.heap.objs.size f cd::outer),H' b=none:=fun b hb=>by
  obtain⟨_,o,ho,_⟩:=I.stack.mem hb
  exact un.free b o ho (I.iM b hb) (by simp)
 show wpAny (model P w) (A.deeper (envOfC qual scope s.heap.objs.size f cd)) (leaving (envOfC qual scope s.heap.objs.size f cd) (.ref x)) _ _ s'
 refine qT (L:=s.heap.objs.size) I.ok.frames hl rfl tr fun h'' T' t' n' k'=>?_
 have old:∀ b o,s.heap.get? b=some o→b∉[x,T]:=fun b o q hb=>by
  obtain⟨o1,q1⟩:=I.base.there b o q (by intro z;exact absurd (show b∈([]:List Addr) from z) (by simp))
  rcases List.mem_cons.mp hb with z | z
  ·rw [z,nx] at q1;cases q1
  ·rw [List.mem_singleton.mp z,nT] at q1;cases q1
 have nex:∀ b:Addr,b∉(fc (c6 P w) P w K mg base N qual scope f cd A outer s H E).ex:=fun b z=>absurd (show b∈([]:List Addr) from z) (by simp)
 have nfr:∀ b o,s.heap.get? b=some o→b∉gD outer→b∉gD (envOfC qual scope s.heap.objs.size f cd::outer):=fun b o q hb hm=>by
  rcases List.mem_cons.mp (I.fY b hm) with z | z
  ·exact absurd (Heap.lt_size q) (by rw [z];exact Nat.lt_irrefl _)
  ·exact hb z
 obtain⟨vs,sl,oT,ts,he,r'⟩:=t'
 have tr':Tr h'' x (.ref C) dd T' .none:=⟨vs,sl,oT,ts,he,r'⟩
 refine⟨x,C,T',dd,H',rfl,os.trans I.os,bare,?_,?_,tr',?_,?_,hok.fresh n',hx,hE⟩
 ·refine⟨fun b o q nn hb _=>?_,fun b o q nn hb _=>?_,fun b o q nn _=>?_,fun b o q _=>?_,fun b xs q=>un.tups b xs (I.base.tups b xs q),fun b o xs q=>un.frzs b o xs (I.base.frzs b o xs q),fun b ps q=>?_⟩
  ·have q1:=I.base.keep b o q nn hb (nex b)
   have q2:=un.keep b o q1 (I.base.free b o q nn (nex b)) (nfr b o q hb) (by simp)
   exact k'.keep b o (old b o q) (nfr b o q hb) q2
  ·obtain⟨s1',q1⟩:=I.base.slot b o q nn hb (nex b)
   obtain⟨s2',q2⟩:=un.any q1 (I.base.free b o q nn (nex b)) (by simp)
   obtain⟨s3',q3⟩:=k'.slot b _ (old b o q) q2
   exact⟨s3',q3⟩
  ·obtain⟨o1,q1⟩:=I.base.there b o q (nex b)
   exact un.free b o1 q1 (I.base.free b o q nn (nex b)) (by simp)
  ·obtain⟨o1,q1⟩:=I.base.there b o q (nex b)
   obtain⟨o2,q2⟩:=un.there b o1 q1 (by simp)
   obtain⟨s3',q3⟩:=k'.slot b _ (old b o q) q2
   exact⟨_,q3⟩
  ·obtain⟨m1,e1⟩:=I.base.tbls b ps q
   obtain⟨m2,e2⟩:=un.tbls b _ e1
   exact⟨m1++m2,by rw [e2,Array.append_assoc]⟩
 ·exact sf hok k' (fun b hb=>by
   rcases List.mem_cons.mp hb with z | z
   ·exact .inl z
   ·exact .inr (by rw [List.mem_singleton.mp z];exact hT)) frN hx he
 ·cases q:s.heap.get? x with
  | none=>rfl
  | some o=>exact absurd (List.mem_cons_self) (old x o q)
 ·cases q:s.heap.get? T' with
  | none=>rfl
  | some o =>
   obtain⟨o1,q1⟩:=I.base.there T' o q (nex T')
   obtain⟨o2,q2⟩:=un.there T' o1 q1 (by simp)
   exact absurd (Heap.lt_size q2) (Nat.not_lt.mpr n')
section
variable {prog:Program} {w:World} {A:Around} {E:Value→Shared→Prop} {s:Shared} {K:PySem.W.Frag} {env:Env}
theorem lz {x:Sem Value} {Q:Flow→Shared→Prop} (hh:A.handled=none)
  (h:wpAny (model prog w) A x (fun v s₁=>∃ e C t dd sl,v=.ref e∧K.In s₁.heap∧fE K C∧s₁.heap.get? e=some ⟨.ref C,dd,.fields #[.ref t,.none,.none,.none,.bool false,.none],sl⟩∧E (.ref e) s₁) E s) :
  wpAny (model prog w) A (raiseStmt env (some x) none) Q E s:=by
 unfold raiseStmt
 refine wpAny_bind (wpAny_mono h (fun v s₁ h₁=>?_) fun _ _ z=>z)
 obtain⟨e,C,t,dd,sl,rfl,X,c,he,hE⟩:=h₁
 obtain⟨hp,g,d,tk,os⟩:=s₁
 have L1:Looks (model prog w) hp (isSubtype (.ref C) (.type "BaseException")) true:=by
  obtain⟨cd,hc,hm,_⟩:=c.cls
  obtain⟨m1,m2,m3⟩:=rY hm
  exact looks_mroIn X (by unfold mroIn;rw [hc,Option.bind_some,if_neg (by rw [m3];decide),m2])
 obtain⟨od,cd,sc,hk⟩:=c.at_
 have hC:=X _ _ hk
 repeat (first | with_reducible refine wpAny_loadPart_at he ?_ | with_reducible refine wpAny_loadPart_at hC ?_ | with_reducible refine Looks.at L1 ?_ | wp_step)
 exact wpAny_raiseNew_none hh hE
end
end L2
namespace L2
open PySem PySem.Spec PyProof.Rows PySem.W
def rH (K:PySem.W.Frag) (H₀:Hp) (E:XK) (te:TE):TS:=fun _ σ H=>te σ H fun v H1=>∃ x C dd,v=.ref x∧H1 x=some (XN x C dd)∧fE K C∧H₀ x=none∧E (.ref C) (some x) (upd H1 x (XO x C dd))
section
variable {P:Program} {w:World} {K:PySem.W.Frag} {mg:Str→Option Value} {base:Heap} {N:List Str} {qual:Str} {scope:Scope} {f:Addr} {cd:Value} {A:Around} {outer:List Env} {s:Shared} {H:Hp} {E:XK}
theorem uR {pins:List (Addr × Obj)} {σ:St} {H2:Hp} {s2:Shared} {x C:Addr} {dd:Option Addr} (I:Inv (fc (c6 P w) P w K mg base N qual scope f cd A outer s H E) pins σ H2 s2) (hx:H2 x=some (XN x C dd)) (hn:H x=none)
  (hE:E (.ref C) (some x) (upd H2 x (XO x C dd))):(fc (c6 P w) P w K mg base N qual scope f cd A outer s H E).xe (.ref x) s2:=by
 obtain⟨t,sl,he⟩:=XN.get I.hok hx
 have nex:∀ b:Addr,b∉(fc (c6 P w) P w K mg base N qual scope f cd A outer s H E).ex:=fun b z=>absurd (show b∈([]:List Addr) from z) (by simp)
 have nx:s.heap.get? x=none:=by
  cases q:s.heap.get? x with
  | none=>rfl
  | some o =>
   have:=I.base.free x o q hn (nex x)
   rw [hx] at this
   cases this
 have old:∀ b o,s.heap.get? b=some o→b≠x:=fun b o q z=>by rw [z,nx] at q;cases q
 have nfr:∀ b o,s.heap.get? b=some o→b∉gD outer→b∉gD (envOfC qual scope s.heap.objs.size f cd::outer):=fun b o q hb hm=>by
  rcases List.mem_cons.mp (I.fY b hm) with z | z
  ·exact absurd (Heap.lt_size q) (by rw [z];exact Nat.lt_irrefl _)
  ·exact hb z
 have hok':fG P w (upd H2 x (XO x C dd)) s2.heap:=fun b o q=>by
  by_cases hb:b=x
  ·subst hb
   rw [ag] at q
   cases q
   exact XO.ok he
  ·rw [au hb] at q
   refine (I.hok b o q).gE (fun _ _ _ r=>r) (fun c r=>?_) fun c xs r=>?_
   ·rw [au (fun z=>by rw [z,hx] at r;cases r)];exact r
   ·rw [au (fun z=>by rw [z,hx] at r;cases r)];exact r
 show wpAny (model P w) (A.deeper (envOfC qual scope s.heap.objs.size f cd)) (leaving (envOfC qual scope s.heap.objs.size f cd) (.ref x)) _ _ s2
 refine oY (L:=s.heap.objs.size) I.ok.frames I.stack rfl he rfl fun h'' T t' n' k'=>?_
 obtain⟨vs,sl',oT,ts,he',r'⟩:=t'
 have tr':Tr h'' x (.ref C) dd T .none:=⟨vs,sl',oT,ts,he',r'⟩
 have nT:T≠x:=r'.2.1
 refine⟨x,C,T,dd,upd H2 x (XO x C dd),rfl,I.os,I.bare,?_,?_,tr',nx,?_,?_,ag,hE⟩
 ·refine⟨fun b o q nn hb _=>?_,fun b o q nn hb _=>?_,fun b o q nn _=>?_,fun b o q _=>?_,fun b xs q=>?_,fun b o xs q=>?_,fun b ps q=>?_⟩
  ·exact k'.keep b o (by simp [old b o q]) (nfr b o q hb) (I.base.keep b o q nn hb (nex b))
  ·obtain⟨s1',q1⟩:=I.base.slot b o q nn hb (nex b)
   obtain⟨s3',q3⟩:=k'.slot b _ (by simp [old b o q]) q1
   exact⟨s3',q3⟩
  ·rw [au (old b o q)]
   exact I.base.free b o q nn (nex b)
  ·obtain⟨o1,q1⟩:=I.base.there b o q (nex b)
   obtain⟨s3',q3⟩:=k'.slot b _ (by simp [old b o q]) q1
   exact⟨_,q3⟩
  ·have:=I.base.tups b xs q
   rw [au (fun z=>by rw [z,hx] at this;cases this)];exact this
  ·have:=I.base.frzs b o xs q
   rw [au (fun z=>by rw [z,hx] at this;cases this)];exact this
  ·obtain⟨m1,e1⟩:=I.base.tbls b ps q
   exact⟨m1,by rw [au (fun z=>by rw [z,hx] at e1;cases e1)];exact e1⟩
 ·exact sf hok' k' (fun b hb=>.inl (by simpa using hb)) (fun b hb=>by
   have z:=I.iM b hb
   rw [au (fun y=>by rw [y,hx] at z;cases z)];exact z) ag he'
 ·cases q:s.heap.get? T with
  | none=>rfl
  | some o =>
   obtain⟨o1,q1⟩:=I.base.there T o q (nex T)
   exact absurd (Heap.lt_size q1) (Nat.not_lt.mpr n')
 ·rw [au nT]
  exact I.hok.fresh n'
theorem bZ {e:Expr} {te:TE} {pos:Pos} (he:PE (fc (c6 P w) P w K mg base N qual scope f cd A outer s H E) e te):PS (fc (c6 P w) P w K mg base N qual scope f cd A outer s H E) (.Raise (some e) none pos) (rH K H E te):=by
 intro pins s1 σ H1 D I h
 rw [arm_exec_Raise]
 refine wpAny_bind (wpAny_standAt (lz (K:=K) (I.ok.hd rfl) (wpAny_bind (bo (he pins s1 σ H1 _ I h) fun v s2 ⟨y,H2,I2,r,x,C,dd,ey,hx,c,hn,hE⟩=>?_))))
 subst ey
 obtain rfl:v=Value.ref x:=r
 obtain⟨t,sl,hg⟩:=XN.get I2.hok hx
 exact wpAny_bind (wpAny_standAt (wpAny_pure ⟨x,C,t,dd,sl,rfl,I2.fF,c,hg,uR I2 hx hn hE⟩))
end
end L2
namespace L2
open PySem PySem.Spec PyProof.Rows PySem.W
section
variable {prog:Program} {w:World} {A:Around} {E:Value→Shared→Prop} {h:Heap} {g:Array GenState} {d:Drawn} {t:Nat} {os:OsState}
variable {nm q:Str} {C N:Addr} {bs bm:List Value} {hdct:Bool} {sn:List Str} {sub:List Value} {ab:Bool} {col:Option Bool} {dd:Option Addr} {k0 k1 k2 k3 k5:Option Value}
theorem tZ {R:Result→Shared→Prop} {e a:Addr} (hB:bm.contains (.type "ValueError")=true) (hC:h.get? C=some (excClassObj nm q C N bs bm hdct sn sub ab col dd k0 k1 k2 k3 k5 lE)) (he:h.get? e=some (newExc C a))
  (hq:∀ h',h'.get? e=some (newExc C h.objs.size)→(∀ b o,b≠e→h.get? b=some o→h'.get? b=some o)→R (.ok (.ret .none)) ⟨h',g,d,t,os⟩) :
  codeAny (model prog w) A (.call (.builtin "ValueError.__init__") ⟨[.ref e],[]⟩) R ⟨h,g,d,t,os⟩:=by
 have Fn:=PySem.F.excBase_ValueError
 have cB:(Value.ref C::bm).contains (.type "ValueError")=true:=by rw [List.contains_cons,hB,Bool.or_true]
 have hshort:=Fn.noStar
 refine codeAny_call_builtin Fn.init.plain Fn.initEntry ?_
 have chk:∀{Q:Unit→Shared→Prop} {E:Value→Shared→Prop} {A:Around},Q () ⟨h,g,d,t,os⟩→wpAny (model prog w) A (checkBuiltinCall "ValueError.__init__" ⟨[.ref e],[]⟩) Q E ⟨h,g,d,t,os⟩:=by
  intro Q E A hq
  simp only [checkBuiltinCall,Fn.initKind,Fn.initSplit,Fn.initRow]
  repeat (first | with_reducible refine wpAny_loadPart_at he ?_ | with_reducible refine wpAny_loadPart_at hC ?_ | (with_reducible refine wpAny_isSubtype_exc hC ?_;rw [cB]) | wp_step)
  exact hq
 refine chk ?_
 wp_walk
 have hp:=Heap.get?_push_of_some (h:=h) { cls:=.type "tuple",data:=.seq ([]:List Value).toArray } he
 refine hq _ ?_ fun b o hb z=>?_
 ·exact Heap.get?_update_self _ hp rfl
 ·rw [Heap.get?_update_other _ _ (Ne.symm hb)]
  exact Heap.get?_push_of_some _ z
end
end L2
namespace L2
open PySem PySem.Spec PyProof.Rows PySem.W
def CB (K:PySem.W.Frag) (ta tv:TE) (f:Str):TS:=fun D σ H=>tv σ H fun y H1=>ta σ H1 fun xv H2=>∃ x C,xv=.ref x∧H2 x=some (XN x C none)∧fE K C∧findIn K (.ref C) f=some none ∧
 ∀ dx,H2 dx=none→dx≠x→D.nx σ (upd (upd H2 dx (.xd [(f,y)])) x (XN x C (some dx)))
section
variable {X:Cx} {o value:Expr} {f:Str} {pos pos':Pos} {ta tv:TE}
theorem zA (ha:PE X o ta) (hv:PE X value tv) (hs:swapsWith value (some (.Attribute o f pos')) pos.line X.env=pure false:=by rfl):PS X (.Assign [.Attribute o f pos'] value pos) (CB X.K ta tv f):=by
 intro pins s σ H D I h
 refine plainObj_wpAny_Assign_Attribute (bo (hv pins s σ H _ I h) fun u s1 ⟨y,H1,I1,ry,q⟩=>bo (ha pins s1 σ H1 _ I1 q) fun ov s2 ⟨xv,H2,I2,rx,x,C,ex,hx,c,hf,q2⟩=>?_) hs
 subst ex
 obtain rfl:ov=Value.ref x:=rx
 obtain⟨t,sl,hg⟩:=XN.get I2.hok hx
 obtain⟨cd,hc,hm,hh⟩:=c.cls
 refine yI I2.fF hg hc hm hh c.sa hf fun h' g1 g2 g3=>?_
 have hd0:H2 s2.heap.objs.size=none:=I2.hok.fresh (Nat.le_refl _)
 have hne:s2.heap.objs.size≠x:=fun z=>by rw [z,hx] at hd0;cases hd0
 have bx:∀ b,H2 b=none→b≠x:=fun b z y=>by rw [y,hx] at z;cases z
 have bd:∀ b o,s2.heap.get? b=some o→b≠s2.heap.objs.size:=fun b o q=>Nat.ne_of_lt (Heap.lt_size q)
 have tb:∀ b u,H2 b=some u→b≠s2.heap.objs.size:=fun b u q z=>by rw [z,hd0] at q;cases q
 refine⟨σ,upd (upd H2 s2.heap.objs.size (.xd [(f,y)])) x (XN x C (some s2.heap.objs.size)),I2.un ⟨fun b o q n _ _=>g3 b o (bx b n) q,fun b o q n _ _=>⟨o.slots,g3 b o (bx b n) q⟩,fun b o q n _=>?_,fun b o q _=>?_,fun b xs q=>?_,fun b o xs q=>?_,fun b ps q=>?_⟩ ?_,q2 _ hd0 hne⟩
 ·rw [au (bx b n),au (bd b o q)];exact n
 ·by_cases z:b=x
  ·exact⟨_,by rw [z];exact g1⟩
  ·exact⟨o,g3 b o z q⟩
 ·rw [au (fun z=>by rw [z,hx] at q;cases q),au (tb b _ q)];exact q
 ·rw [au (fun z=>by rw [z,hx] at q;cases q),au (tb b _ q)];exact q
 ·exact⟨#[],by rw [au (fun z=>by rw [z,hx] at q;cases q),au (tb b _ q),q];simp⟩
 ·intro b o q
  by_cases z:b=x
  ·subst z
   rw [ag] at q
   cases q
   exact XN.ok g1
  ·rw [au z] at q
   by_cases z2:b=s2.heap.objs.size
   ·subst z2
    rw [ag] at q
    cases q
    refine⟨_,g2,fun k=>?_⟩
    show fC (List.lookup k [(f,y)]) (if k=f then some u else none)
    by_cases e:k=f
    ·subst e
     rw [if_pos rfl,List.lookup_cons,beq_self_eq_true]
     exact ry
    ·have e':(k==f)=false:=by simpa using e
     rw [if_neg e,List.lookup_cons,e']
     exact True.intro
   ·rw [au z2] at q
    refine (I2.hok b o q).gE (fun c' u' hc' r=>g3 c' u' (fun z3=>?_) r) (fun c' r=>?_) fun c' xs r=>?_
    ·rcases hc' with e | e
     ·exact z (e.symm.trans z3)
     ·rw [z3,hx] at e;cases e
    ·rw [au (fun z3=>by rw [z3,hx] at r;cases r),au (tb c' _ r)];exact r
    ·rw [au (fun z3=>by rw [z3,hx] at r;cases r),au (tb c' _ r)];exact r
end
structure zV (K:PySem.W.Frag) (C:Addr):Prop where
 obj:∃ nm q N bs bm hdct sn sub ab col dd k0 k1 k2 k3 k5,K.lookup C=some (excClassObj nm q C N bs bm hdct sn sub ab col dd k0 k1 k2 k3 k5 lE)∧bm.contains (.type "ValueError")=true∧bm.contains (.type "AttributeError")=false∧bm.contains (.type "NameError")=false
 kp:keepIn K (.ref C)=true
def nL (K:PySem.W.Frag) (f:Str):Sp:=fun vs H Q _=>∃ x C v,vs=[.ref x,v]∧H x=some (XN x C none)∧fE K C∧findIn K (.ref C) f=some none ∧
 ∀ dx,H dx=none→dx≠x→Q .non (upd (upd H dx (.xd [(f,v)])) x (XN x C (some dx)))
def zL (C:Addr) (f:Str) (t:TA):TE:=fun σ H Q=>t σ H fun vs H1=>∃ v,vs=[v]∧∀ x dx,H1 x=none→H1 dx=none→dx≠x→Q (.ref x) (upd (upd (upd H1 x (XN x C none)) dx (.xd [(f,v)])) x (XN x C (some dx)))
def zK (C:Addr):TE:=fun _ H Q=>∀ x,H x=none→Q (.ref x) (upd H x (XN x C none))
section
variable {X:Cx} {C fi:Addr} {fd:FuncData} {p f x:Str} {k:Nat} {pos np:Pos} {e:Expr} {t:TA}
theorem Inv.newExc {pins:List (Addr × Obj)} {σ:St} {H:Hp} {s:Shared} (I:Inv X pins σ H s) (us:List Value):Inv X pins σ (upd H (s.heap.objs.size+1) (XN (s.heap.objs.size+1) C none))
  { s with heap:=(s.heap.push { cls:=.type "tuple",data:=.seq us.toArray }).push (L2.newExc C s.heap.objs.size) }:=by
 have I1:Inv X pins σ H { s with heap:=s.heap.push { cls:=.type "tuple",data:=.seq us.toArray } }:=I.kept (t':=s.toks) fun b u q=>Heap.get?_push_of_some _ q
 refine I1.laid (a:=s.heap.objs.size+1) (t':=s.toks) (fun b u q=>Heap.get?_push_of_some _ q) (Nat.le_of_eq (Heap.size_push _ _)) ?_
 refine XN.ok (t:=s.heap.objs.size) (sl:=#[]) ?_
 have:=Heap.get?_push_size (s.heap.push { cls:=.type "tuple",data:=.seq us.toArray }) (o:=L2.newExc C s.heap.objs.size) rfl
 rwa [Heap.size_push] at this
theorem uM (M:zV X.K C) (c:fE X.K C) (hi:findIn X.K (.ref C) "__init__"=some (some (.ref fi))) (fn:isFn X.K (.ref fi)=true) (hf:findIn X.K (.ref C) f=some none) (F:cS X.prog X.w X.K X.mg X.base aO k fi fd ["self",p] (nL X.K f)) (hr:bP (k+1) X.A) (hg:Gl X x)
  (hm:X.mg x=some (.ref C)) (hb:Binds X.K fd ["self",p] []) (ha:PA X [e] t) (hdb:(x==("__debug__":Str))=false:=by decide) (he:starEach [e] X.env=(false,eval e X.env)::starEach [] X.env:=by rfl) (hpl:(backTo pos (starEach [] X.env)).any (·.1)=false:=by rfl) :
  PE X (.Call (.Name x np) [e] [] pos) (zL C f t):=by
 intro pins s σ H Q I h
 refine wpAny_Call_Name_kw (iw I hg hm ?_ hdb)
 refine PySem.W.callWith_K (h₀:=X.base) I.ok.mod.kin M.kp (bo (ha pos pins s σ H _ I h) fun us s1 ⟨vs,H1,I1,r,q⟩=>⟨I1.fF,?_⟩) he hpl
 obtain⟨v,rfl,q⟩:=q
 obtain⟨u,rfl,ru⟩:=vals1 r
 obtain⟨nm,qn,Nn,bs,bm,hdct,sn,sub,ab,col,dd,k0,k1,k2,k3,k5,hk,hB,hA,hN⟩:=M.obj
 have I2:=Inv.newExc (C:=C) I1 [u]
 have n1:H1 (s1.heap.objs.size+1)=none:=I1.hok.fresh (Nat.le_succ _)
 have r2:Vals [V.ref (s1.heap.objs.size+1),v] [Value.ref (s1.heap.objs.size+1),u]:=.cons rfl (.cons ru .nil)
 have hq:nL X.K f [V.ref (s1.heap.objs.size+1),v] (upd H1 (s1.heap.objs.size+1) (XN (s1.heap.objs.size+1) C none)) (fun z H3=>z=.non∧Q (.ref (s1.heap.objs.size+1)) H3) E0 :=
  ⟨_,C,v,rfl,ag,c,hf,fun dx hd hne=>⟨rfl,q _ dx n1 (by rw [au hne] at hd;exact hd) hne⟩⟩
 obtain⟨hh,g,d,tk,os⟩:=s1
 refine oO (K:=X.K) I1.fF hB hA hN (I1.fF _ _ hk) (by show 1≤sizeLine;decide) hi (bind_fn I1.fF _ (beq_iff_eq.mp fn)) ?_
 refine codeAny_mono (F.run _ X.stack _ _ ⟨[Value.ref (hh.objs.size+1),u],[]⟩ [Value.ref (hh.objs.size+1),u] _ _ E0 (hr.make C [u] []) (I2.AN.make C [u] []) (by have:=hb _ [Value.ref (hh.objs.size+1),u] I2.fF rfl;rwa [List.append_nil] at this) r2 hq) fun r s' hq'=>?_
 cases r with
 | error e=>exact False.elim hq'
 | ok fl =>
  cases fl with
  | ret u' =>
   obtain⟨v',H',I3,rv,ev,q3⟩:=I2.after hq'
   subst ev
   exact⟨rv,⟨V.ref (hh.objs.size+1),H',I3,rfl,q3⟩⟩
  | next=>exact False.elim hq'
  | brk=>exact False.elim hq'
  | cont=>exact False.elim hq'
theorem uL (M:zV X.K C) (hi:findIn X.K (.ref C) "__init__"=some (some (.builtin "ValueError.__init__"))) (hg:Gl X x) (hm:X.mg x=some (.ref C)) (hdb:(x==("__debug__":Str))=false:=by decide) :
  PE X (.Call (.Name x np) [] [] pos) (zK C):=by
 intro pins s σ H Q I h
 refine wpAny_Call_Name_kw (iw I hg hm ?_ hdb)
 refine PySem.W.callWith_K0 I.fF M.kp ?_
 obtain⟨nm,qn,Nn,bs,bm,hdct,sn,sub,ab,col,dd,k0,k1,k2,k3,k5,hk,hB,hA,hN⟩:=M.obj
 have I2:=Inv.newExc (C:=C) I []
 have n1:H (s.heap.objs.size+1)=none:=I.hok.fresh (Nat.le_succ _)
 have Fn:=PySem.F.excBase_ValueError
 obtain⟨hh,g,d,tk,os⟩:=s
 have hC:=I.fF _ _ hk
 refine oO (K:=X.K) I.fF hB hA hN hC (by show 0≤sizeLine;decide) hi (j:=.builtin "ValueError.__init__") (Looks.of_pure (Fn.init.bind _)) ?_
 have hC2:((hh.push { cls:=.type "tuple",data:=.seq ([]:List Value).toArray }).push (L2.newExc C hh.objs.size)).get? C=some _:=Heap.get?_push_of_some _ (Heap.get?_push_of_some _ hC)
 have he2:((hh.push { cls:=.type "tuple",data:=.seq ([]:List Value).toArray }).push (L2.newExc C hh.objs.size)).get? (hh.objs.size+1)=some (L2.newExc C hh.objs.size):=by
  have:=Heap.get?_push_size (hh.push { cls:=.type "tuple",data:=.seq ([]:List Value).toArray }) (o:=L2.newExc C hh.objs.size) rfl
  rwa [Heap.size_push] at this
 refine tZ hB hC2 he2 fun h' g1 g3=>⟨rfl,.ref (hh.objs.size+1),_,?_,rfl,h _ n1⟩
 have e:upd (upd H (hh.objs.size+1) (XN (hh.objs.size+1) C none)) (hh.objs.size+1) (XN (hh.objs.size+1) C none)=upd H (hh.objs.size+1) (XN (hh.objs.size+1) C none):=by
  funext b
  by_cases z:b=hh.objs.size+1
  ·rw [z,ag,ag]
  ·rw [au z]
 have W:=I2.write (x:=hh.objs.size+1) (e:=hh.objs.size+1) (o:=XN (hh.objs.size+1) C none) (h':=h') (t':=tk) (by rw [ag];exact True.intro) (.inl rfl) (fun b u hb q=>g3 b u hb q) ⟨_,g1⟩ (XN.ok g1)
 rw [e] at W
 exact W
end
end L2
namespace L2
open PySem PySem.Spec PyProof.Rows PySem.W
def DR (H:Hp) (x C:Addr) (dd:Option Addr):Prop:=H x=some (XO x C dd)∨H x=some (XN x C dd)
def DO (K:PySem.W.Frag) (ta:TE) (f:Str):TE:=fun σ H Q=>ta σ H fun xv H1=>∃ x C dx fs v,xv=.ref x∧DR H1 x C (some dx)∧fE K C∧findIn K (.ref C) f=some none∧H1 dx=some (.xd fs)∧fs.lookup f=some v∧Q v H1
section
variable {X:Cx} {e:Expr} {f:Str} {pos:Pos} {ta:TE}
end
end L2
namespace L2
open PySem PySem.Spec PyProof.Rows PySem.W
section
variable {prog:Program} {w:World} {A:Around} {E:Value→Shared→Prop} {K:PySem.W.Frag} {h:Heap} {g:Array GenState} {d:Drawn} {t:Nat} {os:OsState} {x C B:Addr}
end
end L2
namespace L2
open PySem PySem.Spec PyProof.Rows PySem.W
section
variable {M:Model} {A:Around} {E:Value→Shared→Prop} {s:Shared}
end
end L2
namespace L2
open PySem PySem.Spec PyProof.Rows PySem.W
section
variable {X:Cx} {pins:List (Addr × Obj)} {σ:St} {H:Hp} {s:Shared} {M:Model} {A:Around} {E:Value→Shared→Prop}
end
end L2
namespace L2
open PySem PySem.Spec PyProof.Rows PySem.W
section
variable {X:Cx} {pins:List (Addr × Obj)} {σ:St} {H:Hp} {s:Shared} {x:Addr}
def vP (n:Option Nat) (x:Addr) (σ:St):St:=match n with | some i=>σ.set i (some (.ref x)) | none=>σ
def oV (n:Option Nat) (D:Ends):Ends:=match n with
 | some i=>{ nx:=fun σ H=>D.nx (σ.set i none) H,rt:=D.rt,bk:=fun σ H=>D.bk (σ.set i none) H,ct:=fun σ H=>D.ct (σ.set i none) H }
 | none=>D
end
end L2
namespace L2
open PySem PySem.Spec PyProof.Rows PySem.W
def CH (K:PySem.W.Frag) (B:Addr) (n:Option Nat) (sp:Sp) (ta:TA) (put:V→St→St) (ts:TS):TS:=fun D σ H=>ta σ H fun vs H1=>sp vs H1 (fun v H2=>D.nx (put v σ) H2)
 (fun cv xo H2=>∃ C x dd,cv=.ref C∧xo=some x∧H2 x=some (XO x C dd)∧fE K C∧mroIn K C (.ref B)=some true∧ts (oV n D) (vP n x σ) H2)
section
variable {X:Cx} {B:Addr} {n:Option Nat} {hd:ExceptHandler} {ts:TS}
variable {k:Nat} {f:Str} {ps:List Str} {sp:Sp} {e:Expr} {es:List Expr} {t:TA} {p cpos epos pos:Pos}
end
section
variable {P:Program} {w:World} {K:PySem.W.Frag} {mg:Str→Option Value} {base:Heap} {k:Nat} {x:Str} {ps:List Str} {sp:Sp}
theorem bH {st:Stmt} {N:List Str} (D:ax K mg x st)
  (hb:∀(kV doc pm:Value) (an:Option Addr) (cdv ct:Value) (us:List Value),us.length=ps.length→bindArgs (PySem.W.fnOf x x (bA st) (aS st) (ak st) .none kV doc pm an cdv ct) ⟨us,[]⟩=pure (ps.zip us))
  (S:aA N ps (ak st)) (len:∀ vs H Q E,sp vs H Q E→vs.length=ps.length)
  (hbody:∀(f:Addr) (cdv:Value) (A:Around) (outer:List Env) (s:Shared) (H:Hp) (vs:List V) (Q:VK) (E:XK),bP k (A.deeper (envOfC x (ak st) s.heap.objs.size f cdv))→sp vs H Q E →
   ∃ t,gF (fc (c6 P w) P w K mg base N x (ak st) f cdv A outer s H E) (aS st) t∧t { nx:=fun _ H'=>Q .non H',rt:=Q } (start N vs) H):Callee P w K mg base (c6 P w) (k+1) x ps sp:=by
 obtain⟨f,fd,F,hm⟩:=D
 obtain⟨oc,od,kV,doc,pm,an,cdv,ct,osl,rfl,lk,hcd⟩:=F.ex
 exact⟨f,_,vK lk hcd S len fun A outer s H vs Q E hr h=>hbody f cdv A outer s H vs Q E hr h,hm,F.kp,F.binds hb⟩
end
end L2
namespace L2
open PySem PySem.Spec PyProof.Rows PySem.W
theorem yM {P:Program} {w:World} {K:PySem.W.Frag} {mg:Str→Option Value} {base:Heap} {qual f p:Str} {st:Stmt} {fi:Addr} {fd:FuncData} {p1 p2 p3 p4:Pos} (F:vg K "__init__" qual st fi fd) (S:aA ["self",p] ["self",p] (ak st))
  (hb:aS st=[.Assign [.Attribute (.Name "self" p1) f p2] (.Name p p3) p4]) (h1:(ak st).names.lookup ("self":Str)=some .local) (h2:(ak st).names.lookup p=some .local) (hd:(p==("__debug__":Str))=false) (hcd:(p==("__classdict__":Str))=false)
  (ab:∀ env:Env,attributeBase (.Name "self" p1) f env (eval (.Name "self" p1) env)=eval (.Name "self" p1) env) (sw:∀ env:Env,swapsWith (.Name p p3) (some (.Attribute (.Name "self" p1) f p2)) p4.line env=pure false):cS P w K mg base aO 1 fi fd ["self",p] (nL K f):=by
 refine F.ok S (fun vs H Q E h=>?_) (fun cdv A outer s H vs Q E hr h=>?_)
 ·obtain⟨x,C,v,rfl,_⟩:=h
  rfl
 ·obtain⟨x,C,v,rfl,hx,c,hf,q⟩:=h
  rw [hb]
  refine⟨_,ai (zA (rm (i:=0) rfl (.inl h1) (by decide) (by decide)) (rm (i:=1) rfl (.inl h2) hd hcd) (sw _)),?_⟩
  exact⟨v,rfl,.ref x,rfl,x,C,rfl,hx,c,hf,fun dx n ne=>q dx n ne⟩
structure mN (P:Program) (w:World) (K:PySem.W.Frag) (mg:Str→Option Value) (base:Heap) (x:Str) (C:Addr) (f:Str):Prop where
 mkd:zV K C
 cls:fE K C
 at_:mg x=some (.ref C)
 nof:findIn K (.ref C) f=some none
 ex:∃ fi fd p,findIn K (.ref C) "__init__"=some (some (.ref fi))∧isFn K (.ref fi)=true∧cS P w K mg base aO 1 fi fd ["self",p] (nL K f)∧Binds K fd ["self",p] []
structure qD (K:PySem.W.Frag) (mg:Str→Option Value) (x:Str) (C:Addr):Prop where
 mkd:zV K C
 cls:fE K C
 at_:mg x=some (.ref C)
 ini:findIn K (.ref C) "__init__"=some (some (.builtin "ValueError.__init__"))
section
variable {X:Cx} {C:Addr} {f x:Str} {pos np:Pos} {e:Expr} {t:TA}
theorem i7 (c:mN X.prog X.w X.K X.mg X.base x C f) (hr:bP 2 X.A) (hg:Gl X x) (ha:PA X [e] t) (hdb:(x==("__debug__":Str))=false:=by decide)
  (he:starEach [e] X.env=(false,eval e X.env)::starEach [] X.env:=by rfl) (hpl:(backTo pos (starEach [] X.env)).any (·.1)=false:=by rfl):PE X (.Call (.Name x np) [e] [] pos) (zL C f t):=by
 obtain⟨fi,fd,p,hi,fn,F,hb⟩:=c.ex
 exact uM c.mkd c.cls hi fn c.nof F hr hg c.at_ hb ha hdb he hpl
theorem kK (c:qD X.K X.mg x C) (hg:Gl X x) (hdb:(x==("__debug__":Str))=false:=by decide):PE X (.Call (.Name x np) [] [] pos) (zK C):=uL c.mkd c.ini hg c.at_ hdb
end
end L2
namespace L2
open PySem PySem.Spec PyProof.Rows PySem.W
inductive Ax (K:PySem.W.Frag) (H:Hp):Nat→V→V→Bool→Prop
 | flat {d:Nat} {y x:V}:z7 y=true→z7 x=true→Ax K H d y x (DU y x)
 | same {d:Nat} {p:Addr}:Ax K H d (.ref p) (.ref p) true
 | lists {d:Nat} {p q:Addr} {xs ys:List V} {e:Nat→Bool}:p≠q→aZ K H p xs→aZ K H q ys→xs.length=ys.length→(∀ j y x,xs[j]?=some y→ys[j]?=some x→Ax K H d y x (e j))→Ax K H (d+1) (.ref p) (.ref q) ((List.range xs.length).all e)
 | unlike {d:Nat} {p q:Addr} {xs ys:List V}:p≠q→aZ K H p xs→aZ K H q ys→xs.length≠ys.length→Ax K H (d+1) (.ref p) (.ref q) false
 | tups {d:Nat} {p q:Addr} {xs ys:List V} {e:Nat→Bool}:p≠q→bD K H p xs→bD K H q ys→(∀ j y x,xs[j]?=some y→ys[j]?=some x→Ax K H d y x (e j))→Ax K H (d+1) (.ref p) (.ref q) ((List.range (min xs.length ys.length)).all e && xs.length==ys.length)
section
variable {X:Cx} {pins:List (Addr × Obj)} {σ:St} {H:Hp} {s:Shared}
end
end L2
namespace L2
open PySem PySem.Spec PyProof.Rows PySem.W
theorem bT {A B:Prop} (a:A) (f:A→B):B:=f a
section
variable {K:PySem.W.Frag} {mg:Str→Option Value} {h:Heap} {x f p qual:Str} {C D fi N:Addr}
section
variable {nm q:Str} {bs bm:List Value} {hdct ab:Bool} {sn:Option Str} {od:Option Addr} {cd:ClassData} {sl:Array (Option Value)}
theorem BP {o:Obj} (l:K.lookup C=some o) (ob:∃ nm q N bs bm hdct sn sub ab col dd k0 k1 k2 k3 k5,o=excClassObj nm q C N bs bm hdct sn sub ab col dd k0 k1 k2 k3 k5 lE∧bm.contains (.type "ValueError")=true∧bm.contains (.type "AttributeError")=false∧bm.contains (.type "NameError")=false) (kp:keepIn K (.ref C)=true):zV K C:=by
 obtain⟨nm,q,N,bs,bm,hdct,sn,sub,ab,col,dd,k0,k1,k2,k3,k5,e,r⟩:=ob
 subst e
 exact⟨⟨nm,q,N,bs,bm,hdct,sn,sub,ab,col,dd,k0,k1,k2,k3,k5,l,r⟩,kp⟩
theorem zQ (l:K.lookup C=some ⟨.type "type",od,.cls cd,sl⟩) (h2:bX cd.mro=true) (h3:cd.hasDict=true)
  (sa:findIn K (.ref C) "__setattr__"=some (some (.builtin "object.__setattr__"))) (ga:findIn K (.ref C) "__getattribute__"=some (some (.builtin "BaseException.__getattribute__"))) (gx:findIn K (.ref C) "__getattr__"=some none)
  (ca:findIn K (.ref C) "__class__"=some (some (.builtin "object.__class__"))) (gs:specialIn K (.builtin "object.__class__") "__get__"=some (some (.builtin "getset_descriptor.__get__"))) (tk:takesIn K (.builtin "object.__class__")=some true):L2.fE K C :=
 ⟨⟨cd,by unfold clsIn;rw [l],h2,h3⟩,⟨_,_,_,l⟩,sa,ga,gx,ca,gs,tk⟩
theorem jX (a:mg x=some (.ref C)) (M:zV K C) (c:fE K C) (ini:findIn K (.ref C) "__init__"=some (some (.builtin "ValueError.__init__"))):qD K mg x C:=⟨M,c,a,ini⟩
structure j4 (qual f p:Str) (st:Stmt):Prop where
 S:aA ["self",p] ["self",p] (ak st)
 hb:∃ p1 p2 p3 p4,aS st=[.Assign [.Attribute (.Name "self" p1) f p2] (.Name p p3) p4]∧(∀ env:Env,attributeBase (.Name "self" p1) f env (eval (.Name "self" p1) env)=eval (.Name "self" p1) env)∧(∀ env:Env,swapsWith (.Name p p3) (some (.Attribute (.Name "self" p1) f p2)) p4.line env=pure false)
 h1:(ak st).names.lookup ("self":Str)=some .local
 h2:(ak st).names.lookup p=some .local
 hd:(p==("__debug__":Str))=false
 hcd:(p==("__classdict__":Str))=false
 bd:∀(kV doc pm:Value) (an:Option Addr) (cdv ct:Value) (us:List Value),us.length=2→bindArgs (PySem.W.fnOf "__init__" qual (bA st) (aS st) (ak st) .none kV doc pm an cdv ct) ⟨us,[]⟩=pure ((["self",p]:List Str).zip us)
theorem jY {st:Stmt} {oc:Value} {od an:Option Addr} {osl:Array (Option Value)} {kV doc pm cdv ct:Value} (I:j4 qual f p st) (a:mg x=some (.ref C)) (M:zV K C) (c:fE K C) (nof:findIn K (.ref C) f=some none)
  (ini:findIn K (.ref C) "__init__"=some (some (.ref fi))) (fn:isFn K (.ref fi)=true) (l:K.lookup fi=some ⟨oc,od,.func (PySem.W.fnOf "__init__" qual (bA st) (aS st) (ak st) .none kV doc pm an cdv ct),osl⟩) (cc:codeIn K cdv qual=true) (kk:keepIn K (.ref fi)=true) :
  ∀(P:Program) (w:World) (base:Heap),mN P w K mg base x C f:=fun P w base=>by
 obtain⟨p1,p2,p3,p4,hb,ab,sw⟩:=I.hb
 have F:=qP l cc kk
 exact⟨M,c,a,nof,fi,_,p,ini,fn,yM F I.S hb I.h1 I.h2 I.hd I.hcd ab sw,F.binds I.bd⟩
end
theorem eB {od:Option Addr} {cd:ClassData} {sl:Array (Option Value)} (_:K.In h) (_:mg x=some (.ref C)) (l:K.lookup C=some ⟨.type "type",od,.cls cd,sl⟩) (h2:bX cd.mro=true) (h3:cd.hasDict=true)
  (sa:findIn K (.ref C) "__setattr__"=some (some (.builtin "object.__setattr__"))) (ga:findIn K (.ref C) "__getattribute__"=some (some (.builtin "BaseException.__getattribute__"))) (gx:findIn K (.ref C) "__getattr__"=some none)
  (ca:findIn K (.ref C) "__class__"=some (some (.builtin "object.__class__"))) (gs:specialIn K (.builtin "object.__class__") "__get__"=some (some (.builtin "getset_descriptor.__get__"))) (tk:takesIn K (.builtin "object.__class__")=some true)
  (ob:∃ nm q N bs bm hdct sn sub ab col dd k0 k1 k2 k3 k5,(⟨.type "type",od,.cls cd,sl⟩:Obj)=excClassObj nm q C N bs bm hdct sn sub ab col dd k0 k1 k2 k3 k5 lE∧bm.contains (.type "ValueError")=true∧bm.contains (.type "AttributeError")=false∧bm.contains (.type "NameError")=false) (kp:keepIn K (.ref C)=true):fE K C∧zV K C :=
 ⟨zQ l h2 h3 sa ga gx ca gs tk,BP l ob kp⟩
end
end L2
namespace Pw
theorem kN (x n:Int):∀ k:Nat,(x%n)^k%n=x^k%n
 | 0=>by rw [Int.pow_zero,Int.pow_zero]
 | k+1=>by rw [Int.pow_succ,Int.pow_succ,Int.mul_emod,kN x n k,Int.emod_emod,← Int.mul_emod]
theorem xR (b:Int):∀ k:Nat,(b*b)^k=b^(2*k)
 | 0=>by rw [Nat.mul_zero,Int.pow_zero,Int.pow_zero]
 | k+1=>by
  rw [Int.pow_succ,xR b k,Nat.mul_add,Nat.mul_one,Int.pow_succ,Int.pow_succ,Int.mul_assoc]
theorem Ae (x y n:Int):x%n*y%n=x*y%n:=by rw [Int.mul_emod,Int.emod_emod,← Int.mul_emod]
theorem Ad {x x' y y' n:Int} (h:x%n=x'%n) (h':y%n=y'%n):x*y%n=x'*y'%n:=by rw [Int.mul_emod,h,h',← Int.mul_emod]
theorem step (r b n:Int) (l:Nat):(if l%2=1 then r*b%n else r)*(b*b%n)^(l/2)%n=r*b^l%n:=by
 have e:(b*b%n)^(l/2)%n=b^(2*(l/2))%n:=by rw [kN,xR]
 by_cases c:l%2=1
 ·rw [if_pos c]
  have h:l=2*(l/2)+1:=by omega
  have e2:b^l=b^(2*(l/2))*b:=by rw [← Int.pow_succ];exact congrArg _ h
  rw [Ad (Int.emod_emod_of_dvd (r*b) (Int.dvd_refl n)) e,e2]
  congr 1
  rw [Int.mul_assoc,Int.mul_comm b]
 ·rw [if_neg c]
  have h:l=2*(l/2):=by omega
  rw [Ad (rfl:r%n=r%n) e,← h]
theorem pow_add (a:Int) (m:Nat):∀ k:Nat,a^(m+k)=a^m*a^k
 | 0=>by rw [Nat.add_zero,Int.pow_zero,Int.mul_one]
 | k+1=>by rw [← Nat.add_assoc,Int.pow_succ,pow_add a m k,Int.pow_succ,Int.mul_assoc]
theorem mul_pow (a b:Int):∀ k:Nat,(a*b)^k=a^k*b^k
 | 0=>by rw [Int.pow_zero,Int.pow_zero,Int.pow_zero,Int.mul_one]
 | k+1=>by
  rw [Int.pow_succ,Int.pow_succ,Int.pow_succ,mul_pow a b k]
  grind
theorem pow_mul (a:Int) (m:Nat):∀ k:Nat,a^(m*k)=(a^m)^k
 | 0=>by rw [Nat.mul_zero,Int.pow_zero,Int.pow_zero]
 | k+1=>by rw [Nat.mul_add,Nat.mul_one,pow_add,pow_mul a m k,Int.pow_succ]
theorem one_pow:∀ k:Nat,(1:Int)^k=1
 | 0=>Int.pow_zero 1
 | k+1=>by rw [Int.pow_succ,one_pow k,Int.mul_one]
theorem AG {n x y:Int}:x%n=y%n↔n∣x-y:=by
 rw [Int.emod_eq_emod_iff_emod_sub_eq_zero,Int.dvd_iff_emod_eq_zero]
end Pw
namespace L2
open PySem PySem.Spec PyProof.Rows
end L2
namespace L2
open PySem PySem.Spec PyProof.Rows PySem.W
theorem Vals.rev:∀{xs:List V} {us:List Value},Vals xs us→Vals xs.reverse us.reverse
 | [],[],_=>.nil
 | x::xs,u::us,.cons r t=>by
  rw [List.reverse_cons,List.reverse_cons]
  exact (Vals.rev t).append (.cons r .nil)
def BI (K:PySem.W.Frag) (te:TE) (tk:TO):TE:=fun σ H Q=>te σ H fun x H1=>tk σ H1 fun o H2=>o=some (-1)∧∃ a xs,x=.ref a∧aZ K H2 a xs∧∀ p,H2 p=none→Q (.ref p) (upd H2 p (.lst xs.reverse))
section
variable {X:Cx} {e k:Expr} {te:TE} {tk:TO} {p2 pos:Pos}
theorem Bm (he:PE X e te) (hk:PO X (some k) tk)
  (hs:∀ a b:Addr,∃ ops,subscripted (.Slice none none (some k) p2) false (.ref a) (.ref b)=operate ops (getItem (.ref a) (.ref b)):=by intro a b;exact⟨_,by with_unfolding_all rfl⟩):PE X (.Subscript e (.Slice none none (some k) p2) pos) (BI X.K te tk):=by
 intro pins s σ H Q I h
 refine Subscript_ (bo (he pins s σ H _ I h) fun v s1 ⟨x,H1,I1,r1,q1⟩=>?_)
 refine wpAny_Slice ?_
 rw [evalPart_none]
 refine wpAny_pure (wpAny_pure ?_)
 refine bo (hk pins s1 σ H1 _ I1 q1) fun vk s3 ⟨o,H3,I3,pk,eo,a,xs,ex,hx,q3⟩=>?_
 subst eo
 subst ex
 cases r1
 have I4:Inv X pins σ H3 { s3 with heap:=s3.heap.push { cls:=.type "slice",data:=.fields #[.none,.none,vk] } }:=I3.kept (t':=s3.toks) fun b ob q=>Heap.get?_push_of_some _ q
 obtain⟨its,r,ht,hz⟩:=I4.list hx
 have hlen:=r.length
 show wpAny (model X.prog X.w) X.A (subscriptTail e (.Slice none none (some k) p2) (.ref a) (.ref s3.heap.objs.size)) (EP X pins σ Q) X.xe { s3 with heap:=s3.heap.push { cls:=.type "slice",data:=.fields #[.none,.none,vk] } }
 obtain⟨ops,hops⟩:=hs a s3.heap.objs.size
 refine tail_any (ops:=ops) ht.isList.typeIs slot_list_getitem.lookup ?_ hops
 refine wpAny_getItem_list_slice ht.isList (Heap.IsSliceOf.new ..) .none .none pk (by simp) ?_ (by rw [List.size_toArray]<;>omega)
 rw [krv_pick]
 refine⟨.ref _,_,I4.laid (t':=s3.toks) (o:=.lst xs.reverse) (fun b ob q=>Heap.get?_push_of_some _ q) (Nat.le_refl _) ?_,rfl,q3 _ (I4.hok.fresh (Nat.le_refl _))⟩
 exact⟨by rw [List.length_reverse];exact hz,_,0,r.rev,Heap.get?_push_size _ rfl⟩
end
end L2
namespace L2
open PySem PySem.Spec PyProof.Rows PySem.W
mutual
def dv (K:PySem.W.Frag) (H:Hp):PyData→V→Prop
 | .none,v=>v=.non
 | .bool b,v=>v=.bl b
 | .int i,v=>v=.int i
 | .str x,v=>v=.str x
 | .list ds,v=>∃ p xs,v=.ref p∧aZ K H p xs∧aQ K H ds xs
 | .tuple ds,v=>∃ p xs,v=.ref p∧bD K H p xs∧aQ K H ds xs
 | .dict _,_=>False
def aQ (K:PySem.W.Frag) (H:Hp):List PyData→List V→Prop
 | [],xs=>xs=[]
 | d::ds,xs=>∃ x r,xs=x::r∧dv K H d x∧aQ K H ds r
end
section
variable {K:PySem.W.Frag} {H H':Hp}
theorem Rd.same {a:Addr} {o:HO} (h:Rd H a o) (s:aF H H'):Rd H' a o:=by
 rcases h with h | ⟨b,h⟩
 ·exact .inl (s _ _ h)
 ·exact .inr ⟨b,s _ _ h⟩
theorem aZ.same {a:Addr} {xs:List V} (h:aZ K H a xs) (s:aF H H'):aZ K H' a xs:=h.imp (fun z=>z.same s) id
theorem bD.same {a:Addr} {xs:List V} (h:bD K H a xs) (s:aF H H'):bD K H' a xs:=h.imp (fun z=>z.same s) id
mutual
theorem dv.same (s:aF H H'):∀(d:PyData) {v:V},dv K H d v→dv K H' d v
 | .none,_,h=>h
 | .bool _,_,h=>h
 | .int _,_,h=>h
 | .str _,_,h=>h
 | .list ds,_,⟨p,xs,e,h,t⟩=>⟨p,xs,e,h.same s,aQ.same s ds t⟩
 | .tuple ds,_,⟨p,xs,e,h,t⟩=>⟨p,xs,e,h.same s,aQ.same s ds t⟩
 | .dict _,_,h=>h.elim
theorem aQ.same (s:aF H H'):∀(ds:List PyData) {xs:List V},aQ K H ds xs→aQ K H' ds xs
 | [],_,h=>h
 | d::ds,_,⟨x,r,e,h,t⟩=>⟨x,r,e,dv.same s d h,aQ.same s ds t⟩
end
theorem aQ.length:∀{ds:List PyData} {xs:List V},aQ K H ds xs→xs.length=ds.length
 | [],_,h=>by cases h;rfl
 | d::ds,_,⟨x,r,e,h,t⟩=>by subst e;rw [List.length_cons,List.length_cons,aQ.length t]
theorem aQ.get:∀{ds:List PyData} {xs:List V},aQ K H ds xs→∀{i:Nat} {x:V},xs[i]?=some x→∃ d,ds[i]?=some d∧dv K H d x
 | [],_,h,i,x,e=>by cases h;simp at e
 | d::ds,_,⟨y,r,ey,h,t⟩,0,x,e=>by subst ey;simp at e;subst e;exact⟨d,rfl,h⟩
 | d::ds,_,⟨y,r,ey,h,t⟩,i+1,x,e=>by subst ey;simp at e;simpa using aQ.get t e
theorem aQ.append:∀{ds es:List PyData} {xs ys:List V},aQ K H ds xs→aQ K H es ys→aQ K H (ds++es) (xs++ys)
 | [],_,_,_,h,h'=>by cases h;exact h'
 | d::ds,_,_,_,⟨x,r,e,h,t⟩,h'=>by subst e;exact⟨x,_,rfl,h,t.append h'⟩
theorem aQ.one {d:PyData} {x:V} (h:dv K H d x):aQ K H [d] [x]:=⟨x,[],rfl,h,rfl⟩
theorem aQ.ints:∀ ns:List Int,aQ K H (ns.map PyData.int) (ns.map V.int)
 | []=>rfl
 | n::ns=>⟨_,_,rfl,rfl,aQ.ints ns⟩
theorem dv.lst {p:Addr} {xs:List V} {ds:List PyData} (h:H p=some (.lst xs)) (t:aQ K H ds xs):dv K H (.list ds) (.ref p):=⟨p,xs,rfl,aZ.of h,t⟩
theorem dv.tup {p:Addr} {xs:List V} {ds:List PyData} (h:H p=some (.tup xs)) (t:aQ K H ds xs):dv K H (.tuple ds) (.ref p):=⟨p,xs,rfl,bD.of h,t⟩
mutual
def vd:PyData→Bool
 | .list _=>false
 | .tuple ds=>fN ds
 | _=>true
def fN:List PyData→Bool
 | []=>true
 | d::ds=>vd d && fN ds
end
def SameBut (p:Addr) (H H':Hp):Prop:=∀ b o,b≠p→H b=some o→H' b=some o
theorem bD.but {p a:Addr} {us xs:List V} (hp:H p=some (.lst us)) (s:SameBut p H H') (h:bD K H a xs):bD K H' a xs:=by
 rcases h with (h | ⟨o,h⟩) | h
 ·exact .inl (.inl (s _ _ (fun e=>by rw [e,hp] at h;cases h) h))
 ·exact .inl (.inr ⟨o,s _ _ (fun e=>by rw [e,hp] at h;cases h) h⟩)
 ·exact .inr h
mutual
theorem dv.but {p:Addr} {us:List V} (hp:H p=some (.lst us)) (s:SameBut p H H'):∀(d:PyData) {v:V},vd d=true→dv K H d v→dv K H' d v
 | .none,_,_,h=>h
 | .bool _,_,_,h=>h
 | .int _,_,_,h=>h
 | .str _,_,_,h=>h
 | .list ds,_,z,_=>by cases z
 | .tuple ds,_,z,⟨q,xs,e,h,t⟩=>⟨q,xs,e,h.but hp s,aQ.but hp s ds z t⟩
 | .dict _,_,_,h=>h.elim
theorem aQ.but {p:Addr} {us:List V} (hp:H p=some (.lst us)) (s:SameBut p H H'):∀(ds:List PyData) {xs:List V},fN ds=true→aQ K H ds xs→aQ K H' ds xs
 | [],_,_,h=>h
 | d::ds,_,z,⟨x,r,e,h,t⟩=>by
  have z':vd d=true∧fN ds=true:=by simpa [fN] using z
  exact⟨x,r,e,dv.but hp s d z'.1 h,aQ.but hp s ds z'.2 t⟩
end
theorem iy {α:Type} {f:α→PyData} (h:∀ x,vd (f x)=true):∀ xs:List α,fN (xs.map f)=true
 | []=>rfl
 | x::xs=>by rw [List.map_cons,fN,h,iy h xs];rfl
end
section
variable {X:Cx} {pins:List (Addr × Obj)} {σ:St} {H:Hp} {s:Shared}
mutual
theorem xu (I:Inv X pins σ H s):∀(d:PyData) {v:V} {u:Value},dv X.K H d v→RelV v u→∃ as,Reads s.heap u d as
 | .none,_,u,h,r=>by cases h;cases r;exact⟨_,.none⟩
 | .bool _,_,u,h,r=>by cases h;cases r;exact⟨_,.bool _⟩
 | .int _,_,u,h,r=>by cases h;obtain⟨t,rfl⟩:=r;exact⟨_,.int _ _⟩
 | .str _,_,u,h,r=>by cases h;obtain⟨t,rfl⟩:=r;exact⟨_,.str _ _⟩
 | .list ds,_,u,⟨p,xs,e,h,t⟩,r=>by
  subst e
  cases r
  obtain⟨its,rr,pl,_⟩:=I.list h
  obtain⟨o,h1,h2,n,h3⟩:=pl.isList
  obtain⟨as,ra⟩:=fR I ds t rr
  exact⟨_,.list h1 h2 h3 (by simpa using ra)⟩
 | .tuple ds,_,u,⟨p,xs,e,h,t⟩,r=>by
  subst e
  cases r
  obtain⟨its,rr,pl,_⟩:=I.tuple h
  obtain⟨o,h1,h2,n,h3⟩:=pl
  obtain⟨as,ra⟩:=fR I ds t rr
  exact⟨_,.tuple h1 h2 h3 (by simpa using ra)⟩
 | .dict _,_,_,h,_=>h.elim
theorem fR (I:Inv X pins σ H s):∀(ds:List PyData) {xs:List V} {us:List Value},aQ X.K H ds xs→Vals xs us→∃ as,ReadsAll s.heap us ds as
 | [],_,us,h,r=>by cases h;cases r;exact⟨_,.nil⟩
 | d::ds,_,us,⟨x,r,e,h,t⟩,rr=>by
  subst e
  cases rr with
  | cons r1 r2 =>
   obtain⟨a1,q1⟩:=xu I d h r1
   obtain⟨a2,q2⟩:=fR I ds t r2
   exact⟨_,.cons q1 q2⟩
end
end
end L2
namespace Pw
def lst (xs:List Nat):Nat:=xs.getLast?.getD 0
end Pw
namespace L2
open PySem PySem.Spec PyProof.Rows PySem.W
def BQ (C:Addr) (H:Hp) (E:XK):Prop:=∀ x H',aF H H'→H x=none→H' x=some (XO x C none)→E (.ref C) (some x) H'
def ym (C:Addr) (f:Str) (v:V) (H:Hp) (E:XK):Prop:=∀ x dx H',aF H H'→H x=none→H' x=some (XO x C (some dx))→H' dx=some (.xd [(f,v)])→E (.ref C) (some x) H'
theorem dy {K:PySem.W.Frag} {C x:Addr} {H H1:Hp} {E:XK} (c:fE K C) (hs:aF H H1) (hx:H1 x=none) (e:BQ C H E) :
  ∃(C':Addr) (dd:Option Addr),upd H1 x (XN x C none) x=some (XN x C' dd)∧fE K C'∧H x=none∧E (.ref C') (some x) (upd (upd H1 x (XN x C none)) x (XO x C' dd)):=by
 refine⟨C,none,ag,c,hs.free hx,e x _ ?_ (hs.free hx) ag⟩
 intro b o q
 have q1:=hs _ _ q
 have bx:b≠x:=fun y=>by rw [y,hx] at q1;cases q1
 rw [au bx,au bx]
 exact q1
theorem gf {K:PySem.W.Frag} {C x dx:Addr} {f:Str} {v:V} {H H1:Hp} {E:XK} (c:fE K C) (hs:aF H H1) (hx:H1 x=none) (hdx:H1 dx=none) (ne:dx≠x) (e:ym C f v H E) :
  ∃(C':Addr) (dd:Option Addr),upd (upd (upd H1 x (XN x C none)) dx (.xd [(f,v)])) x (XN x C (some dx)) x=some (XN x C' dd)∧fE K C'∧H x=none∧E (.ref C') (some x) (upd (upd (upd (upd H1 x (XN x C none)) dx (.xd [(f,v)])) x (XN x C (some dx))) x (XO x C' dd)):=by
 refine⟨C,some dx,ag,c,hs.free hx,e x dx _ ?_ (hs.free hx) ag ?_⟩
 ·intro b o q
  have q1:=hs _ _ q
  have bx:b≠x:=fun y=>by rw [y,hx] at q1;cases q1
  have bd:b≠dx:=fun y=>by rw [y,hdx] at q1;cases q1
  rw [au bx,au bx,au bd,au bx]
  exact q1
 ·rw [au ne,au ne,ag]
end L2
namespace Ld
structure h8 (n r:Int):Prop where
 two:2≤r
 dv:r∣n
 no:∀ d:Int,2≤d→d<r→¬d∣n
theorem h8.le {n r:Int} (h:h8 n r) (hn:0<n):r≤n:=Int.le_of_dvd hn h.dv
structure Inv (n k:Int):Prop where
 two:2≤k
 odd:k=2∨k%2=1
 no:∀ d:Int,2≤d→d<k→¬d∣n
theorem Inv.step {n k:Int} (h:Inv n k) (hk:¬k∣n):Inv n (k+if k=2 then 1 else 2):=by
 have h2:=h.two
 by_cases c:k=2
 ·rw [if_pos c]
  refine⟨by omega,.inr (by omega),fun d d0 d1=>?_⟩
  have:d=k:=by omega
  rw [this];exact hk
 ·rw [if_neg c]
  have ho:k%2=1:=by rcases h.odd with z | z;exact absurd z c;exact z
  refine⟨by omega,.inr (by omega),fun d d0 d1 hd=>?_⟩
  rcases (by omega:d<k∨d=k∨d=k+1) with z | z | z
  ·exact h.no d d0 z hd
  ·subst z;exact hk hd
  ·have e2:(2:Int)∣d:=Int.dvd_of_emod_eq_zero (by omega)
   exact h.no 2 (by omega) (by omega) (Int.dvd_trans e2 hd)
theorem Inv.found {n k:Int} (h:Inv n k) (hk:k∣n):h8 n k:=⟨h.two,hk,h.no⟩
theorem Inv.done {n k:Int} (h:Inv n k) (hn:2≤n) (hk:n<k*k):h8 n n:=by
 refine⟨hn,Int.dvd_refl n,fun d d0 d1 hd=>?_⟩
 obtain⟨c,hc⟩:=hd
 have h2:=h.two
 by_cases z:d<k
 ·exact h.no d d0 z ⟨c,hc⟩
 ·have c0:0<c:=by
   rcases (by omega:c≤0∨0<c) with y | y
   ·have:=Int.mul_nonpos_of_nonneg_of_nonpos (show 0≤d by omega) y
    omega
   ·exact y
  have c2:2≤c:=by
   rcases (by omega:c=1∨2≤c) with y | y
   ·subst y;omega
   ·exact y
  have ck:c<k:=by
   rcases (by omega:c<k∨k≤c) with y | y
   ·exact y
   ·have:=Int.mul_le_mul (show k≤d by omega) y (by omega) (by omega)
    omega
  exact h.no c c2 ck ⟨d,by rw [Int.mul_comm];exact hc⟩
end Ld
namespace L2
open PySem PySem.Spec PyProof.Rows PySem.W
section
variable {K:PySem.W.Frag} {H:Hp}
mutual
theorem eqv_refl:∀ d:PyData,d.canLay0=true→PyData.eqv d d=true
 | .none,_=>by simp [PyData.eqv]
 | .bool _,_=>by simp [PyData.eqv]
 | .int _,_=>by simp [PyData.eqv]
 | .str _,_=>by simp [PyData.eqv]
 | .list ds,h=>by simpa [PyData.eqv] using iY ds h
 | .tuple ds,h=>by simpa [PyData.eqv] using iY ds h
 | .dict _,h=>by simp [PyData.canLay0] at h
theorem iY:∀ ds:List PyData,PyData.canLayAll0 ds=true→PyData.eqvAll ds ds=true
 | [],_=>by simp [PyData.eqvAll]
 | d::ds,h=>by
  have h':d.canLay0=true∧PyData.canLayAll0 ds=true:=by simpa [PyData.canLayAll0] using h
  simp [PyData.eqvAll,eqv_refl d h'.1,iY ds h'.2]
end
end
end L2
namespace L2
open PySem PySem.Spec PyProof.Rows
def CY (lo k:Int) (n:Nat):It:=⟨fun i _=>i<n,fun i H x H'=>H'=H∧x=.int (lo+i*k),fun i _=>n≤i⟩
def Cm (lo hi k:Int):Nat:=if lo<hi then ((hi-lo-1)/k+1).toNat else 0
def Ab (ta:TA):TI:=fun σ H R=>ta σ H fun vs H1=>∃ i j k:Int,vs=[.int i,.int j,.int k]∧(-(2^60)≤i∧i<2^60 ∧ -(2^60)≤j∧j<2^60∧0<k∧k<2^29)∧R (CY i k (Cm i j k)) H1
section
variable {X:Cx} {tg:Expr}
end
end L2
namespace Sv
def BA (d:Nat) (arr:Nat→Bool):Nat→Bool:=fun j=>arr j || (decide (d*d≤j) && decide (j%d=0))
def sv:Nat→(Nat→Bool) × List Nat
 | 0=>(fun _=>false,[])
 | i+1=>if (sv i).1 (i+2) then sv i else (BA (i+2) (sv i).1,(sv i).2++[i+2])
theorem len:∀ i,(sv i).2.length≤i
 | 0=>Nat.le_refl _
 | i+1=>by
  have:=len i
  rw [sv]
  split
  ·omega
  ·rw [List.length_append,List.length_singleton];omega
end Sv
namespace L2
open PySem PySem.Spec PyProof.Rows
theorem tR {X:Cx}:cZ X (.type "int") (fun xs H Q=>∃ k,xs=[.bl k]∧Q (.int (if k=true then 1 else 0)) H):=fun pins s σ H xs us Q I r h=>tQ pins s σ H xs us Q I r (.inr h)
end L2
namespace L2
open PySem PySem.Spec PyProof.Rows
section
variable {X:Cx} {pins:List (Addr × Obj)} {σ:St} {H:Hp} {s:Shared} {h':Heap}
theorem Inv.jV {t':Nat} {ch:List Addr} (I:Inv X pins σ H s) (k:∀ b o,b∉ch→s.heap.get? b=some o→h'.get? b=some o) (hf:∀ b∈ch,mL X pins H b):Inv X pins σ H { s with heap:=h',toks:=t' }:=by
 have nit:∀ b u,H b=some u→b∉ch:=fun b u e z=>by rw [(hf b z).1] at e;cases e
 refine I.step (g':=s.gens) (d':=s.drawn) (ch:=ch) (fun b hb=>?_) (fun b o _ _ hc e _=>k b o hc e) (fun b o _ _ hc e _=>⟨o.slots,k b o hc e⟩) (fun _ _ _ _ n=>n)
  (fun b o hc e=>⟨o,k b o hc e⟩) (fun _ _ e=>e) (fun _ _ _ e=>e) (fun b ps e=>⟨#[],by rw [e];simp⟩) (fun m hm=>?_) (fun b u e=>?_) I.bare
 ·obtain⟨_,f1,_,f3,f4,f5⟩:=hf b hb
  exact⟨f3,f1,f4,f5⟩
 ·obtain⟨o,es,ep,ho,r⟩:=hm
  exact⟨o,es,ep,k _ o (fun z=>(hf _ z).2.1 rfl) ho,r⟩
 ·refine (I.hok b u e).gE (fun c v hc q=>k c v ?_ q) (fun _ q=>q) fun _ _ q=>q
  rcases hc with z | z
  ·rw [z];exact nit b u e
  ·exact nit c _ z
theorem Inv.adopt {T:Addr} {o:HO} (I:Inv X pins σ H s) (hf:mL X pins H T) (new:br X.prog X.w (upd H T o) s.heap T o):Inv X pins σ (upd H T o) s:=by
 have nT:∀ b u,H b=some u→b≠T:=fun b u e z=>by rw [z,hf.1] at e;cases e
 refine I.step (h':=s.heap) (g':=s.gens) (d':=s.drawn) (t':=s.toks) (ch:=[T]) (fun b hb=>?_) (fun b o _ _ hc e _=>e) (fun b o _ _ hc e _=>⟨o.slots,e⟩) (fun b o hc e n=>by rw [au (fun z=>hc (by simp [z]))];exact n)
  (fun b o hc e=>⟨o,e⟩) (fun b xs e=>by rw [au (nT _ _ e)];exact e) (fun b o u e=>by rw [au (nT _ _ e)];exact e) (fun b ps e=>⟨#[],by rw [au (nT _ _ e),e];simp⟩) (fun m hm=>hm) (fun b u e=>?_) I.bare
 ·have e:b=T:=by simpa using hb
  subst e
  obtain⟨_,f1,_,f3,f4,f5⟩:=hf
  exact⟨f3,f1,f4,f5⟩
 ·by_cases z:b=T
  ·subst z
   rw [ag] at e
   cases e
   exact new
  ·rw [au z] at e
   exact (I.hok b u e).gE (fun c v _ q=>q) (fun c q=>by rw [au (nT _ _ q)];exact q) fun c xs q=>by rw [au (nT _ _ q)];exact q
end
def CV (K:PySem.W.Frag) (a:Addr):It :=
 ⟨fun i H=>∃ xs x,aZ K H a xs∧xs[i]?=some x,fun i H x H'=>∃ p v,H p=none∧x=.ref p∧(∀ xs,aZ K H a xs→xs[i]?=some v)∧H'=upd H p (.tup [.int i,v]),fun i H=>∃ xs,aZ K H a xs∧xs.length≤i⟩
theorem u7 {P:Program} {w:World} {K:PySem.W.Frag} {elts:List Expr} {x1} {pos:Pos} (a it e:Addr) (ne:e≠it):Turn P w K (.Tuple elts x1 pos) (CV K a) [e,it] e (fun i h=>(∃ old,IsEnum h e it i old)∧h.IsListIter it a i) where
 mem:=by simp
 obj:=fun i h st b hb=>by
  obtain⟨⟨old,he⟩,hit⟩:=st
  rcases List.mem_cons.mp hb with z | z
  ·subst z
   exact⟨_,he,fun v z=>by cases z⟩
  ·have z:b=it:=by simpa using z
   subst z
   obtain⟨o,e,c,d⟩:=hit
   exact⟨o,e,fun v z=>by rw [d] at z;cases z⟩
 keep:=fun i h h' st k=>by
  obtain⟨⟨old,he⟩,hit⟩:=st
  exact⟨⟨old,k e (by simp) _ he⟩,hit.at fun o x=>k it (by simp) o x⟩
 item:=by
  intro X hP hw hK hc i pins s σ H E I hf st hg
  subst hP hw hK
  obtain⟨xs,x,hq,hx⟩:=hg
  obtain⟨its,rv,p,hz⟩:=I.list hq
  obtain⟨u,hu,ru⟩:=rv.get hx
  obtain⟨⟨old,he⟩,hit⟩:=st
  refine wpAny_pyNext_enum_item he hit p.isList (x:=u) (by simpa using hu) ne fun h' ho hit' hT hsz hk=>?_
  refine⟨_,rfl,?_⟩
  have fT:H s.heap.objs.size=none:=I.hok.fresh (Nat.le_refl _)
  refine wpAny_letOwnedTupleGo_enum ho fun h2 he2 hs2=>?_
  have hke:∀ b o,b∉[e,it]→s.heap.get? b=some o→h2.get? b=some o:=fun b o hb q=>by
   have n1:b≠e:=fun z=>hb (by simp [z])
   have n2:b≠it:=fun z=>hb (by simp [z])
   exact (hs2.2 b n1).trans (hk b o n1 n2 q)
  have I1:Inv X pins σ H { s with heap:=h2,toks:=s.toks+1 }:=I.jV hke hf
  have ne1:s.heap.objs.size≠e:=Nat.ne_of_gt (Heap.lt_size he)
  have hT2:h2.get? s.heap.objs.size=some { cls:=.type "tuple",data:=.seq #[.int i s.toks,u] }:=(hs2.2 _ ne1).trans hT
  refine⟨.ref s.heap.objs.size,upd H s.heap.objs.size (.tup [.int i,x]),?_,rfl,⟨_,x,fT,rfl,fun ys hy=>by rw [I.kA hy hq];exact hx,rfl⟩,⟨⟨u,by simpa using he2⟩,hit'.at fun o q=>(hs2.2 it (Ne.symm ne)).trans q⟩,fun b hb=>?_⟩
  ·have:=I1.adopt (T:=s.heap.objs.size) (o:=.tup [.int i,x]) (I.lB (Nat.le_refl _) fT) ⟨by show 2≤sizeLine;decide,[.int i s.toks,u],.cons ⟨_,rfl⟩ (.cons ru .nil),⟨_,hT2,rfl,_,rfl⟩⟩
   exact this
  ·have ne2:s.heap.objs.size≠it:=by obtain⟨o,q,_⟩:=hit;exact Nat.ne_of_gt (Heap.lt_size q)
   have nb:b≠s.heap.objs.size:=fun z=>by
    subst z
    simp only [List.mem_cons,List.not_mem_nil,or_false] at hb
    rcases hb with y | y
    ·exact ne1 y
    ·exact ne2 y
   rw [au nb]
   exact (hf b hb).1
 done:=by
  intro X hP hw hK hc i pins s σ H E I hf st hg
  subst hP hw hK
  obtain⟨xs,hq,hx⟩:=hg
  obtain⟨its,rv,p,hz⟩:=I.list hq
  have hl:=rv.length
  obtain⟨⟨old,he⟩,hit⟩:=st
  exact wpAny_pyNext_enum_end (I.ok.hd hc) he hit p.isList (by simp;omega) fun h' eb=>⟨rfl,I.jV (t':=s.toks) (ch:=[it]) (fun b o hb q=>eb b o (fun z=>hb (by simp [z])) q) (fun b hb=>hf b (List.mem_cons_of_mem _ hb))⟩
 self:=fun _ _ _ _ _ st h=>by
  obtain⟨⟨old,he⟩,_⟩:=st
  exact wpAny_pyIter_enum he h
def vT (K:PySem.W.Frag) (ta:TA):TI:=fun σ H R=>ta σ H fun vs H1=>∃ a,vs=[.ref a]∧(∃ xs,aZ K H1 a xs)∧R (CV K a) H1
theorem jy:bootBuiltins "enumerate"=some (.type "enumerate"):=by decide +kernel
theorem sI {X:Cx} {elts:List Expr} {x1} {tpos:Pos} {a:Expr} {ta:TA} {p pos:Pos} (hg:Gl X "enumerate") (hm:X.mg "enumerate"=none) (ha:PA X [a] ta) (hs:starEach [a] X.env=[(false,eval a X.env)]:=by rfl) :
  PI X (.Tuple elts x1 tpos) (.Call (.Name "enumerate" p) [a] [] pos) (vT X.K ta):=by
 intro pins s σ H R I h
 refine Call_ (gU I hg hm jy (PyProof.Rows.callWith_type1 (bo (ha pos pins s σ H _ I h) fun us s1 ⟨vs,H1,I1,r1,q1⟩=>?_) hs rfl))
 obtain⟨b,e,⟨xs,hq⟩,q⟩:=q1
 subst e
 cases r1 with
 | cons r rr =>
  cases rr
  cases r
  obtain⟨its,rv,pl,hz⟩:=I1.list hq
  refine call_enumerate_list pl.isList fun h' he hit hsz hk=>?_
  refine wpAny_pyIter_enum he ?_
  have I2:Inv X pins σ H1 { s1 with heap:=h' }:=I1.kept (t':=s1.toks) hk
  refine⟨_,[s1.heap.objs.size+1,s1.heap.objs.size],_,_,H1,rfl,I2,u7 b s1.heap.objs.size (s1.heap.objs.size+1) (Nat.succ_ne_self _),⟨⟨_,he⟩,hit⟩,fun c hc=>?_,q⟩
  simp only [List.mem_cons,List.not_mem_nil,or_false] at hc
  rcases hc with rfl | rfl
  ·exact I1.lB (by omega) (I1.hok.fresh (by omega))
  ·exact I1.lB (by omega) (I1.hok.fresh (by omega))
theorem l5 {K:PySem.W.Frag} {a:Addr} {xs:List V} {g:TG} {tb:TS} {D:Ends} {σ:St} {H:Hp} (Pv:Nat→St→Hp→Prop) (h0:Pv 0 σ H) (hl:∀ i σ H,i≤xs.length→Pv i σ H→aZ K H a xs)
  (hs:∀ i x σ H p,xs[i]?=some x→Pv i σ H→H p=none→g (.ref p) σ (upd H p (.tup [.int i,x])) fun σ2 H2=>tb { D with nx:=Pv (i+1),ct:=Pv (i+1),bk:=D.nx } σ2 H2) (hd:∀ σ H,Pv xs.length σ H→D.nx σ H):Loop (CV K a) g tb D σ H:=by
 refine⟨fun i m σ H=>m=xs.length-i∧i≤xs.length∧Pv i σ H,⟨xs.length,by simp,Nat.zero_le _,h0⟩,?_⟩
 rintro i m σ H ⟨rfl,hi,p⟩
 have q:=hl i σ H hi p
 by_cases hlt:i<xs.length
 ·have hx:xs[i]?=some xs[i]:=List.getElem?_eq_getElem hlt
  refine .inr ⟨⟨xs,_,q,hx⟩,Pv (i+1),fun σ' H' p'=>⟨xs.length-(i+1),by omega,rfl,hlt,p'⟩,fun x H' y=>?_⟩
  obtain⟨pt,v,f,e1,e2,e3⟩:=y
  subst e1 e3
  have:=e2 xs q
  exact hs i v σ H pt this p f
 ·have e:i=xs.length:=by omega
  subst e
  exact .inl ⟨⟨xs,q,Nat.le_refl _⟩,hd σ H p⟩
end L2
namespace Crt
structure G (a b g:Int):Prop where
 pos:0<g
 da:g∣a
 db:g∣b
 lin:∃ u v:Int,u*a+v*b=g
theorem G.gr {a b g d:Int} (h:G a b g) (h1:d∣a) (h2:d∣b):d∣g:=by
 obtain⟨u,v,e⟩:=h.lin
 rw [← e]
 exact Int.dvd_add (Int.dvd_mul_of_dvd_right h1) (Int.dvd_mul_of_dvd_right h2)
theorem G.one {a b g g':Int} (h:G a b g) (h':G a b g'):g=g':=Int.le_antisymm (Int.le_of_dvd h'.pos (h'.gr h.da h.db)) (Int.le_of_dvd h.pos (h.gr h'.da h'.db))
theorem a1 {g u A v L:Int} (e:u*(g*A)+v*(g*L)=g):g*(u*A+v*L)=g*1:=by grind
theorem a2 {g A k L l y:Int} (h1:y=g*A*k) (h2:y=g*L*l):g*(A*k)=g*(L*l):=by grind
theorem a3 {u A v L k l:Int} (e4:u*A+v*L=1) (e5:A*k=L*l):k=L*(u*l+v*k):=by
 have z:k*(u*A+v*L)=k:=by rw [e4,Int.mul_one]
 grind
theorem a4 {A D r L q1 t:Int} (et:L*q1+t=D*r):A*t=A*(D*r)-A*(L*q1):=by grind
theorem a5 {D r A L c:Int} (hc:r*A-1=L*c):D*(r*A)-D=D*(L*c):=by rw [← hc];grind
theorem a6 {M L t q2 N x:Int} (ex:M*L*q2+x=N+M*t):x-N=M*(t-L*q2):=by grind
theorem a7 {g A L t q1 q2 c D r N x:Int} (z3:x=N+g*A*t-g*A*L*q2) (z1:A*t=A*(D*r)-A*(L*q1)) (z2:D*(r*A)-D=D*(L*c)):x-(N+g*D)=g*L*(c*D-q1*A-A*q2):=by grind
theorem a8 {M L k w:Int} (h:k=L*w):M*k=M*L*w:=by rw [h,Int.mul_assoc]
structure Aw (M N m n W x:Int):Prop where
 pos:0<W
 dM:M∣W
 dm:m∣W
 le:∀ y:Int,M∣y→m∣y→W∣y
 x0:0≤x
 x1:x<W
 eM:M∣x-N
 em:m∣x-n
theorem both {M N m n g r:Int} (hM:0<M) (hm:0<m) (h:G M m g) (hd:g∣n-N) (hr:m/g∣r*(M/g)-1):Aw M N m n (M*(m/g)) ((N+M*((n-N)/g*r%(m/g)))%(M*(m/g))):=by
 obtain⟨A,hA⟩:=h.da
 obtain⟨L,hL⟩:=h.db
 obtain⟨D,hD⟩:=hd
 have g0:=h.pos
 have e1:m/g=L:=by rw [hL];exact Int.mul_ediv_cancel_left _ (by omega)
 have e2:M/g=A:=by rw [hA];exact Int.mul_ediv_cancel_left _ (by omega)
 have e3:(n-N)/g=D:=by rw [hD];exact Int.mul_ediv_cancel_left _ (by omega)
 rw [e1,e2] at hr
 rw [e1,e3]
 have L0:0<L:=by
  rcases (by omega:L≤0∨0<L) with z | z
  ·have:=Int.mul_nonpos_of_nonneg_of_nonpos (Int.le_of_lt g0) z
   omega
  ·exact z
 have W0:0<M*L:=Int.mul_pos hM L0
 have dm:m∣M*L:=⟨A,by rw [hA,hL,Int.mul_assoc,Int.mul_assoc,Int.mul_comm A L]⟩
 have et:=Int.mul_ediv_add_emod (D*r) L
 have ex:=Int.mul_ediv_add_emod (N+M*(D*r%L)) (M*L)
 generalize hT:D*r%L=t at *
 generalize D*r/L=q1 at *
 have X0:=Int.emod_nonneg (N+M*t) (show M*L≠0 by omega)
 have X1:=Int.emod_lt_of_pos (N+M*t) W0
 generalize (N+M*t)%(M*L)=x at *
 generalize (N+M*t)/(M*L)=q2 at *
 obtain⟨c,hc⟩:=hr
 refine⟨W0,⟨L,rfl⟩,dm,fun y h1 h2=>?_,X0,X1,⟨t-L*q2,a6 ex⟩,?_⟩
 ·obtain⟨k,hk⟩:=h1
  obtain⟨l,hl⟩:=h2
  obtain⟨u,v,e⟩:=h.lin
  have e4:u*A+v*L=1:=Int.eq_of_mul_eq_mul_left (show g≠0 by omega) (a1 (by rw [hA,hL] at e;exact e))
  have e5:A*k=L*l:=Int.eq_of_mul_eq_mul_left (show g≠0 by omega) (a2 (y:=y) (by rw [hA] at hk;exact hk) (by rw [hL] at hl;exact hl))
  exact⟨u*l+v*k,by rw [hk];exact a8 (a3 e4 e5)⟩
 ·refine⟨c*D-q1*A-A*q2,?_⟩
  have hN:n=N+g*D:=by omega
  have z3:x=N+g*A*t-g*A*L*q2:=by rw [hA] at ex;omega
  rw [hN,hL]
  exact a7 z3 (a4 et) (a5 hc)
theorem CT:∀(b a:Nat),0<a→∃ g,G (a:Int) (b:Int) g:=by
 intro b
 induction b using Nat.strongRecOn with
 | ind b ih =>
  intro a ha
  rcases Nat.eq_zero_or_pos b with z | z
  ·subst z
   exact⟨a,by omega,Int.dvd_refl _,Int.dvd_zero _,1,0,by simp⟩
  ·obtain⟨g,h⟩:=ih (a%b) (Nat.mod_lt a z) b z
   obtain⟨u,v,e⟩:=h.lin
   have ed:(a:Int)=(b:Int)*((a/b:Nat):Int)+((a%b:Nat):Int):=by
    have:=Nat.div_add_mod a b
    rw [← Int.natCast_mul,← Int.natCast_add,this]
   refine⟨g,h.pos,?_,h.da,v,u-v*((a/b:Nat):Int),?_⟩
   ·rw [ed]
    exact Int.dvd_add (Int.dvd_mul_of_dvd_left h.da) h.db
   ·rw [ed,← e]
    generalize ((a/b:Nat):Int)=q
    generalize ((a%b:Nat):Int)=r
    generalize (b:Int)=b'
    grind
theorem zS {a b:Int} (ha:0<a) (hb:0<b):∃ g,G a b g:=by
 obtain⟨g,h⟩:=CT b.toNat a.toNat (by omega)
 rw [Int.toNat_of_nonneg (by omega),Int.toNat_of_nonneg (by omega)] at h
 exact⟨g,h⟩
structure Told (ps:List (Int × Int)) (M N:Int):Prop where
 pos:0<M
 x0:0≤N
 x1:N<M
 dv:∀ p∈ps,p.1∣M
 le:∀ y:Int,(∀ p∈ps,p.1∣y)→M∣y
 al:∀ p∈ps,p.1∣N-p.2
theorem Told.nil:Told [] 1 0:=⟨by decide,by decide,by decide,fun _ h=>by simp at h,fun y _=>⟨y,by omega⟩,fun _ h=>by simp at h⟩
theorem Told.step {ps:List (Int × Int)} {M N m n W x:Int} (h:Told ps M N) (b:Aw M N m n W x):Told (ps++[(m,n)]) W x:=by
 refine⟨b.pos,b.x0,b.x1,fun p hp=>?_,fun y hy=>?_,fun p hp=>?_⟩
 ·rcases List.mem_append.mp hp with z | z
  ·exact Int.dvd_trans (h.dv p z) b.dM
  ·rw [List.mem_singleton.mp z];exact b.dm
 ·exact b.le y (h.le y fun p hp=>hy p (List.mem_append_left _ hp)) (hy (m,n) (List.mem_append_right _ (by simp)))
 ·rcases List.mem_append.mp hp with z | z
  ·have e1:=Int.dvd_trans (h.dv p z) b.eM
   have e2:=h.al p z
   have:=Int.dvd_add e1 e2
   rwa [show x-N+(N-p.2)=x-p.2 by omega] at this
  ·rw [List.mem_singleton.mp z];exact b.em
theorem Told.fits {ps:List (Int × Int)} {M N m n g:Int} (h:Told ps M N) (G0:G M m g) (hp:∀ p∈ps,∀ d,G p.1 m d→d∣p.2-n) (hG:∀ p∈ps,∃ d,G p.1 m d):g∣n-N:=by
 obtain⟨A,hA⟩:=G0.da
 obtain⟨L,hL⟩:=G0.db
 have g0:=G0.pos
 have key:M∣(n-N)*A:=by
  refine h.le _ fun p hm=>?_
  obtain⟨d,hd⟩:=hG p hm
  obtain⟨u,v,e⟩:=hd.lin
  have d1:d∣n-N:=by
   have z1:=hp p hm d hd
   have z2:=Int.dvd_trans hd.da (h.al p hm)
   have:=Int.dvd_add z1 z2
   have w:=(Int.dvd_neg).mpr this
   rwa [show -(p.2-n+(N-p.2))=n-N by omega] at w
  obtain⟨c,hc⟩:=d1
  obtain⟨B,hB⟩:=h.dv p hm
  refine⟨c*(u*A+v*L*B),?_⟩
  rw [hc,← e]
  have:m*A=p.1*(L*B):=by
   have z:g*(m*A)=g*(p.1*(L*B)):=by
    have:m*M=g*L*(p.1*B):=by rw [hL,hB]
    have z2:g*(m*A)=m*M:=by rw [hA];grind
    rw [z2,this];grind
   exact Int.eq_of_mul_eq_mul_left (by omega) z
  grind
 obtain⟨c,hc⟩:=key
 have A0:A≠0:=fun z=>by rw [z] at hA;have:=h.pos;omega
 refine⟨c,?_⟩
 have:A*(n-N)=A*(g*c):=by rw [Int.mul_comm A (n-N),hc,hA];grind
 exact Int.eq_of_mul_eq_mul_left A0 this
theorem Told.one {ps:List (Int × Int)} {M N M' N':Int} (h:Told ps M N) (h':Told ps M' N'):M=M'∧N=N':=by
 have e:M=M':=Int.le_antisymm (Int.le_of_dvd h'.pos (h.le _ h'.dv)) (Int.le_of_dvd h.pos (h'.le _ h.dv))
 subst e
 refine⟨rfl,?_⟩
 have z:M∣N-N':=h.le _ fun p hp=>by
  have:=Int.dvd_sub (h.al p hp) (h'.al p hp)
  rwa [show N-p.2-(N' - p.2)=N-N' by omega] at this
 have w:=Int.emod_emod_of_dvd
 have:=(Int.emod_eq_emod_iff_emod_sub_eq_zero (m:=N) (n:=M) (k:=N')).mpr (Int.emod_eq_zero_of_dvd z)
 rwa [Int.emod_eq_of_lt h.x0 h.x1,Int.emod_eq_of_lt h'.x0 h'.x1] at this
end Crt
namespace Num
def Al (n x y:Int):Prop:=n∣x-y
theorem Al.refl (n x:Int):Al n x x:=⟨0,by omega⟩
theorem Al.symm {n x y:Int} (h:Al n x y):Al n y x:=by
 have:=(Int.dvd_neg).mpr h
 rwa [show -(x-y)=y-x by omega] at this
theorem Al.trans {n x y z:Int} (h:Al n x y) (h':Al n y z):Al n x z:=by
 have:=Int.dvd_add h h'
 rwa [show x-y+(y-z)=x-z by omega] at this
theorem Al.mul {n x y u v:Int} (h:Al n x y) (h':Al n u v):Al n (x*u) (y*v):=by
 have h1:n∣(x-y)*u:=Int.dvd_mul_of_dvd_left h
 have h2:n∣y*(u-v):=Int.dvd_mul_of_dvd_right h'
 have:=Int.dvd_add h1 h2
 rwa [show (x-y)*u+y*(u-v)=x*u-y*v by rw [Int.sub_mul,Int.mul_sub];omega] at this
theorem Al.pow {n x y:Int} (h:Al n x y):∀ k:Nat,Al n (x^k) (y^k)
 | 0=>by rw [Int.pow_zero,Int.pow_zero];exact Al.refl _ _
 | k+1=>by rw [Int.pow_succ,Int.pow_succ];exact (Al.pow h k).mul h
theorem Al.iff {n x y:Int}:Al n x y↔x%n=y%n:=Pw.AG.symm
theorem Al.rest (n x:Int):Al n (x%n) x:=Al.iff.mpr (Int.emod_emod_of_dvd x (Int.dvd_refl n))
def Co (a n:Int):Prop:=∃ u v:Int,u*a+v*n=1
theorem Co.dvd {a n b:Int} (h:Co a n) (hd:n∣a*b):n∣b:=by
 obtain⟨u,v,e⟩:=h
 have h1:n∣u*(a*b):=Int.dvd_mul_of_dvd_right hd
 have h2:n∣(v*b)*n:=⟨v*b,Int.mul_comm _ _⟩
 have:=Int.dvd_add h1 h2
 have e2:u*(a*b)+v*b*n=(u*a+v*n)*b:=by
  rw [Int.add_mul,Int.mul_assoc u a b,Int.mul_assoc v n b,Int.mul_comm n b,Int.mul_assoc v b n]
 rw [e2,e,Int.one_mul] at this
 exact this
theorem Co.cancel {a n x y:Int} (h:Co a n) (e:Al n (a*x) (a*y)):Al n x y:=by
 refine h.dvd ?_
 rw [Int.mul_sub]
 exact e
theorem Co.mul {a b n:Int} (h:Co a n) (h':Co b n):Co (a*b) n:=by
 obtain⟨u,v,e⟩:=h
 obtain⟨u',v',e'⟩:=h'
 refine⟨u*u',u*a*v'+v*(u'*b+v'*n),?_⟩
 have:(u*a+v*n)*(u'*b+v'*n)=1:=by rw [e,e'];rfl
 grind
theorem Co.pow {a n:Int} (h:Co a n):∀ k:Nat,Co (a^k) n
 | 0=>⟨1,0,by rw [Int.pow_zero];simp⟩
 | k+1=>by rw [Int.pow_succ];exact (Co.pow h k).mul h
theorem Co.wk {a b n:Int} (h:Co a n) (e:Al n a b):Co b n:=by
 obtain⟨u,v,e1⟩:=h
 obtain⟨c,hc⟩:=e
 refine⟨u,v+u*c,?_⟩
 have:b=a-n*c:=by omega
 rw [this]
 grind
theorem aN {n a:Int} {d k:Nat} (h:Al n (a^d) 1):Al n (a^(d*k)) 1:=by
 rw [Pw.pow_mul]
 have:=h.pow k
 rwa [Pw.one_pow] at this
structure Ord (n a:Int) (m:Nat):Prop where
 pos:0<m
 one:Al n (a^m) 1
 dv:∀ j:Nat,Al n (a^j) 1→m∣j
theorem pow_mod {n a:Int} {m j:Nat} (h:Al n (a^m) 1) (hj:Al n (a^j) 1):Al n (a^(j%m)) 1:=by
 have e:a^j=a^(m*(j/m))*a^(j%m):=by rw [← Pw.pow_add,Nat.div_add_mod]
 rw [e] at hj
 have h1:=(aN (k:=j/m) h).mul (Al.refl n (a^(j%m)))
 rw [Int.one_mul] at h1
 exact h1.symm.trans hj
theorem nh {n a:Int} {m:Nat} (pos:0<m) (one:Al n (a^m) 1) (no:∀ j,0<j→j<m→¬Al n (a^j) 1):Ord n a m:=by
 refine⟨pos,one,fun j hj=>?_⟩
 have h:=pow_mod one hj
 rcases Nat.eq_zero_or_pos (j%m) with z | z
 ·exact Nat.dvd_of_mod_eq_zero z
 ·exact absurd h (no _ z (Nat.mod_lt _ pos))
theorem fL {P:Nat→Prop}:∀ N:Nat,P N→∃ m,P m∧∀ j,j<m→¬P j:=by
 intro N
 induction N using Nat.strongRecOn with
 | ind N ih =>
  intro h
  by_cases z:∃ j,j<N∧P j
  ·obtain⟨j,hj,pj⟩:=z
   exact ih j hj pj
  ·exact⟨N,h,fun j hj pj=>z ⟨j,hj,pj⟩⟩
theorem nc {n a:Int} {N:Nat} (pos:0<N) (h:Al n (a^N) 1):∃ m,Ord n a m∧m≤N:=by
 obtain⟨m,⟨m0,m1⟩,no⟩:=fL (P:=fun j=>0<j∧Al n (a^j) 1) N ⟨pos,h⟩
 refine⟨m,nh m0 m1 fun j j0 jm z=>no j jm ⟨j0,z⟩,?_⟩
 by_cases z:m≤N
 ·exact z
 ·exact absurd ⟨pos,h⟩ (no N (by omega))
theorem Ord.wK {n a:Int} {m m':Nat} (h:Ord n a m) (h':Ord n a m'):m=m':=Nat.dvd_antisymm (h.dv _ h'.one) (h'.dv _ h.one)
theorem Ord.inj {n a:Int} {m i j:Nat} (h:Ord n a m) (c:Co a n) (hi:i<m) (hj:j<m) (e:Al n (a^i) (a^j)):i=j:=by
 have aux:∀ i j:Nat,i<m→j<m→i≤j→Al n (a^i) (a^j)→i=j:=by
  intro i j hi hj hij e
  have e1:a^j=a^i*a^(j-i):=by rw [← Pw.pow_add];congr 1;omega
  rw [e1] at e
  have e2:Al n (a^i*1) (a^i*a^(j-i)):=by rw [Int.mul_one];exact e
  have e3:=(c.pow i).cancel e2
  have:=h.dv _ e3.symm
  rcases Nat.eq_zero_or_pos (j-i) with z | z
  ·omega
  ·have:=Nat.le_of_dvd z this
   omega
 rcases Nat.le_total i j with z | z
 ·exact aux i j hi hj z e
 ·exact (aux j i hj hi z e.symm).symm
theorem nk:∀(n:Nat) (l:List Nat),l.Nodup→(∀ x∈l,x<n)→l.length≤n:=by
 intro n
 induction n with
 | zero =>
  intro l _ h
  cases l with
  | nil=>exact Nat.le_refl _
  | cons x r=>exact absurd (h x (by simp)) (by omega)
 | succ n ih =>
  intro l nd h
  by_cases c:n∈l
  ·have h1:=ih (l.erase n) (nd.erase n) fun x hx=>by
    have hx':=List.mem_of_mem_erase hx
    have ne:x≠n:=fun z=>by
     subst z
     exact absurd hx (List.Nodup.not_mem_erase nd)
    have:=h x hx'
    omega
   rw [List.length_erase_of_mem c] at h1
   omega
  ·have h1:=ih l nd fun x hx=>by
    have:=h x hx
    have ne:x≠n:=fun z=>c (z▸hx)
    omega
   omega
end Num
namespace Num
structure Pm (p:Int):Prop where
 two:2≤p
 no:∀ d:Int,2≤d→d<p→¬d∣p
theorem Pm.co {p a:Int} (h:Pm p) (ha:¬p∣a):Co a p:=by
 have h2:=h.two
 have r0:=Int.emod_nonneg a (show p≠0 by omega)
 have r1:=Int.emod_lt_of_pos a (show 0<p by omega)
 have rn:a%p≠0:=fun z=>ha (Int.dvd_of_emod_eq_zero z)
 obtain⟨g,G⟩:=Crt.zS (a:=a%p) (b:=p) (by omega) (by omega)
 have gl:=Int.le_of_dvd (show 0<a%p by omega) G.da
 have g1:g=1:=by
  have g0:=G.pos
  rcases (by omega:g=1∨2≤g) with z | z
  ·exact z
  ·exact absurd G.db (h.no g z (by omega))
 obtain⟨u,v,e⟩:=G.lin
 rw [g1] at e
 exact Co.wk ⟨u,v,e⟩ (Al.rest p a)
theorem Pm.or {p a b:Int} (h:Pm p) (hd:p∣a*b) (ha:¬p∣a):p∣b:=(h.co ha).dvd hd
theorem Pm.yV {p:Int} (h:Pm p):¬Al p 0 1:=fun z=>by
 have h2:=h.two
 have z':p∣0-1:=z
 have z2:=(Int.dvd_neg).mpr z'
 rw [show -((0:Int)-1)=1 by decide] at z2
 have:=Int.le_of_dvd (show (0:Int)<1 by decide) z2
 omega
def H:Int→List Int→Int→Int
 | acc,[],_=>acc
 | acc,c::cs,x=>H (acc*x+c) cs x
theorem vh (x:Int):∀(cs:List Int) (a b:Int),H (a+b) cs x=H a cs x+b*x^cs.length
 | [],a,b=>by rw [List.length_nil,Int.pow_zero,Int.mul_one];rfl
 | c::cs,a,b=>by
  show H ((a+b)*x+c) cs x=H (a*x+c) cs x+b*x^(cs.length+1)
  rw [show (a+b)*x+c=(a*x+c)+b*x by rw [Int.add_mul];omega,vh x cs,Int.pow_succ,Int.mul_assoc,Int.mul_comm x]
def zB (r:Int):Int→List Int→List Int
 | _,[]=>[]
 | _,[_]=>[]
 | c0,c::c'::cs=>(c0*r+c)::zB r (c0*r+c) (c'::cs)
theorem nE (r:Int):∀(cs:List Int) (c0:Int),(zB r c0 cs).length=cs.length-1
 | [],_=>rfl
 | [_],_=>rfl
 | c::c'::cs,c0=>by
  show (zB r (c0*r+c) (c'::cs)).length+1=_
  rw [nE r (c'::cs)]
  simp
theorem factor (x r:Int):∀(cs:List Int) (c0:Int),cs≠[]→H c0 cs x-H c0 cs r=(x-r)*H c0 (zB r c0 cs) x
 | [],_,h=>absurd rfl h
 | [c],c0,_=>by
  show c0*x+c-(c0*r+c)=(x-r)*c0
  rw [Int.sub_mul,Int.mul_comm c0 x,Int.mul_comm c0 r]
  omega
 | c::c'::cs,c0,_=>by
  have ih:=factor x r (c'::cs) (c0*r+c) (by simp)
  show H (c0*x+c) (c'::cs) x-H (c0*r+c) (c'::cs) r=(x-r)*H (c0*x+(c0*r+c)) (zB r (c0*r+c) (c'::cs)) x
  have e1:c0*x+c=(c0*r+c)+c0*(x-r):=by rw [Int.mul_sub];omega
  have e2:H (c0*x+(c0*r+c)) (zB r (c0*r+c) (c'::cs)) x=H (c0*r+c) (zB r (c0*r+c) (c'::cs)) x+c0*x*x^cs.length:=by
   rw [Int.add_comm (c0*x),vh,nE]
   simp
  rw [e1,vh,e2,List.length_cons,Int.pow_succ,Int.mul_add,← ih]
  generalize H (c0*r+c) (c'::cs) x=A
  generalize H (c0*r+c) (c'::cs) r=B
  generalize x^cs.length=Y
  grind
theorem roots {p:Int} (hp:Pm p):∀(n:Nat) (cs:List Int) (c0:Int),cs.length=n→¬p∣c0→∀ rs:List Int,rs.Pairwise (fun a b=>¬Al p a b)→(∀ r∈rs,p∣H c0 cs r)→rs.length≤n:=by
 intro n
 induction n with
 | zero =>
  intro cs c0 hl h0 rs hr hz
  have:cs=[]:=List.eq_nil_of_length_eq_zero hl
  subst this
  cases rs with
  | nil=>exact Nat.le_refl _
  | cons r rs=>exact absurd (hz r (by simp)) h0
 | succ n ih =>
  intro cs c0 hl h0 rs hr hz
  cases rs with
  | nil=>exact Nat.zero_le _
  | cons r rs =>
   have hne:cs≠[]:=fun z=>by rw [z] at hl;simp at hl
   obtain⟨h1,h2⟩:=List.pairwise_cons.mp hr
   have:=ih (zB r c0 cs) c0 (by rw [nE,hl];rfl) h0 rs h2 fun s hs=>by
    have e:=factor s r cs c0 hne
    have d1:=hz s (List.mem_cons_of_mem _ hs)
    have d2:=hz r (by simp)
    have d3:=Int.dvd_sub d1 d2
    rw [e] at d3
    exact hp.or d3 fun z=>h1 s hs (Al.symm z)
   simpa using this
theorem vi (x:Int):∀(n:Nat) (a:Int),H a (List.replicate n 0++[-1]) x=a*x^(n+1)-1
 | 0,a=>by
  show a*x + -1=_
  rw [Int.pow_succ,Int.pow_zero,Int.one_mul];omega
 | n+1,a=>by
  show H (a*x+0) (List.replicate n 0++[-1]) x=_
  rw [vi x n,Int.add_zero,Int.pow_succ x (n+1),Int.mul_comm (x^(n+1)) x,Int.mul_assoc]
theorem yz {p:Int} (hp:Pm p) {n:Nat} (hn:0<n) (h:∀ a:Int,¬p∣a→Al p (a^n) 1):p-1≤n:=by
 have h2:=hp.two
 obtain⟨m,rfl⟩:∃ m,n=m+1:=⟨n-1,by omega⟩
 have key:=roots hp (m+1) (List.replicate m 0++[-1]) 1 (by simp) (fun z=>by have:=Int.le_of_dvd (by decide) z;omega) ((List.range (p-1).toNat).map fun i:Nat=>(i:Int)+1) ?_ ?_
 ·rw [List.length_map,List.length_range] at key
  omega
 ·rw [List.pairwise_map]
  refine List.Pairwise.imp_of_mem (R:=(·<·)) (fun {a b} ha hb hab z=>?_) List.pairwise_lt_range
  have hb':=List.mem_range.mp hb
  have:=Int.le_of_dvd (by omega) (Al.symm z)
  omega
 ·intro r hr
  obtain⟨i,hi,rfl⟩:=List.mem_map.mp hr
  have hi':=List.mem_range.mp hi
  rw [vi,Int.one_mul]
  exact h _ fun z=>by have:=Int.le_of_dvd (by omega) z;omega
theorem l8 {f:Nat→Nat} {n:Nat} (h:∀ i j,i<j→j<n→f i≠f j):((List.range n).map f).Nodup:=by
 show List.Pairwise _ _
 rw [List.pairwise_map]
 exact List.Pairwise.imp_of_mem (R:=(·<·)) (fun {a b} ha hb hab=>h a b hab (List.mem_range.mp hb)) List.pairwise_lt_range
theorem rest_eq {p x y:Int} (hp:0<p) (e:(x%p).toNat=(y%p).toNat):Al p x y:=by
 have h1:=Int.emod_nonneg x (show p≠0 by omega)
 have h2:=Int.emod_nonneg y (show p≠0 by omega)
 exact Al.iff.mpr (by omega)
theorem back {n a:Int} (hn:2≤n) (c:Co a n):∃ d:Nat,0<d∧(d:Int)≤n∧Al n (a^d) 1:=by
 by_cases z:∃ i j:Nat,i<j∧j<n.toNat+1∧Al n (a^i) (a^j)
 ·obtain⟨i,j,ij,jn,e⟩:=z
  refine⟨j-i,by omega,by omega,?_⟩
  have e1:a^j=a^i*a^(j-i):=by rw [← Pw.pow_add];congr 1;omega
  rw [e1] at e
  have e2:Al n (a^i*1) (a^i*a^(j-i)):=by rw [Int.mul_one];exact e
  exact ((c.pow i).cancel e2).symm
 ·exfalso
  have nd:=l8 (f:=fun i=>(a^i%n).toNat) (n:=n.toNat+1) fun i j ij jn e=>z ⟨i,j,ij,jn,rest_eq (by omega) e⟩
  have:=nk n.toNat _ nd fun x hx=>by
   obtain⟨i,_,rfl⟩:=List.mem_map.mp hx
   have h1:=Int.emod_nonneg (a^i) (show n≠0 by omega)
   have h2:=Int.emod_lt_of_pos (a^i) (show 0<n by omega)
   show (a^i%n).toNat<n.toNat
   omega
  rw [List.length_map,List.length_range] at this
  omega
def fact:Nat→Nat
 | 0=>1
 | n+1=>(n+1)*fact n
theorem oP:∀ n,0<fact n
 | 0=>by decide
 | n+1=>Nat.mul_pos (Nat.succ_pos n) (oP n)
theorem oJ {d:Nat}:∀ n,0<d→d≤n→d∣fact n
 | 0,h,h'=>by omega
 | n+1,h,h'=>by
  by_cases c:d=n+1
  ·subst c;exact⟨fact n,rfl⟩
  ·exact Nat.dvd_trans (oJ n h (by omega)) ⟨n+1,Nat.mul_comm _ _⟩
theorem Ord.mul {n a b:Int} {k m:Nat} (ha:Ord n a k) (hb:Ord n b m) (ca:Co a n) (cb:Co b n) (co:Nat.Coprime k m):Ord n (a*b) (k*m):=by
 refine⟨Nat.mul_pos ha.pos hb.pos,?_,fun j hj=>?_⟩
 ·rw [Pw.mul_pow]
  have h1:=aN (k:=m) ha.one
  have h2:=aN (k:=k) hb.one
  rw [Nat.mul_comm m k] at h2
  exact h1.mul h2
 ·rw [Pw.mul_pow] at hj
  have d1:k∣j:=by
   have e:=hj.pow m
   rw [Pw.one_pow,Pw.mul_pow,← Pw.pow_mul,← Pw.pow_mul] at e
   have h2:=aN (k:=j) hb.one
   rw [Nat.mul_comm m j] at h2
   have e2:Al n (a^(j*m)) 1:=by
    have:=(Al.refl n (a^(j*m))).mul h2.symm
    rw [Int.mul_one] at this
    exact this.trans e
   exact Nat.Coprime.dvd_of_dvd_mul_right co (ha.dv _ e2)
  have d2:m∣j:=by
   have e:=hj.pow k
   rw [Pw.one_pow,Pw.mul_pow,← Pw.pow_mul,← Pw.pow_mul] at e
   have h2:=aN (k:=j) ha.one
   rw [Nat.mul_comm k j] at h2
   have e2:Al n (b^(j*k)) 1:=by
    have:=h2.symm.mul (Al.refl n (b^(j*k)))
    rw [Int.one_mul] at this
    exact this.trans e
   exact Nat.Coprime.dvd_of_dvd_mul_right co.symm (hb.dv _ e2)
  exact Nat.Coprime.mul_dvd_of_dvd_of_dvd co d1 d2
end Num
namespace Num
def Nm (q:Nat):Prop:=2≤q∧∀ d,2≤d→d<q→¬d∣q
theorem Af {m:Nat} (h:2≤m):∃ q,Nm q∧q∣m:=by
 obtain⟨q,⟨q2,qm⟩,no⟩:=fL (P:=fun d=>2≤d∧d∣m) m ⟨h,Nat.dvd_refl m⟩
 exact⟨q,⟨q2,fun d d2 dq hd=>no d dq ⟨d2,Nat.dvd_trans hd qm⟩⟩,qm⟩
theorem Nm.co {q m:Nat} (h:Nm q) (hm:¬q∣m):Nat.Coprime q m:=by
 have hg:=Nat.gcd_dvd_left q m
 have g0:0<Nat.gcd q m:=Nat.gcd_pos_of_pos_left m (by have:=h.1;omega)
 have gl:=Nat.le_of_dvd (by have:=h.1;omega) hg
 rcases (by omega:Nat.gcd q m=1∨(2≤Nat.gcd q m∧Nat.gcd q m<q)∨Nat.gcd q m=q) with z | ⟨z1,z2⟩ | z
 ·exact z
 ·exact absurd hg (h.2 _ z1 z2)
 ·exact absurd (z▸Nat.gcd_dvd_right q m) hm
theorem xQ {q:Nat} (hq:2≤q):∀ m:Nat,0<m→∃ k m',m=q^k*m'∧¬q∣m':=by
 intro m
 induction m using Nat.strongRecOn with
 | ind m ih =>
  intro hm
  by_cases c:q∣m
  ·obtain⟨t,ht⟩:=c
   have t0:0<t:=by
    rcases Nat.eq_zero_or_pos t with z | z
    ·subst z;omega
    ·exact z
   have tm:t<m:=by
    rw [ht]
    have:=Nat.mul_le_mul_right t hq
    omega
   obtain⟨k,m',e,hn⟩:=ih t tm t0
   exact⟨k+1,m',by rw [ht,e,Nat.pow_succ,Nat.mul_comm (q^k) q,Nat.mul_assoc],hn⟩
  ·exact⟨0,m,by simp,c⟩
theorem sJ {q:Nat} (h:Nm q):∀(k d:Nat),d∣q^(k+1)→¬d∣q^k→d=q^(k+1):=by
 intro k
 induction k with
 | zero =>
  intro d h1 h2
  rw [Nat.zero_add,Nat.pow_one] at h1 ⊢
  rw [Nat.pow_zero] at h2
  have q2:=h.1
  have d0:0<d:=Nat.pos_of_dvd_of_pos h1 (by omega)
  have dl:=Nat.le_of_dvd (by omega) h1
  rcases (by omega:d=1∨(2≤d∧d<q)∨d=q) with z | ⟨z1,z2⟩ | z
  ·exact absurd (z▸Nat.dvd_refl 1) h2
  ·exact absurd h1 (h.2 d z1 z2)
  ·exact z
 | succ k ih =>
  intro d h1 h2
  by_cases c:q∣d
  ·obtain⟨t,ht⟩:=c
   have q0:0<q:=by have:=h.1;omega
   rw [ht,Nat.pow_succ,Nat.mul_comm (q^(k+1)) q] at h1
   rw [ht,Nat.pow_succ,Nat.mul_comm (q^k) q] at h2
   have e1:=Nat.dvd_of_mul_dvd_mul_left q0 h1
   have e2:¬t∣q^k:=fun z=>h2 (Nat.mul_dvd_mul_left q z)
   rw [ht,ih t e1 e2,Nat.pow_succ q (k+1),Nat.mul_comm]
  ·have co:Nat.Coprime (q^(k+1+1)) d:=Nat.Coprime.pow_left _ (h.co c)
   have:d∣1:=by
    have:=Nat.dvd_gcd h1 (Nat.dvd_refl d)
    rwa [co] at this
   exact absurd (Nat.dvd_trans this (Nat.one_dvd _)) h2
section
variable {p:Int} {L:Nat}
structure Ex (p:Int) (L:Nat):Prop where
 pos:0<L
 all:∀ a:Int,¬p∣a→Al p (a^L) 1
 no:∀ j,0<j→j<L→∃ a:Int,¬p∣a∧¬Al p (a^j) 1
theorem Pm.unit {p a:Int} (hp:Pm p) (c:Co a p):¬p∣a:=fun h=>by
 obtain⟨u,v,e⟩:=c
 have h1:p∣u*a:=Int.dvd_mul_of_dvd_right h
 have h2:p∣v*p:=⟨v,Int.mul_comm _ _⟩
 have:=Int.dvd_add h1 h2
 rw [e] at this
 have:=Int.le_of_dvd (by decide) this
 have:=hp.two
 omega
theorem z5 (hp:Pm p):∃ L,Ex p L:=by
 have h2:=hp.two
 have uni:∀ a:Int,¬p∣a→Al p (a^fact p.toNat) 1:=fun a ha=>by
  obtain⟨d,d0,d1,e⟩:=back h2 (hp.co ha)
  obtain⟨t,ht⟩:=oJ p.toNat d0 (by omega)
  rw [ht]
  exact aN e
 obtain⟨L,⟨l0,l1⟩,no⟩:=fL (P:=fun j=>0<j∧∀ a:Int,¬p∣a→Al p (a^j) 1) (fact p.toNat) ⟨oP _,uni⟩
 refine⟨L,l0,l1,fun j j0 jl=>?_⟩
 have:=no j jl
 by_cases z:∃ a:Int,¬p∣a∧¬Al p (a^j) 1
 ·exact z
 ·exact absurd ⟨j0,fun a ha=>Classical.byContradiction fun w=>z ⟨a,ha,w⟩⟩ this
theorem pM (hp:Pm p) (h:Ex p L):∀ m:Nat,0<m→m∣L→∃ x:Int,Co x p∧Ord p x m:=by
 intro m
 induction m using Nat.strongRecOn with
 | ind m ih =>
  intro hm hd
  by_cases c:m=1
  ·subst c
   exact⟨1,⟨1,0,by omega⟩,by decide,by rw [Int.pow_succ,Int.pow_zero];exact Al.refl _ _,fun j _=>Nat.one_dvd j⟩
  ·obtain⟨q,hq,qm⟩:=Af (show 2≤m by omega)
   obtain⟨k,m',e,hn⟩:=xQ hq.1 m hm
   have q0:0<q:=by have:=hq.1;omega
   obtain⟨k',rfl⟩:∃ k',k=k'+1:=by
    cases k with
    | zero=>rw [Nat.pow_zero,Nat.one_mul] at e;exact absurd (e▸qm) hn
    | succ k'=>exact⟨k',rfl⟩
   have m0:0<m':=by
    rcases Nat.eq_zero_or_pos m' with z | z
    ·rw [z,Nat.mul_zero] at e;omega
    ·exact z
   have qk:2≤q^(k'+1):=by
    rw [Nat.pow_succ]
    have:=Nat.mul_le_mul (Nat.pow_pos (n:=k') q0) hq.1
    omega
   have mm:m'<m:=by
    rw [e]
    have:=Nat.mul_le_mul_right m' qk
    omega
   obtain⟨y,cy,oy⟩:=ih m' mm m0 (Nat.dvd_trans ⟨q^(k'+1),by rw [e,Nat.mul_comm]⟩ hd)
   have dq:q^(k'+1)∣L:=Nat.dvd_trans ⟨m',e⟩ hd
   obtain⟨T,hT⟩:=dq
   have T0:0<T:=by
    rcases Nat.eq_zero_or_pos T with z | z
    ·rw [z,Nat.mul_zero] at hT;have:=h.pos;omega
    ·exact z
   have eL:L=q*(q^k'*T):=by rw [hT,Nat.pow_succ,Nat.mul_comm (q^k') q,Nat.mul_assoc]
   have jp:0<q^k'*T:=Nat.mul_pos (Nat.pow_pos q0) T0
   have jl:q^k'*T<L:=by
    rw [eL]
    have:=Nat.mul_le_mul_right (q^k'*T) hq.1
    omega
   obtain⟨a,ha,hna⟩:=h.no _ jp jl
   have ca:=hp.co ha
   have z1:Al p ((a^T)^(q^(k'+1))) 1:=by
    rw [← Pw.pow_mul,Nat.mul_comm,← hT]
    exact h.all a ha
   have z2:¬Al p ((a^T)^(q^k')) 1:=by
    rw [← Pw.pow_mul,Nat.mul_comm]
    exact hna
   obtain⟨d,od,_⟩:=nc (Nat.pow_pos q0) z1
   have d1:=od.dv _ z1
   have d2:¬d∣q^k':=fun w=>z2 (by obtain⟨t,ht⟩:=w;rw [ht];exact aN od.one)
   have ed:=sJ hq k' d d1 d2
   subst ed
   refine⟨a^T*y,(ca.pow T).mul cy,?_⟩
   rw [e]
   exact od.mul oy (ca.pow T) cy (Nat.Coprime.pow_left _ (hq.co hn))
theorem z6 (hp:Pm p) (h:Ex p L):(L:Int)=p-1:=by
 have h2:=hp.two
 have h1:=yz hp h.pos h.all
 obtain⟨g,cg,og⟩:=pM hp h L h.pos (Nat.dvd_refl L)
 have nd:=l8 (f:=fun i=>(g^i%p).toNat-1) (n:=L) fun i j ij jn e=>by
  have r1:∀ k:Nat,1≤(g^k%p).toNat:=fun k=>by
   have a1:=Int.emod_nonneg (g^k) (show p≠0 by omega)
   have:g^k%p≠0:=fun z=>hp.unit (cg.pow k) (Int.dvd_of_emod_eq_zero z)
   omega
  have e':(g^i%p).toNat=(g^j%p).toNat:=by
   have:=r1 i
   have:=r1 j
   have e:(g^i%p).toNat-1=(g^j%p).toNat-1:=e
   omega
  have:=og.inj cg (by omega) jn (rest_eq (by omega) e')
  omega
 have:=nk (p-1).toNat _ nd fun x hx=>by
  obtain⟨i,_,rfl⟩:=List.mem_map.mp hx
  have a1:=Int.emod_nonneg (g^i) (show p≠0 by omega)
  have a2:=Int.emod_lt_of_pos (g^i) (show 0<p by omega)
  have:g^i%p≠0:=fun z=>hp.unit (cg.pow i) (Int.dvd_of_emod_eq_zero z)
  show (g^i%p).toNat-1<(p-1).toNat
  omega
 rw [List.length_map,List.length_range] at this
 omega
theorem qO (hp:Pm p) {a:Int} (ha:¬p∣a):Al p (a^(p-1).toNat) 1:=by
 obtain⟨L,h⟩:=z5 hp
 have:=z6 hp h
 rw [show (p-1).toNat=L by omega]
 exact h.all a ha
theorem qL (hp:Pm p) {m:Nat} (h0:0<m) (hd:m∣(p-1).toNat):∃ x:Int,1≤x∧x<p∧Ord p x m:=by
 obtain⟨L,h⟩:=z5 hp
 have:=z6 hp h
 have h2:=hp.two
 obtain⟨x,cx,ox⟩:=pM hp h m h0 (by rwa [show (p-1).toNat=L by omega] at hd)
 have a1:=Int.emod_nonneg x (show p≠0 by omega)
 have a2:=Int.emod_lt_of_pos x (show 0<p by omega)
 have a3:x%p≠0:=fun z=>hp.unit cx (Int.dvd_of_emod_eq_zero z)
 refine⟨x%p,by omega,a2,ox.pos,((Al.rest p x).pow m).trans ox.one,fun j hj=>ox.dv j (((Al.rest p x).pow j).symm.trans hj)⟩
theorem yL (hp:Pm p):∃ g:Int,1≤g∧g<p∧Ord p g (p-1).toNat:=qL hp (by have:=hp.two;omega) (Nat.dvd_refl _)
end
end Num
namespace Num
theorem Co.A9 {n a:Int} {m:Nat} (h:Al n (a^(m+1)) 1):Co a n:=by
 obtain⟨c,hc⟩:=h
 refine⟨a^m,-c,?_⟩
 rw [Int.pow_succ] at hc
 rw [Int.neg_mul,Int.mul_comm c n]
 omega
theorem Bj {n a:Int} {e:Nat} (h0:0<e) (h1:Al n (a^e) 1) (no:∀ q,Nm q→q∣e→¬Al n (a^(e/q)) 1):Ord n a e:=by
 obtain⟨m,om,_⟩:=nc h0 h1
 have d:=om.dv _ h1
 by_cases z:m=e
 ·subst z;exact om
 ·exfalso
  obtain⟨t,ht⟩:=d
  have t2:2≤t:=by
   rcases (by omega:t=0∨t=1∨2≤t) with w | w | w
   ·rw [w] at ht;omega
   ·rw [w,Nat.mul_one] at ht;exact absurd ht.symm z
   ·exact w
  obtain⟨q,hq,r,hr⟩:=Af t2
  have q0:0<q:=by have:=hq.1;omega
  have e1:e=q*(m*r):=by rw [ht,hr,← Nat.mul_assoc,Nat.mul_comm m q,Nat.mul_assoc]
  refine no q hq ⟨m*r,e1⟩ ?_
  rw [e1,Nat.mul_div_cancel_left _ q0]
  exact aN om.one
theorem Ord.DJ {n a:Int} {e:Nat} (h:Ord n a e) {q:Nat} (hq:Nm q) (hd:q∣e):¬Al n (a^(e/q)) 1:=fun z=>by
 have q0:0<q:=by have:=hq.1;omega
 obtain⟨r,hr⟩:=hd
 rw [hr,Nat.mul_div_cancel_left _ q0] at z
 have d:=h.dv _ z
 have r0:0<r:=by
  rcases Nat.eq_zero_or_pos r with w | w
  ·rw [w,Nat.mul_zero] at hr;have:=h.pos;omega
  ·exact w
 have:=Nat.le_of_dvd r0 d
 have:=Nat.mul_le_mul_right r hq.1
 omega
end Num
namespace Num
theorem wZ {n r:Int} (h:Ld.h8 n r):Pm r:=⟨h.two,fun d d2 dr hd=>h.no d d2 dr (Int.dvd_trans hd h.dv)⟩
def c5:List (Int × Int)→Int
 | []=>1
 | p::r=>p.1^p.2.toNat*c5 r
theorem kP:∀(ps:List (Int × Int)) (p:Int × Int),c5 (ps++[p])=c5 ps*p.1^p.2.toNat
 | [],p=>by show p.1^_*1=1*_;omega
 | q::r,p=>by
  show q.1^q.2.toNat*c5 (r++[p])=q.1^q.2.toNat*c5 r*_
  rw [kP r p,Int.mul_assoc]
structure Part (n:Int) (ps:List (Int × Int)):Prop where
 ok:∀ p∈ps,Pm p.1∧1≤p.2∧p.2≤30
 rise:ps.Pairwise fun a b=>a.1<b.1
 prod:c5 ps=n
theorem bG {q:Int} (h:0<q):∀ k:Nat,0<q^k
 | 0=>by rw [Int.pow_zero];decide
 | k+1=>by rw [Int.pow_succ];exact Int.mul_pos (bG h k) h
theorem two_pow_le {q:Int} (h:2≤q):∀ k:Nat,(2:Int)^k≤q^k
 | 0=>by rw [Int.pow_zero,Int.pow_zero];exact Int.le_refl _
 | k+1=>by
  rw [Int.pow_succ,Int.pow_succ]
  exact Int.mul_le_mul (two_pow_le h k) h (by decide) (Int.le_of_lt (bG (by omega) k))
theorem two_le:∀{k:Nat},(2:Int)^k≤10^9→k≤29:=by
 intro k h
 by_cases c:k≤29
 ·exact c
 ·exfalso
  have e:k=30+(k-30):=by omega
  rw [e,Pw.pow_add] at h
  have:=bG (show (0:Int)<2 by decide) (k-30)
  have h2:=Int.mul_le_mul_of_nonneg_left (show (1:Int)≤2^(k-30) by omega) (show (0:Int)≤2^30 by decide)
  have:(2:Int)^30=1073741824:=by decide
  omega
structure Way (n:Int) (ps:List (Int × Int)) (left prime:Int):Prop where
 ok:∀ p∈ps,Pm p.1∧1≤p.2∧p.2≤30
 rise:ps.Pairwise fun a b=>a.1<b.1
 prod:c5 ps*left=n
 pos:1≤left
 inv:Ld.Inv left prime
 le:∀ p∈ps,p.1≤prime
 gone:ps=[]∨¬prime∣left
 two:(2:Int)^ps.length*left≤n
theorem Way.start {n:Int} (h:1≤n):Way n [] n 2:=⟨fun _ z=>by simp at z,List.Pairwise.nil,by show 1*n=n;omega,h,⟨by decide,.inl rfl,fun d d0 d1=>by omega⟩,fun _ z=>by simp at z,.inl rfl,by rw [List.length_nil,Int.pow_zero];omega⟩
theorem Way.step {n left prime r left':Int} {ps:List (Int × Int)} {k:Nat} (w:Way n ps left prime) (hn:n≤10^9) (hl:1<left) (h:Ld.h8 left r) (e:left=r^k*left') (l0:1≤left') (hk:1≤k) (hg:¬r∣left'):Way n (ps++[(r,(k:Int))]) left' r:=by
 have r2:=h.two
 have pm:=wZ h
 have rp:prime≤r:=by
  rcases (by omega:prime≤r∨r<prime) with z | z
  ·exact z
  ·exact absurd h.dv (w.inv.no r r2 z)
 have rk:=bG (show 0<r by omega) k
 have k2:=two_pow_le r2 k
 have kl:(2:Int)^k≤left:=by
  have:=Int.mul_le_mul k2 l0 (by decide) (Int.le_of_lt rk)
  rw [Int.mul_one] at this
  omega
 have ln:left≤n:=by
  have z:=w.two
  have p0:=bG (show (0:Int)<2 by decide) ps.length
  have:=Int.mul_le_mul_of_nonneg_right (show (1:Int)≤2^ps.length by omega) (show 0≤left by omega)
  omega
 have k29:=two_le (k:=k) (by omega)
 refine⟨fun p hp=>?_,?_,?_,l0,?_,fun p hp=>?_,.inr hg,?_⟩
 ·rcases List.mem_append.mp hp with z | z
  ·exact w.ok p z
  ·rw [List.mem_singleton.mp z]
   exact⟨pm,by show (1:Int)≤k;omega,by show (k:Int)≤30;omega⟩
 ·refine List.pairwise_append.mpr ⟨w.rise,List.pairwise_singleton _ _,fun a ha b hb=>?_⟩
  rw [List.mem_singleton.mp hb]
  show a.1<r
  have:=w.le a ha
  rcases w.gone with z | z
  ·rw [z] at ha;simp at ha
  ·have:prime≠r:=fun y=>z (y▸h.dv)
   omega
 ·rw [kP,← w.prod,e]
  show c5 ps*r^((k:Int).toNat)*left'=_
  rw [Int.toNat_natCast,Int.mul_assoc]
 ·refine⟨r2,?_,fun d d0 d1 hd=>h.no d d0 d1 (by rw [e];exact Int.dvd_mul_of_dvd_right hd)⟩
  rcases (by omega:r=2∨2<r) with z | z
  ·exact .inl z
  ·refine .inr ?_
   rcases (by omega:r%2=1∨r%2=0) with y | y
   ·exact y
   ·exact absurd (Int.dvd_of_emod_eq_zero y) (pm.no 2 (by decide) z)
 ·rcases List.mem_append.mp hp with z | z
  ·have:=w.le p z;omega
  ·rw [List.mem_singleton.mp z];exact Int.le_refl _
 ·rw [List.length_append,List.length_singleton,Pw.pow_add,Int.pow_succ,Int.pow_zero,Int.one_mul,Int.mul_assoc]
  refine Int.le_trans (Int.mul_le_mul_of_nonneg_left ?_ (Int.le_of_lt (bG (by decide) _))) w.two
  rw [e]
  obtain⟨k',rfl⟩:∃ k',k=k'+1:=⟨k-1,by omega⟩
  have p0:=bG (show 0<r by omega) k'
  have h1:r≤r^(k'+1):=by
   rw [Int.pow_succ]
   have:=Int.mul_le_mul_of_nonneg_right (show 1≤r^k' by omega) (show 0≤r by omega)
   omega
  exact Int.mul_le_mul_of_nonneg_right (show 2≤r^(k'+1) by omega) (show 0≤left' by omega)
theorem Way.done {n prime:Int} {ps:List (Int × Int)} (w:Way n ps 1 prime):Part n ps:=⟨w.ok,w.rise,by have:=w.prod;omega⟩
theorem Way.len {n left prime:Int} {ps:List (Int × Int)} (w:Way n ps left prime) (hn:n≤10^9):ps.length≤29:=by
 refine two_le ?_
 have z:=w.two
 have p0:=bG (show (0:Int)<2 by decide) ps.length
 have:=Int.mul_le_mul_of_nonneg_left w.pos (Int.le_of_lt p0)
 omega
end Num
namespace Num
open PySem
theorem eJ:∀{ps:List (Int × Int)} {p:Int × Int},p∈ps→1≤p.2→p.1∣c5 ps
 | a::r,p,h,hk=>by
  rcases List.mem_cons.mp h with z | z
  ·subst z
   obtain⟨k,hk'⟩:∃ k,p.2.toNat=k+1:=⟨p.2.toNat-1,by omega⟩
   show p.1∣p.1^p.2.toNat*c5 r
   rw [hk',Int.pow_succ]
   exact Int.dvd_mul_of_dvd_left ⟨p.1^k,Int.mul_comm _ _⟩
  ·exact Int.dvd_mul_of_dvd_right (eJ z hk)
theorem Cv {q:Nat} (h:Nm q):Pm (q:Int):=⟨by have:=h.1;omega,fun d d2 dq hd=>h.2 d.toNat (by omega) (by omega) (by
 obtain⟨c,hc⟩:=hd
 have:(d.toNat:Int)=d:=by omega
 exact Int.natCast_dvd_natCast.mp (by rw [this];exact⟨c,hc⟩))⟩
theorem wc {p:Int} (h:Pm p):Nm p.toNat:=⟨by have:=h.two;omega,fun d d2 dp hd=>h.no d (by omega) (by omega) (by
 have:=Int.natCast_dvd_natCast.mpr hd
 rwa [show (p.toNat:Int)=p by have:=h.two;omega] at this)⟩
theorem w5 {p q:Int} (hp:Pm p) (hq:Pm q):∀ k:Nat,q∣p^k→q=p
 | 0,h=>by
  rw [Int.pow_zero] at h
  have:=Int.le_of_dvd (by decide) h
  have:=hq.two
  omega
 | k+1,h=>by
  rw [Int.pow_succ] at h
  by_cases c:q∣p^k
  ·exact w5 hp hq k c
  ·have d:=hq.or h c
   have l:=Int.le_of_dvd (by have:=hp.two;omega) d
   rcases (by omega:q<p∨q=p) with z | z
   ·exact absurd d (hp.no q hq.two z)
   ·exact z
theorem kH {q:Int} (hq:Pm q):∀{ps:List (Int × Int)},(∀ p∈ps,Pm p.1)→q∣c5 ps→∃ p∈ps,p.1=q
 | [],_,h=>by
  have:=Int.le_of_dvd (by decide) (show q∣1 from h)
  have:=hq.two
  omega
 | a::r,hp,h=>by
  by_cases c:q∣a.1^a.2.toNat
  ·exact⟨a,by simp,(w5 (hp a (by simp)) hq _ c).symm⟩
  ·obtain⟨p,h1,h2⟩:=kH hq (fun p z=>hp p (List.mem_cons_of_mem _ z)) (hq.or h c)
   exact⟨p,List.mem_cons_of_mem _ h1,h2⟩
theorem wM {n a e:Int} {ps:List (Int × Int)} (h:Part e ps) (he:1≤e):(Al n (a^e.toNat) 1∧∀ q∈ps.map (·.1),¬Al n (a^(e/q).toNat) 1)↔Ord n a e.toNat:=by
 constructor
 ·rintro⟨h1,h2⟩
  refine Bj (by omega) h1 fun q hq hd=>?_
  have hd':(q:Int)∣e:=by
   have:=Int.natCast_dvd_natCast.mpr hd
   rwa [show (e.toNat:Int)=e by omega] at this
  obtain⟨p,hp,ep⟩:=kH (Cv hq) (fun p z=>(h.ok p z).1) (by rw [h.prod];exact hd')
  have:=h2 q (List.mem_map.mpr ⟨p,hp,ep⟩)
  rwa [show (e/(q:Int)).toNat=e.toNat/q by
   have:e/(q:Int)=((e.toNat/q:Nat):Int):=by rw [Int.natCast_ediv];congr 1;omega
   rw [this,Int.toNat_natCast]] at this
 ·intro h1
  refine⟨h1.one,fun q hq=>?_⟩
  obtain⟨p,hp,rfl⟩:=List.mem_map.mp hq
  obtain⟨o1,o2,_⟩:=h.ok p hp
  have d:p.1∣e:=by rw [← h.prod];exact eJ hp o2
  have t:=o1.two
  have:=h1.DJ (wc o1) (by
   have:(p.1.toNat:Int)∣(e.toNat:Int):=by rw [show (p.1.toNat:Int)=p.1 by omega,show (e.toNat:Int)=e by omega];exact d
   exact Int.natCast_dvd_natCast.mp this)
  rwa [show e.toNat/p.1.toNat=(e/p.1).toNat by
   have:e/p.1=((e.toNat/p.1.toNat:Nat):Int):=by rw [Int.natCast_ediv];congr 1<;>omega
   rw [this,Int.toNat_natCast]] at this
structure LF (p g:Int):Prop where
 one:1≤g
 lt:g<p
 ord:Ord p g (p-1).toNat
 no:∀ a:Int,1≤a→a<g→¬Ord p a (p-1).toNat
def rowsOf (ps:List (Int × Int)) (ds:Nat→PyData):List PyData:=(List.range ps.length).map fun i=>.tuple [ds i,.int (ps.getD i (0,0)).2]
theorem bJ {ps:List (Int × Int)} {ds:Nat→PyData}:(rowsOf ps ds).length=ps.length:=by unfold rowsOf;rw [List.length_map,List.length_range]
theorem hJ {ps:List (Int × Int)} {ds:Nat→PyData} {i:Nat} {p:Int × Int} (h:ps[i]?=some p):(rowsOf ps ds)[i]?=some (.tuple [ds i,.int p.2]):=by
 have hi:=(List.getElem?_eq_some_iff.mp h).1
 unfold rowsOf
 rw [List.getElem?_map,List.getElem?_range hi]
 show some (PyData.tuple [ds i,.int (ps.getD i (0,0)).2])=_
 rw [List.getD_eq_getElem?_getD,h]
 rfl
inductive iV:Int→PyData→Prop
 | mk (p g:Int) (ps:List (Int × Int)) (ds:Nat→PyData):Pm p→p≤10^9→LF p g→Part (p-1) ps→ps.length≤29→(∀ i q k,ps[i]?=some (q,k)→iV q (ds i))→iV p (.tuple [.int p,.int g,.tuple (rowsOf ps ds)])
theorem iV.head {p:Int} {d:PyData} (h:iV p d):∃ g rows,d=.tuple [.int p,.int g,.tuple rows]:=by
 cases h
 exact⟨_,_,rfl⟩
def Ht:Nat→Int→Prop
 | 0,_=>False
 | L+1,n=>∀ q:Int,Pm q→q∣n-1→Ht L q
theorem z9:∀(L:Nat) (n:Int),Pm n→n<2^(L+2)→Ht (L+2) n
 | 0,n,h,hn=>by
  have h2:=h.two
  have hn':n<4:=hn
  intro q hq hd
  intro q' hq' hd'
  have q2:=hq.two
  have l:=Int.le_of_dvd (by rcases (by omega:n=2∨n=3) with z | z;exfalso;rw [z] at hd;have:=Int.le_of_dvd (by decide) hd;omega;omega) hd
  have qq:q=2:=by omega
  rw [qq] at hd'
  have:=Int.le_of_dvd (by decide) hd'
  have:=hq'.two
  omega
 | L+1,n,h,hn=>by
  intro q hq hd
  have q2:=hq.two
  have h2:=h.two
  refine z9 L q hq ?_
  have e:(2:Int)^(L+1+2)=2^(L+2)*2:=by rw [← Int.pow_succ]
  rw [e] at hn
  have four:(4:Int)≤2^(L+2):=by
   have:=bG (show (0:Int)<2 by decide) L
   have e4:(2:Int)^(L+2)=2^L*4:=by rw [Pw.pow_add];rfl
   omega
  obtain⟨c,hc⟩:=hd
  rcases (by omega:n≤3∨3<n) with z | z
  ·have:q≤n-1:=Int.le_of_dvd (by
    rcases (by omega:n=2∨n=3) with y | y
    ·exfalso
     rw [y] at hc
     have:=Int.le_of_dvd (by decide) (show q∣1 from ⟨c,hc⟩)
     omega
    ·omega) ⟨c,hc⟩
   omega
  ·rcases (by omega:n%2=0∨n%2=1) with y | y
   ·exact absurd (Int.dvd_of_emod_eq_zero y) (h.no 2 (by decide) (by omega))
   ·rcases (by omega:q=2∨2<q) with x | x
    ·omega
    ·have qo:q%2=1:=by
      rcases (by omega:q%2=1∨q%2=0) with w | w
      ·exact w
      ·exact absurd (Int.dvd_of_emod_eq_zero w) (hq.no 2 (by decide) x)
     have ce:c%2=0:=by
      rcases (by omega:c%2=0∨c%2=1) with w | w
      ·exact w
      ·exfalso
       have:(q*c)%2=1:=by rw [Int.mul_emod,qo,w];rfl
       omega
     have c2:2≤c:=by
      rcases (by omega:c≤0∨2≤c) with w | w
      ·have:=Int.mul_nonpos_of_nonneg_of_nonpos (show 0≤q by omega) w
       omega
      ·exact w
     have:=Int.mul_le_mul_of_nonneg_left c2 (show 0≤q by omega)
     omega
theorem AQ {n:Int} (h:Pm n) (hn:n≤10^9):Ht 30 n:=z9 28 n h (by
 have:(2:Int)^(28+2)=1073741824:=by decide
 omega)
end Num
namespace L2
open PySem PySem.Spec PyProof.Rows
def D9:PyData→String
 | .none => "NoneType"
 | .bool _ => "bool"
 | .int _ => "int"
 | .str _ => "str"
 | .list _ => "list"
 | .tuple _ => "tuple"
 | .dict _ => "dict"
def D0:PyData→Bool
 | .int _=>true
 | _=>false
def DL:PyData→Bool
 | .bool _=>true
 | _=>false
def DZ:PyData→Bool
 | .tuple _=>true
 | _=>false
def DY:PyData→Bool
 | .list _=>true
 | _=>false
section
variable {X:Cx} {K:PySem.W.Frag}
def pT (K:PySem.W.Frag):List V→Hp→VK→Prop:=fun xs H Q=>∃ d x n b,xs=[x,.ty n]∧dv K H d x∧PySem.W.kitOne K (.type (D9 d)) (.type n)=some b∧Q (.bl b) H
theorem bw:cZ X (.builtin "isinstance") (pT X.K):=by
 intro pins s σ H xs us Q I r h
 obtain⟨d,x,n,b,rfl,hd,ek,q⟩:=h
 obtain⟨u,w',rfl,rx,rc⟩:=vals2 r
 have e:w'=.type n:=rc
 subst e
 have fin:∀ tk,∃ v' H',Inv X pins σ H' { s with toks:=tk }∧RelV v' (.bool b)∧Q v' H':=fun tk=>⟨.bl b,H,I.tok _,rfl,q⟩
 cases d with
 | none=>cases hd;exact gi I rx gA.non ek fin
 | bool y=>cases hd;exact gi I rx (gA.bl _) ek fin
 | int y=>cases hd;exact gi I rx (gA.int _) ek fin
 | str y=>cases hd;exact gi I rx (gA.str _) ek fin
 | list ds =>
  obtain⟨p,ys,rfl,h,t⟩:=hd
  cases rx
  obtain⟨its,rr,pl,_⟩:=I.list h
  obtain⟨o,h1,h2,_⟩:=pl.isList
  exact PySem.W.kia_one PySem.W.kitx_list I.fF ⟨o,h1,h2⟩ ek (fun z=>nomatch z) fin
 | tuple ds =>
  obtain⟨p,ys,rfl,h,t⟩:=hd
  cases rx
  obtain⟨its,rr,pl,_⟩:=I.tuple h
  obtain⟨o,h1,h2,_⟩:=pl
  exact PySem.W.kia_one PySem.W.kitx_tuple I.fF ⟨o,h1,h2⟩ ek (fun z=>nomatch z) fin
 | dict _=>exact hd.elim
theorem yN {H:Hp} {d:PyData} {x:V} {Q:VK} (h:dv K H d x) (q:Q (.bl (D0 d || DL d)) H):pT K [x,.ty "int"] H Q:=by
 refine⟨d,x,"int",_,rfl,h,?_,q⟩
 cases d<;>first | exact h.elim | with_unfolding_all rfl
theorem cK {H:Hp} {d:PyData} {x:V} {Q:VK} (h:dv K H d x) (q:Q (.bl (DL d)) H):pT K [x,.ty "bool"] H Q:=by
 refine⟨d,x,"bool",_,rfl,h,?_,q⟩
 cases d<;>first | exact h.elim | with_unfolding_all rfl
theorem cE {H:Hp} {d:PyData} {x:V} {Q:VK} (h:dv K H d x) (q:Q (.bl (DZ d)) H):pT K [x,.ty "tuple"] H Q:=by
 refine⟨d,x,"tuple",_,rfl,h,?_,q⟩
 cases d<;>first | exact h.elim | with_unfolding_all rfl
theorem cX {H:Hp} {d:PyData} {x:V} {Q:VK} (h:dv K H d x) (q:Q (.bl (DY d)) H):pT K [x,.ty "list"] H Q:=by
 refine⟨d,x,"list",_,rfl,h,?_,q⟩
 cases d<;>first | exact h.elim | with_unfolding_all rfl
end
end L2
namespace L2
open PySem PySem.Spec PyProof.Rows
def Cd (i:Int) (n:Nat):List V:=(List.range n).map fun(k:Nat)=>V.int (i+(k:Int))
def DN (ta:TA):TE:=fun σ H Q=>ta σ H fun vs H1=>∃ i j:Int,vs=[.int i,.int j]∧(-(2^62)≤i∧i<2^62 ∧ -(2^62)≤j∧j<2^62)∧j-i≤10^6∧∀ l,H1 l=none→Q (.ref l) (upd H1 l (.lst (Cd i (j-i).toNat)))
variable {X:Cx}
end L2
namespace L2
open PySem PySem.Spec PyProof.Rows
theorem boot_any:bootBuiltins "any"=some (.builtin "any"):=by decide +kernel
section
variable {X:Cx} {K:PySem.W.Frag}
def Cw (K:PySem.W.Frag):List V→Hp→VK→Prop:=fun xs H Q=>∃(a:Addr) (bs:List Bool),xs=[.ref a]∧aZ K H a (bs.map V.bl)∧Q (.bl (bs.any id)) H
theorem vp (hc:X.calm=true):cZ X (.builtin "any") (Cw X.K):=by
 intro pins s σ H xs us Q I r h
 obtain⟨a,bs,rfl,hq,q⟩:=h
 obtain⟨u,rfl,ru⟩:=vals1 r
 cases ru
 obtain⟨its,rv,p,hz⟩:=I.list hq
 have hl:=p.isList
 have hlt:a<s.heap.objs.size:=by obtain⟨_,e,_⟩:=hl;exact Heap.lt_size e
 have hln:its.length=bs.length:=by have:=rv.length;rw [List.length_map] at this;omega
 have hb:∀(i:Nat) v,its[i]?=some v→∃ b,bs[i]?=some b∧v=.bool b:=fun i v e=>by
  have hi:i<its.length:=(List.getElem?_eq_some_iff.mp e).1
  have hi2:i<bs.length:=by omega
  obtain⟨u,e1,e2⟩:=rv.get (i:=i) (x:=V.bl bs[i]) (by rw [List.getElem?_map,List.getElem?_eq_getElem hi2];rfl)
  rw [e] at e1
  cases e1
  exact⟨bs[i],List.getElem?_eq_getElem hi2,e2⟩
 refine call_any_walk (wpAny_pyIter_list hl ?_)
 refine⟨s.heap.objs.size,[s.heap.objs.size,a],[s.heap.objs.size],its.toArray.size,_,_,fun i=>(bs[i]?).getD false,rfl,Walks.list (A:=X.A.in1) (I.ok.hd hc) _ a (Nat.ne_of_lt hlt) its.toArray,
  ⟨⟨_,Heap.get?_push_size _ rfl,rfl,rfl⟩,hl.push _⟩,fun i v s' Q' E' hP hQ=>?_,fun h' tk hk=>?_⟩
 ·obtain⟨b,e,rfl⟩:=hb i v (by simpa using hP)
  simp only [e,Option.getD_some] at hQ
  exact wpAny_truthy_bool hQ
 ·have e:((List.range its.toArray.size).any fun i=>(bs[i]?).getD false)=bs.any id:=by
   rw [List.size_toArray,hln,Bool.eq_iff_iff]
   simp only [List.any_eq_true,List.mem_range,id]
   constructor
   ·rintro⟨i,hi,z⟩
    rw [List.getElem?_eq_getElem hi,Option.getD_some] at z
    exact⟨_,List.getElem_mem hi,z⟩
   ·rintro⟨b,hb',z⟩
    obtain⟨i,hi,rfl⟩:=List.mem_iff_getElem.mp hb'
    exact⟨i,hi,by rw [List.getElem?_eq_getElem hi,Option.getD_some];exact z⟩
  rw [e]
  exact⟨.bl _,H,I.kept fun b o eb=>hk b o (fun hm=>by rw [List.mem_singleton.mp hm] at eb;exact Nat.lt_irrefl _ (Heap.lt_size eb)) (Heap.get?_push_of_some _ eb),rfl,q⟩
theorem AH {H:Hp} {p:Addr} {bs:List Bool} {Q:VK} (h:aZ K H p (bs.map V.bl)) (q:Q (.bl (bs.any id)) H):Cw K [.ref p] H Q:=⟨p,bs,rfl,h,q⟩
end
end L2
namespace L2
open PySem PySem.Spec PyProof.Rows
section
variable {κ:Type} [DecidableEq κ]
def bV (kvs:List (κ × V)) (k:κ):Option V:=(kvs.find? fun kv=>decide (kv.1=k)).map (·.2)
def putK (kvs:List (κ × V)) (k:κ) (v:V):List (κ × V) :=
 if (kvs.any fun kv=>decide (kv.1=k))=true then kvs.map (fun kv=>if kv.1=k then (kv.1,v) else kv) else kvs++[(k,v)]
def bL (kvs:List (κ × V)) (k:κ):List (κ × V):=kvs.filter fun kv=>decide (kv.1≠k)
theorem b7 {p:κ × V} {r:List (κ × V)} {k:κ} (e:p.1=k):bV (p::r) k=some p.2:=by simp [bV,List.find?_cons,e]
theorem bR {p:κ × V} {r:List (κ × V)} {k:κ} (e:¬p.1=k):bV (p::r) k=bV r k:=by simp [bV,List.find?_cons,e]
theorem lj (k:κ):∀ kvs:List (κ × V),(kvs.any fun kv=>decide (kv.1=k))=(bV kvs k).isSome
 | []=>rfl
 | p::r=>by
  rw [List.any_cons]
  by_cases e:p.1=k
  ·simp only [b7 e,decide_eq_true e,Bool.true_or,Option.isSome_some]
  ·rw [bR e,decide_eq_false e,Bool.false_or];exact lj k r
theorem gz (k j:κ) (y:V):∀ kvs:List (κ × V),bV kvs k=none→bV (kvs++[(k,y)]) j=if j=k then some y else bV kvs j
 | [],_=>by
  by_cases e:k=j
  ·rw [if_pos e.symm];exact b7 (p:=(k,y)) e
  ·rw [if_neg (fun z=>e z.symm)];exact bR (p:=(k,y)) e
 | p::r,hn=>by
  rw [List.cons_append]
  have hk:¬p.1=k:=fun z=>by rw [b7 z] at hn;cases hn
  rw [bR hk] at hn
  have ih:=gz k j y r hn
  by_cases e:p.1=j
  ·rw [b7 e,b7 e,if_neg (fun z=>hk (e.trans z))]
  ·rw [bR e,bR e,ih]
theorem fM (kvs:List (κ × V)) (k:κ) (v:V):(putK kvs k v).length≤kvs.length+1:=by
 unfold putK
 split
 ·rw [List.length_map];omega
 ·rw [List.length_append,List.length_cons,List.length_nil];omega
theorem pS {kvs:List (κ × V)} {k:κ} (v:V) (h:bV kvs k=none):putK kvs k v=kvs++[(k,v)]:=by
 unfold putK
 rw [lj,h]
 exact if_neg (by decide)
theorem fC.eK {o:Option V} {u:Option Value} (r:fC o u):o.isSome=u.isSome:=by
 cases o with
 | none=>cases u with
  | none=>rfl
  | some _=>exact (show False from r).elim
 | some _=>cases u with
  | none=>exact (show False from r).elim
  | some _=>rfl
theorem KV.val {kvs:List (κ × V)} {vs:List (κ × Value)} (r:KV kvs vs) (k:κ):fC (bV kvs k) (valueAt vs k):=by
 unfold KV at r
 induction r with
 | nil=>exact True.intro
 | @cons p q ps qs h t ih =>
  obtain⟨h1,h2⟩:=h
  by_cases e:p.1=k
  ·have e':q.1=k:=h1.symm.trans e
   have b:valueAt (q::qs) k=some q.2:=by simp [valueAt,List.find?_cons,e']
   rw [b7 e,b];exact h2
  ·have e':¬q.1=k:=fun z=>e (h1.trans z)
   have b:valueAt (q::qs) k=valueAt qs k:=by simp [valueAt,List.find?_cons,e']
   rw [bR e,b];exact ih
theorem KV.any {kvs:List (κ × V)} {vs:List (κ × Value)} (r:KV kvs vs) (k:κ):(kvs.any fun kv=>decide (kv.1=k))=vs.any fun kv=>decide (kv.1=k):=by
 unfold KV at r
 induction r with
 | nil=>rfl
 | cons h t ih=>rw [List.any_cons,List.any_cons,ih,h.1]
theorem KV.Bu {kvs:List (κ × V)} {vs:List (κ × Value)} (r:KV kvs vs) (k:κ) {y:V} {u:Value} (ry:RelV y u) :
  KV (kvs.map fun kv=>if kv.1=k then (kv.1,y) else kv) (vs.map fun kv=>if kv.1=k then (kv.1,u) else kv):=by
 unfold KV at r ⊢
 induction r with
 | nil=>exact .nil
 | @cons p q ps qs h t ih =>
  rw [List.map_cons,List.map_cons]
  refine .cons ?_ ih
  obtain⟨h1,h2⟩:=h
  by_cases e:p.1=k
  ·rw [if_pos e,if_pos (h1.symm.trans e)];exact⟨h1,ry⟩
  ·rw [if_neg e,if_neg (fun z=>e (h1.trans z))];exact⟨h1,h2⟩
theorem KV.put {kvs:List (κ × V)} {vs:List (κ × Value)} (r:KV kvs vs) (k:κ) {y:V} {u:Value} (ry:RelV y u):KV (putK kvs k y) (stored vs k u):=by
 unfold putK stored
 rw [r.any k]
 by_cases e:(vs.any fun kv=>decide (kv.1=k))=true
 ·rw [if_pos e,if_pos e];exact r.Bu k ry
 ·rw [if_neg e,if_neg e];exact Paired.snoc r ⟨rfl,ry⟩
theorem KV.length {kvs:List (κ × V)} {vs:List (κ × Value)} (r:KV kvs vs):kvs.length=vs.length:=Paired.length r
theorem oI (kvs:List (κ × V)) (k:κ):(bL kvs k).length≤kvs.length:=List.length_filter_le _ _
end
theorem lW {P:Program} {w:World} {k:Key} {u:Value} (r:RelV (kV k) u):(bF P w).is k u=true:=by
 cases k with
 | inl i=>obtain⟨t,e⟩:=(show ∃ t,u=Value.int i t from r);subst e;exact pe P w i t
 | inr x=>obtain⟨t,e⟩:=(show ∃ t,u=Value.str x t from r);subst e;exact pf P w x t
theorem lV {P:Program} {w:World}:∀{ks:List Key} {us:List Value},Vals (ks.map kV) us→ItemsAre (bF P w) ks us
 | [],_,r=>by rw [List.map_nil] at r;cases r;exact .nil
 | k::ks,_,r=>by
  rw [List.map_cons] at r
  cases r with
  | cons h t=>exact .cons (lW h) (lV t)
abbrev KT (H:Hp):List (List Key × V)→List (List Key × Addr × Value)→Prop:=Paired fun p q=>p.1=q.1∧H q.2.1=some (.tup (p.1.map kV))∧RelV p.2 q.2.2
theorem KT.val {H:Hp} {kvs:List (List Key × V)} {xs:List (List Key × Addr × Value)} (r:KT H kvs xs) (k:List Key):fC (bV kvs k) ((atKey xs k).map (·.2)):=by
 induction r with
 | nil=>exact True.intro
 | @cons p q ps qs h t ih =>
  obtain⟨h1,_,h2⟩:=h
  by_cases e:p.1=k
  ·have e':q.1=k:=h1.symm.trans e
   have b:atKey (q::qs) k=some q.2:=by simp [atKey,List.find?_cons,e']
   rw [b7 e,b];exact h2
  ·have e':¬q.1=k:=fun z=>e (h1.trans z)
   have b:atKey (q::qs) k=atKey qs k:=by simp [atKey,List.find?_cons,e']
   rw [bR e,b];exact ih
theorem KT.Bu {H:Hp} {kvs:List (List Key × V)} {xs:List (List Key × Addr × Value)} (r:KT H kvs xs) (k:List Key) {y:V} {u:Value} (ry:RelV y u) :
  KT H (kvs.map fun kv=>if kv.1=k then (kv.1,y) else kv) (xs.map (putAt k u)):=by
 induction r with
 | nil=>exact .nil
 | @cons p q ps qs h t ih =>
  rw [List.map_cons,List.map_cons]
  refine .cons ?_ ih
  obtain⟨h1,h2,h3⟩:=h
  unfold putAt
  by_cases e:p.1=k
  ·rw [if_pos e,if_pos (h1.symm.trans e)];exact⟨h1,h2,ry⟩
  ·rw [if_neg e,if_neg (fun z=>e (h1.trans z))];exact⟨h1,h2,h3⟩
theorem KT.put {H:Hp} {kvs:List (List Key × V)} {xs:List (List Key × Addr × Value)} (r:KT H kvs xs) (k:List Key) {b:Addr} {y:V} {u:Value} (hb:H b=some (.tup (k.map kV))) (ry:RelV y u) :
  KT H (putK kvs k y) (storedH xs k b u):=by
 have e:(kvs.any fun kv=>decide (kv.1=k))=(atKey xs k).isSome:=by
  rw [lj,(r.val k).eK,Option.isSome_map]
 unfold putK storedH
 rw [e]
 by_cases q:(atKey xs k).isSome=true
 ·rw [if_pos q,if_pos q];exact r.Bu k ry
 ·rw [if_neg q,if_neg q];exact Paired.snoc r ⟨rfl,hb,ry⟩
theorem KT.keeps {H H':Hp} {kvs:List (List Key × V)} {xs:List (List Key × Addr × Value)} (r:KT H kvs xs) (ht:∀ b ys,H b=some (.tup ys)→H' b=some (.tup ys)):KT H' kvs xs :=
 Paired.A6 r fun _ _ z=>⟨z.1,ht _ _ z.2.1,z.2.2⟩
section
variable {P:Program} {w:World} {H:Hp} {h:Heap} {a:Addr}
theorem Ai {u:HO} (ok:fG P w H h) (e:Rd H a u):br P w H h a u:=e.ok ok
theorem j8 {kvs:List (Key × V)} (ok:fG P w H h) (e:Rd H a (.dK kvs)):kvs.length≤sizeLine∧(a==sysModules)=false∧∃ vs,KV kvs vs∧h.DictOf (bF P w) a vs :=
 show br P w H h a (.dK kvs) from Ai ok e
theorem zX {kvs:List (Key × V)} (ok:fG P w H h) (e:H a=some (.dK kvs)):kvs.length≤sizeLine∧(a==sysModules)=false∧∃ vs,KV kvs vs∧h.DictOf (bF P w) a vs:=j8 ok (.inl e)
theorem i5 {ks:List Key} (ok:fG P w H h) (e:H a=some (.tup (ks.map kV))):(tupleKind (bF P w)).is h ks a:=by
 obtain⟨_,its,r,o,h1,h2,n,h3⟩:=(show br P w H h a (.tup (ks.map kV)) from ok a _ e)
 exact⟨o,its.toArray,n,h1,h2,h3,by simpa using lV r⟩
theorem lS {kvs:List (List Key × V)} (ok:fG P w H h) (e:Rd H a (.dT kvs)):kvs.length≤sizeLine∧(a==sysModules)=false ∧
  ∃ xs,KT H kvs xs∧h.DictOfH (tupleKind (bF P w)) a xs:=by
 obtain⟨z,y,xs,r,o,es,ep,h1,h2,h3,h4,h5⟩:=(show br P w H h a (.dT kvs) from Ai ok e)
 refine⟨z,y,xs,r,o,es,ep,h1,h2,h3,h4,fun x hx=>?_,h5⟩
 have all:∀{l:List (List Key × V)} {m:List (List Key × Addr × Value)},KT H l m→∀ x∈m,(tupleKind (bF P w)).is h x.1 x.2.1:=by
  intro l m q
  induction q with
  | nil=>intro x hx;exact nomatch hx
  | @cons p q ps qs hq t ih =>
   intro x hx
   rcases List.mem_cons.mp hx with e | hx
   ·subst e
    exact i5 ok (by rw [← hq.1];exact hq.2.1)
   ·exact ih x hx
 exact all r x hx
theorem zY {kvs:List (List Key × V)} (ok:fG P w H h) (e:H a=some (.dT kvs)):kvs.length≤sizeLine∧(a==sysModules)=false ∧
  ∃ xs,KT H kvs xs∧h.DictOfH (tupleKind (bF P w)) a xs:=lS ok (.inl e)
end
def eI (H:Hp) (a:Addr) (y:V) (r:Option V):Prop :=
 (∃ kvs k,Rd H a (.dK kvs)∧y=kV k∧r=bV kvs k)∨∃ kvs k b,Rd H a (.dT kvs)∧y=.ref b∧H b=some (.tup (k.map kV))∧r=bV kvs k
def lr (H:Hp) (a:Addr) (y v:V) (H':Hp):Prop :=
 (∃ kvs k,H a=some (.dK kvs)∧y=kV k∧kvs.length<sizeLine∧H'=upd H a (.dK (putK kvs k v))) ∨
 ∃ kvs k b,H a=some (.dT kvs)∧y=.ref b∧H b=some (.tup (k.map kV))∧kvs.length<sizeLine∧H'=upd H a (.dT (putK kvs k v))
theorem eI.k {H:Hp} {a:Addr} {kvs:List (Key × V)} {k:Key} (e:H a=some (.dK kvs)):eI H a (kV k) (bV kvs k):=.inl ⟨kvs,k,.inl e,rfl,rfl⟩
theorem eI.t {H:Hp} {a b:Addr} {kvs:List (List Key × V)} {k:List Key} (e:H a=some (.dT kvs)) (eb:H b=some (.tup (k.map kV))):eI H a (.ref b) (bV kvs k):=.inr ⟨kvs,k,b,.inl e,rfl,eb,rfl⟩
theorem lr.k {H:Hp} {a:Addr} {kvs:List (Key × V)} {k:Key} {v:V} (e:H a=some (.dK kvs)) (hl:kvs.length<sizeLine):lr H a (kV k) v (upd H a (.dK (putK kvs k v))):=.inl ⟨kvs,k,e,rfl,hl,rfl⟩
theorem lr.t {H:Hp} {a b:Addr} {kvs:List (List Key × V)} {k:List Key} {v:V} (e:H a=some (.dT kvs)) (eb:H b=some (.tup (k.map kV))) (hl:kvs.length<sizeLine) :
  lr H a (.ref b) v (upd H a (.dT (putK kvs k v))):=.inr ⟨kvs,k,b,e,rfl,eb,hl,rfl⟩
section
variable {X:Cx} {pins:List (Addr × Obj)} {σ:St} {H:Hp} {s:Shared} {a:Addr} {y v:V} {u r:Value} {o:Option V} {A:Around} {E:Value→Shared→Prop}
theorem Inv.big (I:Inv X pins σ H s):sysModules<s.heap.objs.size:=by
 have h:mainGlobals<s.heap.objs.size:=(I.mod.glob.keeps I.bk).lt
 exact Nat.lt_trans (by decide) h
theorem tU {Q:Value→Shared→Prop} (hu:A.units+1<cLine) (I:Inv X pins σ H s) (g:eI H a y (some v)) (ry:RelV y u) (h:∀ w' s',Inv X pins σ H s'→RelV v w'→Q w' s') :
  wpAny (model X.prog X.w) A (getItem (.ref a) u) Q E s:=by
 rcases g with⟨kvs,k,e,ey,l⟩|⟨kvs,k,b,e,ey,eb,l⟩
 ·subst ey
  obtain⟨z,hd,vs,rel,dd⟩:=j8 I.hok e
  obtain⟨w',hw,rw'⟩:=fC.some_of (v:=v) (o:=valueAt vs k) (by rw [l];exact rel.val k)
  exact wpAny_getItem_of (lW ry) dd.mapOf hw (h w' _ (I.tok _) rw')
 ·subst ey
  cases (show u=Value.ref b from ry)
  obtain⟨z,hd,xs,rel,dd⟩:=lS I.hok e
  obtain⟨w',hw,rw'⟩:=fC.some_of (v:=v) (o:=(atKey xs k).map (·.2)) (by rw [l];exact rel.val k)
  obtain⟨p,hp,hp2⟩:=Option.map_eq_some_iff.mp hw
  refine wpAny_getItem_heap (tupleKind_room_in1 hu) (i5 I.hok eb) dd hp ?_
  rw [hp2]
  exact h w' _ (I.tok _) rw'
theorem Dc {Q:Value→Shared→Prop} (hu:A.units+1<cLine) (I:Inv X pins σ H s) (g:eI H a y o) (ry:RelV y u) (h:∀ s',Inv X pins σ H s'→Q (.bool o.isSome) s') :
  wpAny (model X.prog X.w) A (compareOp .In u (.ref a)) Q E s:=by
 rcases g with⟨kvs,k,e,ey,l⟩|⟨kvs,k,b,e,ey,eb,l⟩
 ·subst ey
  obtain⟨z,hd,vs,rel,dd⟩:=j8 I.hok e
  refine wpAny_in_of (lW ry) hd dd.mapOf ?_
  rw [← (rel.val k).eK,← l]
  exact h _ (I.tok _)
 ·subst ey
  cases (show u=Value.ref b from ry)
  obtain⟨z,hd,xs,rel,dd⟩:=lS I.hok e
  refine wpAny_in_heap (tupleKind_room_in1 hu) (i5 I.hok eb) hd dd ?_
  have q:=(rel.val k).eK
  rw [Option.isSome_map] at q
  rw [← q,← l]
  exact h _ (I.tok _)
theorem yD {Q:Value→Shared→Prop} (hu:A.units+1<cLine) (I:Inv X pins σ H s) (g:eI H a y o) (ry:RelV y u) (h:∀ s',Inv X pins σ H s'→Q (.bool (!o.isSome)) s') :
  wpAny (model X.prog X.w) A (compareOp .NotIn u (.ref a)) Q E s:=by
 rcases g with⟨kvs,k,e,ey,l⟩|⟨kvs,k,b,e,ey,eb,l⟩
 ·subst ey
  obtain⟨z,hd,vs,rel,dd⟩:=j8 I.hok e
  refine wpAny_notIn_of (lW ry) hd dd.mapOf ?_
  rw [← (rel.val k).eK,← l]
  exact h _ (I.tok _)
 ·subst ey
  cases (show u=Value.ref b from ry)
  obtain⟨z,hd,xs,rel,dd⟩:=lS I.hok e
  refine wpAny_notIn_heap (tupleKind_room_in1 hu) (i5 I.hok eb) hd dd ?_
  have q:=(rel.val k).eK
  rw [Option.isSome_map] at q
  rw [← q,← l]
  exact h _ (I.tok _)
theorem jJ {h':Heap} {t':Nat} {ob:HO} (I:Inv X pins σ H s) (mu:B4 (H a)) (hs:Heap.SameBut a s.heap h') (he:∃ q,h'.get? a=some q) (new:br X.prog X.w (upd H a ob) h' a ob) :
  Inv X pins σ (upd H a ob) { s with heap:=h',toks:=t' } :=
 I.write (x:=a) (e:=a) mu (.inl rfl) (fun b q hb z=>(hs.2 b hb).trans z) he new
theorem vC {P:Program} {w:World} {H':Hp} {h':Heap} {kvs:List (Key × V)} {vs:List (Key × Value)} (z:kvs.length≤sizeLine) (hd:(a==sysModules)=false) (rel:KV kvs vs) (dd:h'.DictOf (bF P w) a vs) :
  br P w H' h' a (.dK kvs):=⟨z,hd,vs,rel,dd⟩
theorem tV {H':Hp} {Q:Unit→Shared→Prop} (hu:A.units+1<cLine) (I:Inv X pins σ H s) (g:lr H a y v H') (ry:RelV y u) (rv:RelV v r) (h:∀ s',Inv X pins σ H' s'→Q () s') :
  wpAny (model X.prog X.w) A (setItem (.ref a) u r) Q E s:=by
 rcases g with⟨kvs,k,e,ey,l,eH⟩|⟨kvs,k,b,e,ey,eb,l,eH⟩
 ·subst ey eH
  obtain⟨z,hd,vs,rel,dd⟩:=zX I.hok e
  have hz:vs.length≤sizeLine:=by rw [← rel.length];exact z
  have hl:(putK kvs k v).length≤sizeLine:=by have:=fM kvs k v;omega
  refine wpAny_setItem_pairs (hsz:=hz) (lW ry) dd fun h' dd' hs=>h _ ?_
  have he:∃ q,h'.get? a=some q:=let ⟨q,_,_,hq,_⟩:=dd';⟨q,hq⟩
  exact jJ I (by rw [e];exact True.intro) hs he (vC hl hd (rel.put k rv) dd')
 ·subst ey eH
  cases (show u=Value.ref b from ry)
  obtain⟨z,hd,xs,rel,dd⟩:=zY I.hok e
  have hz:xs.length≤sizeLine:=by rw [← Paired.length rel];exact z
  have hl:(putK kvs k v).length≤sizeLine:=by have:=fM kvs k v;omega
  refine wpAny_setItem_heap (hsz:=hz) (tupleKind_room_in1 hu) (i5 I.hok eb) dd fun h' dd' hs=>h _ ?_
  obtain⟨q,es,ep,hq,h2,h3,h4,_,h5⟩:=dd'
  refine jJ I (by rw [e];exact True.intro) hs ⟨q,hq⟩ ⟨hl,hd,_,(rel.put k eb rv).keeps fun c ys ec=>?_,q,es,ep,hq,h2,h3,h4,h5⟩
  rw [au (gH ec e (fun z=>nomatch z))]
  exact ec
end
section
variable {X:Cx} {pins:List (Addr × Obj)} {σ:St} {H:Hp} {s:Shared} {a:Addr} {kvs:List (Key × V)} {k:Key} {u:Value} {A:Around} {E:Value→Shared→Prop}
theorem Cb {Q:Value→Shared→Prop} (I:Inv X pins σ H s) (e:Rd H a (.dK kvs)) (h:∀ t s',Inv X pins σ H s'→Q (.int kvs.length t) s'):wpAny (model X.prog X.w) A (call (.builtin "len") [.ref a]) Q E s:=by
 obtain⟨z,hd,vs,rel,dd⟩:=j8 I.hok e
 refine call_len_dict hd dd (by rw [← rel.length];rw [sizeLine_eq] at z;omega) ?_
 rw [← rel.length]
 exact h _ _ (I.tok _)
end
def B5 (i:Expr):Prop:=∀ ov iv,subscripted i false ov iv=operate [ov,iv] (getItem ov iv)
theorem zI {prog:Program} {w:World} {A:Around} {E:Value→Shared→Prop} {s:Shared} {env:Env} {value slice:Expr} {pos:Pos} {T id:String} {Q:Value→Shared→Prop}
  (hl:typeLookup (.type T) "__getitem__"=pure (some (.builtin id))) (hs:B5 slice)
  (h:wpAny (model prog w) A (eval value env) (fun o s₁=>wpAny (model prog w) A (eval slice env) (fun i s₂=>s₂.TypeIs o T∧wpAny (model prog w) A (getItem o i) Q E s₂) E s₁) E s) :
  wpAny (model prog w) A (eval (.Subscript value slice pos) env) Q E s:=by
 refine Subscript_ (wpAny_mono h (fun o s₁ h₁=>wpAny_mono h₁ (fun i s₂ h₂=>?_) fun _ _ x=>x) fun _ _ x=>x)
 obtain⟨hT,h₂⟩:=h₂
 unfold subscriptTail
 refine wpAny_bind ?_
 rw [getitemInPython_of_ne hT.not_modules]
 refine wpAny_bind (wpAny_specialOf hT hl ?_)
 have fin:wpAny (model prog w) A (subscripted slice false o i) (fun r s₃=>wpAny (model prog w) A (letTemporaryGo value o r >>= fun _=>pure r) Q E s₃) E s₂:=by
  rw [hs o i]
  exact wpAny_operating (wpAny_mono h₂ (fun r s₃ h₃=>wpAny_bind (wpAny_letTemporaryGo (wpAny_pure h₃))) fun _ _ x=>x)
 first
  | exact wpAny_pure (wpAny_bind fin)
  | exact wpAny_bind (wpAny_pure (wpAny_bind fin))
  | exact wpAny_bind fin
theorem oG {X:Cx} {pins:List (Addr × Obj)} {σ:St} {H:Hp} {s:Shared} {a:Addr} {y:V} {o:Option V} (I:Inv X pins σ H s) (g:eI H a y o):s.TypeIs (.ref a) "dict":=by
 rcases g with⟨kvs,k,e,_,_⟩|⟨kvs,k,b,e,_,_,_⟩
 ·obtain⟨_,_,vs,_,dd⟩:=j8 I.hok e
  exact dd.typeIs
 ·obtain⟨_,_,xs,_,dd⟩:=lS I.hok e
  exact dd.typeIs
def xU (td ty:TE):TE:=fun σ H Q=>td σ H fun x H1=>ty σ H1 fun y H2=>∃ a v,x=.ref a∧eI H2 a y (some v)∧Q v H2
def BD (ty td:TE):TE:=fun σ H Q=>ty σ H fun y H1=>td σ H1 fun x H2=>∃ a o,x=.ref a∧eI H2 a y o∧Q (.bl o.isSome) H2
def nQ (ty td:TE):TE:=fun σ H Q=>ty σ H fun y H1=>td σ H1 fun x H2=>∃ a o,x=.ref a∧eI H2 a y o∧Q (.bl (!o.isSome)) H2
def xC (td ty tv:TE):TS:=fun D σ H=>tv σ H fun v H1=>td σ H1 fun x H2=>ty σ H2 fun y H3=>∃ a H4,x=.ref a∧lr H3 a y v H4∧D.nx σ H4
section
variable {X:Cx} {o i e value:Expr} {pos pos' tpos:Pos} {td ty tv:TE}
theorem gp (hu:X.A.units+1<cLine) (ho:PE X o td) (hi:PE X i ty) (hs:B5 i):PE X (.Subscript o i pos) (xU td ty):=by
 intro pins s σ H Q I h
 refine zI PySem.F.slot_dict_getitem.lookup hs (bo (ho pins s σ H _ I h) fun u s1 ⟨x,H1,I1,rx,q1⟩=>bo (hi pins s1 σ H1 _ I1 q1) fun iv s2 ⟨y,H2,I2,ry,a,v,ex,g,q2⟩=>?_)
 subst ex
 obtain rfl:u=Value.ref a:=rx
 exact⟨oG I2 g,tU hu I2 g ry fun w' s3 I3 rw'=>⟨v,H2,I3,rw',q2⟩⟩
theorem Bl (hu:X.A.units+1<cLine) (hi:PE X i ty) (ho:PE X o td):PC X .In i o (BD ty td):=by
 intro pins s σ H Q I h
 refine bo (hi pins s σ H _ I h) fun iv s1 ⟨y,H1,I1,ry,q1⟩=>bo (ho pins s1 σ H1 _ I1 q1) fun u s2 ⟨x,H2,I2,rx,a,ov,ex,g,q2⟩=>?_
 subst ex
 obtain rfl:u=Value.ref a:=rx
 exact Dc hu I2 g ry fun s3 I3=>⟨.bl ov.isSome,H2,I3,rfl,q2⟩
theorem uJ (hu:X.A.units+1<cLine) (hi:PE X i ty) (ho:PE X o td):PC X .NotIn i o (nQ ty td):=by
 intro pins s σ H Q I h
 refine bo (hi pins s σ H _ I h) fun iv s1 ⟨y,H1,I1,ry,q1⟩=>bo (ho pins s1 σ H1 _ I1 q1) fun u s2 ⟨x,H2,I2,rx,a,ov,ex,g,q2⟩=>?_
 subst ex
 obtain rfl:u=Value.ref a:=rx
 exact yD hu I2 g ry fun s3 I3=>⟨.bl (!ov.isSome),H2,I3,rfl,q2⟩
theorem iB (hu:X.A.units+1<cLine) (ho:PE X o td) (hi:PE X i ty) (hv:PE X value tv) (hs:swapsWith value (some (.Subscript o i pos')) pos.line X.env=pure false) :
  PS X (.Assign [.Subscript o i pos'] value pos) (xC td ty tv):=by
 intro pins s σ H D I h
 refine wpAny_Assign_Subscript (bo (hv pins s σ H _ I h) fun r s1 ⟨v,H1,I1,rv,q1⟩=>bo (ho pins s1 σ H1 _ I1 q1) fun u s2 ⟨x,H2,I2,rx,q2⟩=>bo (hi pins s2 σ H2 _ I2 q2) fun iv s3 ⟨y,H3,I3,ry,a,H4,ex,g,q3⟩=>?_) hs
 subst ex
 obtain rfl:u=Value.ref a:=rx
 exact tV hu I3 g ry rv fun s4 I4=>⟨σ,H4,I4,q3⟩
end
theorem oH {P:Program} {w:World} {H:Hp} (h:Heap) (hb:sysModules<h.objs.size):br P w H (h.push { cls:=.type "dict",data:=.dict #[] }) h.objs.size (.dK []) :=
 ⟨Nat.zero_le _,beq_eq_false_iff_ne.mpr (Ne.symm (Nat.ne_of_lt hb)),[],.nil,Heap.DictOf.new h⟩
theorem vD {P:Program} {w:World} {H:Hp} (h:Heap) (hb:sysModules<h.objs.size):br P w H (h.push { cls:=.type "dict",data:=.dict #[] }) h.objs.size (.dT []) :=
 ⟨Nat.zero_le _,beq_eq_false_iff_ne.mpr (Ne.symm (Nat.ne_of_lt hb)),[],.nil,_,#[],0,Heap.get?_push_size _ rfl,⟨rfl,rfl,rfl⟩,rfl,rfl,List.nodup_nil⟩
def rE:TE:=fun _ H Q=>∀ p,H p=none→Q (.ref p) (upd H p (.dK []))
def rF:TE:=fun _ H Q=>∀ p,H p=none→Q (.ref p) (upd H p (.dT []))
section
variable {X:Cx} {pos:Pos}
theorem wO:PE X (.Dict [] [] pos) rE:=fun pins s σ H Q I h =>
 wpAny_Dict_empty ⟨.ref s.heap.objs.size,_,I.laid (a:=s.heap.objs.size) (o:=.dK []) (t':=s.toks) (fun _ _ q=>Heap.get?_push_of_some _ q) (Nat.le_refl _) (oH s.heap I.big),rfl,h _ (I.hok.fresh (Nat.le_refl _))⟩
theorem wQ:PE X (.Dict [] [] pos) rF:=fun pins s σ H Q I h =>
 wpAny_Dict_empty ⟨.ref s.heap.objs.size,_,I.laid (a:=s.heap.objs.size) (o:=.dT []) (t':=s.toks) (fun _ _ q=>Heap.get?_push_of_some _ q) (Nat.le_refl _) (vD s.heap I.big),rfl,h _ (I.hok.fresh (Nat.le_refl _))⟩
end
def lh:List (TE × TE)→St→Hp→(List (V × V)→Hp→Prop)→Prop
 | [],_,H,Q=>Q [] H
 | (tk,tv)::r,σ,H,Q=>tk σ H fun x H1=>tv σ H1 fun y H2=>lh r σ H2 fun ps H3=>Q ((x,y)::ps) H3
abbrev VV:List (V × V)→List (Value × Value)→Prop:=Paired fun p q=>RelV p.1 q.1∧RelV p.2 q.2
def CO (X:Cx) (pos:Pos) (keys:List (Option Expr)) (values:List Expr) (trs:List (TE × TE)):Prop :=
 ∀(pins:List (Addr × Obj)) (s:Shared) (σ:St) (H:Hp) (Q:List (V × V)→Hp→Prop),Inv X pins σ H s→lh trs σ H Q →
  wpAny (model X.prog X.w) X.A (evalPairs (pairTrees keys values X.env pos)) (fun vs s'=>∃ ps H',Inv X pins σ H' s'∧VV ps vs∧Q ps H') X.xe s
theorem zz {X:Cx} {pos:Pos}:CO X pos [] [] []:=fun pins s σ H Q I h=>pairTrees_nil_walk ⟨[],H,I,.nil,h⟩
theorem kO {X:Cx} {pos:Pos} {k v:Expr} {ks:List (Option Expr)} {vs:List Expr} {tk tv:TE} {trs:List (TE × TE)} (hk:PE X k tk) (hv:PE X v tv) (hr:CO X pos ks vs trs) :
  CO X pos (some k::ks) (v::vs) ((tk,tv)::trs):=fun pins s σ H Q I h =>
 pairTrees_cons_walk (bo (hk pins s σ H _ I h) fun u s1 ⟨x,H1,I1,rx,q1⟩=>bo (hv pins s1 σ H1 _ I1 q1) fun w2 s2 ⟨y,H2,I2,ry,q2⟩ =>
  bo (hr pins s2 σ H2 _ I2 q2) fun ws s3 ⟨ps,H3,I3,rel,q3⟩=>⟨(x,y)::ps,H3,I3,.cons ⟨rx,ry⟩ rel,q3⟩)
def kE (kvs more:List (Key × V)):List (Key × V):=more.foldl (fun acc kv=>putK acc kv.1 kv.2) kvs
theorem KV.merge:∀{more:List (Key × V)} {rs:List (Key × Value)} {kvs:List (Key × V)} {vs:List (Key × Value)},KV more rs→KV kvs vs→KV (kE kvs more) (merged vs rs):=by
 intro more rs kvs vs r
 unfold KV at r
 induction r generalizing kvs vs with
 | nil=>intro q;exact q
 | @cons p q ps qs h t ih =>
  intro r0
  have e:KV (putK kvs p.1 p.2) (stored vs q.1 q.2):=by
   have:=r0.put p.1 h.2
   rw [← h.1];exact this
  exact ih e
theorem gG:∀(more kvs:List (Key × V)),(kE kvs more).length≤kvs.length+more.length
 | [],kvs=>by show kvs.length≤kvs.length+0;omega
 | p::r,kvs=>by
  have h1:=gG r (putK kvs p.1 p.2)
  have h2:=fM kvs p.1 p.2
  show (kE (putK kvs p.1 p.2) r).length≤_
  rw [List.length_cons];omega
theorem j7 {P:Program} {w:World}:∀{kvs:List (Key × V)} {ws:List (Value × Value)},VV (kvs.map fun kv=>(kV kv.1,kv.2)) ws→∃ rs,Carries (bF P w) ws rs∧KV kvs rs
 | [],_,r=>by rw [List.map_nil] at r;cases r;exact⟨[],True.intro,.nil⟩
 | p::kvs,_,r=>by
  rw [List.map_cons] at r
  cases r with
  | @cons a b as bs h t =>
   obtain⟨rs,c,q⟩:=j7 (P:=P) (w:=w) t
   obtain⟨b1,b2⟩:=b
   exact⟨(p.1,b2)::rs,⟨lW h.1,rfl,c⟩,.cons ⟨rfl,h.2⟩ q⟩
def xV (trs:List (TE × TE)):TE:=fun σ H Q=>∀ p,H p=none→lh trs σ (upd H p (.dK [])) fun ps H2=>H2 p=some (.dK [])∧∃ kvs:List (Key × V),ps=kvs.map (fun kv=>(kV kv.1,kv.2))∧kvs.length≤15∧Q (.ref p) (upd H2 p (.dK (kE [] kvs)))
theorem zp {X:Cx} {pos:Pos} {keys:List (Option Expr)} {values:List Expr} {trs:List (TE × TE)} (h:CO X pos keys values trs) (hall:keys.all (·.isSome)=true) (hl:keys.length=values.length) (h0:keys≠[])
  (h15:keys.length≤15):PE X (.Dict keys values pos) (xV trs):=by
 intro pins s σ H Q I q
 have hn:=I.hok.fresh (Nat.le_refl s.heap.objs.size)
 have I1:=I.laid (a:=s.heap.objs.size) (o:=.dK []) (h':=s.heap.push { cls:=.type "dict",data:=.dict #[] }) (t':=s.toks) (fun _ _ q=>Heap.get?_push_of_some _ q) (Nat.le_refl _) (oH s.heap I.big)
 refine wpAny_Dict_walk (knd:=bF X.prog X.w) hall hl h0 h15 (bo (h pins _ σ _ _ I1 (q _ hn)) fun ws s2 ⟨ps,H2,I2,rel,e,kvs,ep,lk,q2⟩=>?_)
 subst ep
 obtain⟨rs,c,rk⟩:=j7 (P:=X.prog) (w:=X.w) rel
 obtain⟨z,hd,vs0,r0,dd⟩:=zX I2.hok e
 cases r0
 refine⟨rs,c,dd,fun h' dd' hs=>⟨.ref s.heap.objs.size,_,?_,rfl,q2⟩⟩
 have hz:(kE [] kvs).length≤sizeLine:=by
  have h1:=gG kvs []
  rw [List.length_nil] at h1
  rw [sizeLine_eq];omega
 have he:∃ q,h'.get? s.heap.objs.size=some q:=let ⟨q,_,_,hq,_⟩:=dd';⟨q,hq⟩
 exact jJ I2 (by rw [e];exact True.intro) hs he (vC hz hd (rk.merge .nil) dd')
structure M1 (X:Cx) (o:Expr) (m:Str) (apos:Pos) (e:Expr) (cpos:Pos):Prop where
 base:attributeBase o m X.env (eval o X.env)=eval o X.env
 yo:((backTo cpos (starEach [e] X.env)).all (fun x=>!x.1) && (backToKw cpos (keywordEach [] X.env)).all (fun x=>x.1.isSome)
  && decide (([e]:List Expr).length+([]:List Keyword).length+(if ([]:List Keyword).isEmpty then 0 else 1)<30))=true
 line:(apos.endLine==cpos.line)=true
 trees:backTo cpos (starEach [e] X.env)=[(false,eval e X.env)]
structure M2 (X:Cx) (o:Expr) (m:Str) (apos:Pos) (e f:Expr) (cpos:Pos):Prop where
 base:attributeBase o m X.env (eval o X.env)=eval o X.env
 yo:((backTo cpos (starEach [e,f] X.env)).all (fun x=>!x.1) && (backToKw cpos (keywordEach [] X.env)).all (fun x=>x.1.isSome)
  && decide (([e,f]:List Expr).length+([]:List Keyword).length+(if ([]:List Keyword).isEmpty then 0 else 1)<30))=true
 line:(apos.endLine==cpos.line)=true
 trees:backTo cpos (starEach [e,f] X.env)=[(false,eval e X.env),(false,eval f X.env)]
def DE (H:Hp) (a:Addr):Prop:=(∃ kvs,Rd H a (.dK kvs))∨∃ kvs,Rd H a (.dT kvs)
theorem AW {X:Cx} {pins:List (Addr × Obj)} {σ:St} {H:Hp} {s:Shared} {a:Addr} (I:Inv X pins σ H s) (d:DE H a) :
  s.TypeIs (.ref a) "dict"∧(∀ b,Value.ref a=.ref b→∃ ob,s.heap.get? b=some ob∧ob.dict=none)∧(a==sysModules)=false:=by
 rcases d with⟨kvs,e⟩|⟨kvs,e⟩
 ·obtain⟨_,hd,vs,_,dd⟩:=j8 I.hok e
  refine⟨dd.typeIs,fun b q=>?_,hd⟩
  cases q
  obtain⟨ob,_,_,h1,h2,_⟩:=dd
  exact⟨ob,h1,h2.2.1⟩
 ·obtain⟨_,hd,xs,_,dd⟩:=lS I.hok e
  refine⟨dd.typeIs,fun b q=>?_,hd⟩
  cases q
  obtain⟨ob,_,_,h1,h2,_⟩:=dd
  exact⟨ob,h1,h2.2.1⟩
section
variable {X:Cx} {pins:List (Addr × Obj)} {σ:St} {H:Hp} {s:Shared} {a:Addr} {y d:V} {u r:Value} {o:Option V} {A:Around} {E:Value→Shared→Prop}
end
section
variable {X:Cx} {o e f:Expr} {apos cpos:Pos} {td ty tx:TE}
end
section
variable {X:Cx} {pins:List (Addr × Obj)} {σ:St} {H:Hp} {s:Shared} {a:Addr} {kvs:List (Key × V)} {A:Around} {E:Value→Shared→Prop}
end
section
variable {X:Cx} {pins:List (Addr × Obj)} {σ:St} {H:Hp} {s:Shared} {a:Addr} {y:V} {u:Value} {A:Around} {E:Value→Shared→Prop}
end
end L2
namespace L2
open PySem PySem.Spec PyProof.Rows
def D8 (l:Int) (b:Bool):HO:=.dK [(Sum.inr "left",.int l),(Sum.inr "free",.bl b)]
def D7 (l:Int) (b:Bool):Prop:=b=true∨(0≤l∧l<2147483647)
def Up (p:Addr) (b:Bool) (H H':Hp):Prop:=∃ l,D7 l b∧H'=upd H p (D8 l b)
section
variable {K:PySem.W.Frag} {H H':Hp}
theorem bD.fy {a:Addr} {xs:List V} (k:∀ a xs,Rd H a (.tup xs)→Rd H' a (.tup xs)) (h:bD K H a xs):bD K H' a xs:=h.imp (fun z=>k _ _ z) id
mutual
theorem dv.fy (k:∀ a xs,Rd H a (.tup xs)→Rd H' a (.tup xs)):∀(d:PyData) {v:V},vd d=true→dv K H d v→dv K H' d v
 | .none,_,_,h=>h
 | .bool _,_,_,h=>h
 | .int _,_,_,h=>h
 | .str _,_,_,h=>h
 | .list ds,_,z,_=>by cases z
 | .tuple ds,_,z,⟨q,xs,e,h,t⟩=>⟨q,xs,e,h.fy k,aQ.fy k ds z t⟩
 | .dict _,_,_,h=>h.elim
theorem aQ.fy (k:∀ a xs,Rd H a (.tup xs)→Rd H' a (.tup xs)):∀(ds:List PyData) {xs:List V},fN ds=true→aQ K H ds xs→aQ K H' ds xs
 | [],_,_,h=>h
 | d::ds,_,z,⟨x,r,e,h,t⟩=>by
  have z':vd d=true∧fN ds=true:=by simpa [fN] using z
  exact⟨x,r,e,dv.fy k d z'.1 h,aQ.fy k ds z'.2 t⟩
end
end
end L2
namespace L2
open PySem PySem.Spec PyProof.Rows
theorem xf {X:Cx} {ss:List Stmt}:gF X ss (fun _ _ _=>False):=by
 intro _ _ _ _ _ _ h
 exact False.elim h
end L2
namespace L2
open PySem PySem.Spec PyProof.Rows
theorem xc {X:Cx} {Ex:Addr→Shared→Hp→List Addr→Value→Shared→Prop} {elt target iter:Expr} {ifs:List Expr} {scope:Scope} {pos:Pos} {N':List Str} {js:List (Option Nat)} {cl:List (Str × Addr)} {wi:TI} {g:TG} {tt:TT} {te:TE} {i0:Nat} {x0:Str} {pos' pos2:Pos} (hN0:X.N.Nodup) (hi0:X.N[i0]?=some x0) (hx0:Loc X.env.scope x0) (hcalm:X.calm=true)
  (K:jZ X N' js scope cl) (hi:PI X target iter wi)
  (hg:∀ C s₂ H₂ fp,qB X C s₂ H₂ fp→PG (dP X (Ex C s₂ H₂ fp) N' scope cl C s₂ H₂ fp) target g) (ht:∀ C s₂ H₂ fp,qB X C s₂ H₂ fp→tO (dP X (Ex C s₂ H₂ fp) N' scope cl C s₂ H₂ fp) ifs tt) (he:∀ C s₂ H₂ fp,qB X C s₂ H₂ fp→PE (dP X (Ex C s₂ H₂ fp) N' scope cl C s₂ H₂ fp) elt te)
  (herr:∀ C s₂ H₂ fp use Q' acc e s',Ex C s₂ H₂ fp e s'→notedBy (model X.prog X.w) X.A (compEnvC scope (cellsFrom (C+1) scope.names cl) C X.env) (fun e s''=>compPost (model X.prog X.w) X.A X.xe use Q' acc C (.error e) s'') e s')
  (hsw:swapsWith (.ListComp elt [⟨target,iter,ifs,0⟩] scope pos) (some (.Name x0 pos')) pos2.line X.env=pure true) (hf0:X.fn x0=true∨X.env.scope.names.lookup x0=some .local)
  (hs:∀ x,foldedSetIterable iter X.env x=pure x:=by intro _;rfl):PS X (.Assign [.Name x0 pos'] (.ListComp elt [⟨target,iter,ifs,0⟩] scope pos) pos2) (uX (CQ js wi g tt te) (cQ i0)):=by
 intro pins s σ H Dn I h
 rw [exec_Assign_Name_used _ _ _ _ hsw]
 refine wpAny_bind (wpAny_standAt (wpAny_bind ?_))
 unfold evalThenUse
 refine wpAny_bind ?_
 refine wpAny_comprehension_free (use:=some (assign (.Name x0 pos') X.env)) rfl hs K.clos K.kind K.names (bo (hi pins s σ H _ I h) fun v s1 h1=>bo h1 fun itv s2 h2=>?_)
 obtain⟨H2,I2⟩:∃ H2,Inv X pins σ H2 s2:=by obtain⟨_,_,_,_,H2,_,I2,_⟩:=h2;exact⟨H2,I2⟩
 refine sj (Ex:=Ex) (Q:=fun x H1=>cQ i0 x σ H1 Dn.nx) hcalm K hg ht he herr h2 fun C D vys H4 s5 hm hDe hDleC hDC nD nC hI qn=>?_
 obtain⟨m5,hn5⟩:=hm
 have le:=Nat.le_trans hDe hDleC
 have key:Inv X pins σ (upd H4 D (.lst vys)) s5:=hI s5.heap ⟨rfl,fun _ _=>rfl⟩
 have nC':upd H4 D (.lst vys) C=none:=by rw [au (Ne.symm hDC)];exact nC
 have CL:C≠X.env.locals:=fun z=>by
  have:=I2.lt
  rw [← z] at this
  exact Nat.lt_irrefl _ (Nat.lt_of_lt_of_le this le)
 have Cfs:C∉X.fs:=fun z=>I2.yT le z
 obtain⟨oC,es,ep,gC,dC,skC,fdC⟩:=hn5
 have J1:Inv X ((C,oC)::pins) σ (upd H4 D (.lst vys)) s5:=key.gq fun p hp=>by
  rcases List.mem_cons.mp hp with z | z
  ·subst z
   exact⟨gC,nC',CL,Cfs,fun v z=>by rw [dC] at z;cases z⟩
  ·exact key.pin p (List.mem_append_right _ z)
 show wpAny _ _ (assign (.Name x0 pos') X.env (.ref D)) _ _ _
 refine PyProof.Rows.assign_Name ?_
 refine cO J1 hN0 hi0 hx0 (show RelV (.ref D) (.ref D) from rfl) (fun s6 I6=>?_) hf0
 have pC:=(I6.pin (C,oC) (List.mem_append_right _ (List.mem_cons_self ..))).1
 refine⟨m5,⟨oC,es,ep,pC,dC,skC,fdC⟩,fun h' hsb'=>?_⟩
 have I7:Inv X pins (σ.set i0 (some (.ref D))) (upd H4 D (.lst vys)) s6:=I6.gq fun p hp=>I6.pin p (List.mem_append_right _ (List.mem_cons_of_mem _ hp))
 have I8:=I7.turned (t':=s6.toks) (it:=C) (fun b o hb e=>hsb'.extBut b o hb e) nC' CL (.inr (Nat.le_trans I2.sz le))
  (fun x c e=>by
   obtain⟨v,q⟩:=I2.cell x c e
   exact Nat.ne_of_lt (Nat.lt_of_lt_of_le q.lt le))
  (fun p hp=>Nat.ne_of_lt (Nat.lt_of_lt_of_le (Heap.lt_size (I2.pin p hp).1) le))
 exact wpAny_pure (wpAny_pure ⟨_,_,I8,qn⟩)
theorem nt {X:Cx} {elt target iter:Expr} {ifs:List Expr} {scope:Scope} {pos:Pos} {N':List Str} {js:List (Option Nat)} {cl:List (Str × Addr)} {wi:TI} {g:TG} {tt:TT} {te:TE} {i0:Nat} {x0:Str} {pos' pos2:Pos} (hN0:X.N.Nodup) (hi0:X.N[i0]?=some x0) (hx0:Loc X.env.scope x0) (hcalm:X.calm=true)
  (K:jZ X N' js scope cl) (hi:PI X target iter wi)
  (hg:∀ C s₂ H₂ fp,PG (gS X N' scope cl C s₂ H₂ fp) target g) (ht:∀ C s₂ H₂ fp,tO (gS X N' scope cl C s₂ H₂ fp) ifs tt) (he:∀ C s₂ H₂ fp,PE (gS X N' scope cl C s₂ H₂ fp) elt te)
  (hsw:swapsWith (.ListComp elt [⟨target,iter,ifs,0⟩] scope pos) (some (.Name x0 pos')) pos2.line X.env=pure true) (hf0:X.fn x0=true∨X.env.scope.names.lookup x0=some .local)
  (hs:∀ x,foldedSetIterable iter X.env x=pure x:=by intro _;rfl):PS X (.Assign [.Name x0 pos'] (.ListComp elt [⟨target,iter,ifs,0⟩] scope pos) pos2) (uX (CQ js wi g tt te) (cQ i0)) :=
 xc (Ex:=fun _ _ _ _ _ _=>False) hN0 hi0 hx0 hcalm K hi (fun C s H f _=>hg C s H f) (fun C s H f _=>ht C s H f) (fun C s H f _=>he C s H f) (fun _ _ _ _ _ _ _ _ _ z=>z.elim) hsw hf0 hs
end L2
namespace L2
open PySem PySem.Spec PyProof.Rows
theorem nU (it t:Addr) (i:Nat) (items:Array Value) (x:Value) (hx:items[i]?=some x):Meets (Builtin.«tuple_iterator.__next__» ⟨[.ref it],[]⟩)
  (fun _ R s=>s.heap.IsTupleIter it t i∧s.heap.IsTuple t items∧∀ h',h'.IsTupleIter it t (i+1)→Heap.SameBut it s.heap h'→R (.ok (.ret x)) { s with heap:=h' }) :=
 .of_wp fun prog w A R s h=>by
  obtain⟨⟨o,e,c,d⟩,⟨o2,e2,c2,n2,d2⟩,q⟩:=h
  have hx':items[(i:Int).toNat]?=some x:=by simpa using hx
  wp_walk using wpAny_field (i:=0) (x:=Value.ref t) e d rfl,wpAny_field (i:=1) (x:=Value.int i 0) e d rfl,wpAny_seqItems e2 d2
  rw [hx']
  refine wpAny_bind (wpAny_setField e d (show 1<2 by decide) ?_)
  obtain⟨oc,od,odt,os⟩:=o
  cases c
  cases d
  wp_walk
  refine⟨x,rfl,q _ ⟨_,Heap.get?_update_self _ e rfl,rfl,?_⟩ (Heap.SameBut.update ..)⟩
  show Data.fields _=_
  simp [rawInt]
theorem qx (it t:Addr) (i:Nat) (items:Array Value) (hx:items[i]?=none):Meets (Builtin.«tuple_iterator.__next__» ⟨[.ref it],[]⟩)
  (fun A R s=>A.handled=none∧s.heap.IsTupleIter it t i∧s.heap.IsTuple t items∧∀ h' e,Heap.ExtBut it s.heap h'→(∃ o,h'.get? e=some o∧o.cls=.type "StopIteration")→R (.error (.ref e)) { s with heap:=h' }) :=
 .of_wp fun prog w A R s h=>by
  obtain⟨hn,⟨o,e,c,d⟩,⟨o2,e2,c2,n2,d2⟩,q⟩:=h
  have hx':items[(i:Int).toNat]?=none:=by simpa using hx
  wp_walk using wpAny_field (i:=0) (x:=Value.ref t) e d rfl,wpAny_field (i:=1) (x:=Value.int i 0) e d rfl,wpAny_seqItems e2 d2
  rw [hx']
  wp_walk using wpAny_setField e d (show 0<2 by decide)
  refine wpAny_raiseNew_none hn (q _ _ (fun b o hb e=>Heap.get?_push_of_some _ (Heap.get?_push_of_some _ ((Heap.get?_update_other _ _ (Ne.symm hb)).trans e))) ⟨_,Heap.get?_push_size _ rfl,rfl⟩)
section
variable {prog:Program} {w:World} {A:Around} {E:Value→Shared→Prop} {s:Shared} {it t:Addr} {i:Nat} {items:Array Value} {Q:Value→Shared→Prop}
theorem jF {x:Value} (h1:s.heap.IsTupleIter it t i) (h2:s.heap.IsTuple t items) (hx:items[i]?=some x) (q:∀ h',h'.IsTupleIter it t (i+1)→Heap.SameBut it s.heap h'→Q x { s with heap:=h' }) :
  wpAny (model prog w) A (Builtin.SmallTypes.nextOf (.ref it)) Q E s:=by
 have ty:s.TypeIs (.ref it) "tuple_iterator":=by obtain⟨o,e,c,_⟩:=h1;exact⟨o,e,c⟩
 unfold Builtin.SmallTypes.nextOf
 refine wpAny_bind (wpAny_callSpecial?_slot ty slot_tupleiter_next (call_meets slot_tupleiter_next ty entry_tupleiter_next (args_tupleiter_next _) (nU it t i items x hx) ⟨h1,h2,fun h' a b=>?_⟩))
 exact wpAny_pure (q h' a b)
theorem kF (hn:A.handled=none) (h1:s.heap.IsTupleIter it t i) (h2:s.heap.IsTuple t items) (hx:items[i]?=none) (q:∀ h' e,Heap.ExtBut it s.heap h'→(∃ o,h'.get? e=some o∧o.cls=.type "StopIteration")→E (.ref e) { s with heap:=h' }) :
  wpAny (model prog w) A (Builtin.SmallTypes.nextOf (.ref it)) Q E s:=by
 have ty:s.TypeIs (.ref it) "tuple_iterator":=by obtain⟨o,e,c,_⟩:=h1;exact⟨o,e,c⟩
 unfold Builtin.SmallTypes.nextOf
 exact wpAny_bind (wpAny_callSpecial?_slot ty slot_tupleiter_next (call_meets slot_tupleiter_next ty entry_tupleiter_next (args_tupleiter_next _) (qx it t i items hx) ⟨hn,h1,h2,fun h' e a b=>q h' e a b⟩))
end
inductive Sd
 | l
 | t
def Sd.It:Sd→Heap→Addr→Addr→Nat→Prop
 | .l=>Heap.IsListIter
 | .t=>Heap.IsTupleIter
def Sd.Sq:Sd→Heap→Addr→Array Value→Prop
 | .l=>Heap.IsList
 | .t=>Heap.IsTuple
def Sd.io (k:Sd) (a:Addr):Obj:=match k with
 | .l=>{ cls:=.type "list_iterator",data:=.fields #[.ref a,.int 0 0] }
 | .t=>{ cls:=.type "tuple_iterator",data:=.fields #[.ref a,.int 0 0] }
theorem Sd.It.at {k:Sd} {h h':Heap} {it a:Addr} {i:Nat} (x:k.It h it a i) (e:∀ o,h.get? it=some o→h'.get? it=some o):k.It h' it a i:=by
 cases k<;>(obtain⟨o,e1,r⟩:=x;exact⟨o,e o e1,r⟩)
theorem Sd.It.there {k:Sd} {h:Heap} {it a:Addr} {i:Nat} (x:k.It h it a i):∃ o,h.get? it=some o∧∀ v,o.data≠.cell v:=by
 cases k<;>(obtain⟨o,e1,_,d⟩:=x;exact⟨o,e1,fun v z=>by rw [d] at z;cases z⟩)
theorem Sd.Sq.at {k:Sd} {h h':Heap} {a:Addr} {xs:Array Value} (x:k.Sq h a xs) (e:∀ o,h.get? a=some o→h'.get? a=some o):k.Sq h' a xs:=by
 cases k<;>(obtain⟨o,e1,r⟩:=x;exact⟨o,e o e1,r⟩)
theorem Sd.Sq.lt {k:Sd} {h:Heap} {a:Addr} {xs:Array Value} (x:k.Sq h a xs):a<h.objs.size:=by
 cases k<;>(obtain⟨o,e1,r⟩:=x;exact Heap.lt_size e1)
theorem Sd.start (k:Sd) {h:Heap} {it a:Addr} (e:h.get? it=some (k.io a)):k.It h it a 0:=by
 cases k<;>exact⟨_,e,rfl,rfl⟩
section
variable {prog:Program} {w:World} {A:Around} {E:Value→Shared→Prop} {s:Shared} {it a:Addr} {i:Nat} {xs:Array Value} {Q:Value→Shared→Prop} {k:Sd}
theorem Sd.item {x:Value} (h1:k.It s.heap it a i) (h2:k.Sq s.heap a xs) (hx:xs[i]?=some x) (q:∀ h',k.It h' it a (i+1)→Heap.SameBut it s.heap h'→Q x { s with heap:=h' }) :
  wpAny (model prog w) A (Builtin.SmallTypes.nextOf (.ref it)) Q E s:=by
 cases k
 ·exact wpAny_nextOf_list_item h1 h2 hx q
 ·exact jF h1 h2 hx q
theorem Sd.fin (hn:A.handled=none) (h1:k.It s.heap it a i) (h2:k.Sq s.heap a xs) (hx:xs[i]?=none) (q:∀ h' e,Heap.ExtBut it s.heap h'→(∃ o,h'.get? e=some o∧o.cls=.type "StopIteration")→E (.ref e) { s with heap:=h' }) :
  wpAny (model prog w) A (Builtin.SmallTypes.nextOf (.ref it)) Q E s:=by
 cases k
 ·exact wpAny_nextOf_list_end hn h1 h2 hx q
 ·exact kF hn h1 h2 hx q
theorem Sd.iter (h2:k.Sq s.heap a xs) (q:Q (.ref s.heap.objs.size) { s with heap:=s.heap.push (k.io a) }):wpAny (model prog w) A (pyIter (.ref a)) Q E s:=by
 cases k
 ·exact wpAny_pyIter_list h2 q
 ·exact wpAny_pyIter_tuple h2 q
end
end L2
namespace L2
open PySem PySem.Spec PyProof.Rows
theorem zR (k1 k2:Sd) (l1 l2:Addr) (xs ys:Array Value):Meets (Builtin.«zip.__new__» ⟨[.type "zip",.ref l1,.ref l2],[]⟩)
  (fun _ R s=>k1.Sq s.heap l1 xs∧k2.Sq s.heap l2 ys∧∀ h',IsZip h' (s.heap.objs.size+4) (s.heap.objs.size+2) (s.heap.objs.size+3) .none→IsPair h' (s.heap.objs.size+2) (.ref s.heap.objs.size) (.ref (s.heap.objs.size+1)) →
   IsPair h' (s.heap.objs.size+3) .none .none→k1.It h' s.heap.objs.size l1 0→k2.It h' (s.heap.objs.size+1) l2 0→(∀ c o,s.heap.get? c=some o→h'.get? c=some o)→R (.ok (.ret (.ref (s.heap.objs.size+4)))) { s with heap:=h' }) :=
 .of_wp fun prog w A R s h=>by
  obtain⟨h1,h2,q⟩:=h
  have f1:=sub_zip
  have h2':k2.Sq (s.heap.push (k1.io l1)) l2 ys:=h2.at fun o e=>Heap.get?_push_of_some _ e
  wp_walk using Sd.iter h1,Sd.iter (s:={ s with heap:=s.heap.push (k1.io l1) }) h2'
  refine⟨_,rfl,?_⟩
  have e5:((((s.heap.push (k1.io l1)).push (k2.io l2)).push { cls:=.type "tuple",data:=.seq #[.ref s.heap.objs.size,.ref (s.heap.push (k1.io l1)).objs.size] }).push { cls:=.type "tuple",data:=.seq #[.none,.none] }).objs.size=s.heap.objs.size+4:=by simp only [Heap.size_push]
  have e4:(((s.heap.push (k1.io l1)).push (k2.io l2)).push { cls:=.type "tuple",data:=.seq #[.ref s.heap.objs.size,.ref (s.heap.push (k1.io l1)).objs.size] }).objs.size=s.heap.objs.size+3:=by simp only [Heap.size_push]
  have e3:((s.heap.push (k1.io l1)).push (k2.io l2)).objs.size=s.heap.objs.size+2:=by simp only [Heap.size_push]
  have e2:(s.heap.push (k1.io l1)).objs.size=s.heap.objs.size+1:=by simp only [Heap.size_push]
  show R (.ok (.ret (.ref ((((s.heap.push (k1.io l1)).push (k2.io l2)).push { cls:=.type "tuple",data:=.seq #[.ref s.heap.objs.size,.ref (s.heap.push (k1.io l1)).objs.size] }).push { cls:=.type "tuple",data:=.seq #[.none,.none] }).objs.size))) { s with heap:=((((s.heap.push (k1.io l1)).push (k2.io l2)).push { cls:=.type "tuple",data:=.seq #[.ref s.heap.objs.size,.ref (s.heap.push (k1.io l1)).objs.size] }).push { cls:=.type "tuple",data:=.seq #[.none,.none] }).push { cls:=.type "zip",data:=.fields #[.none,.bool false,.bool false,.ref ((s.heap.push (k1.io l1)).push (k2.io l2)).objs.size,.ref (((s.heap.push (k1.io l1)).push (k2.io l2)).push { cls:=.type "tuple",data:=.seq #[.ref s.heap.objs.size,.ref (s.heap.push (k1.io l1)).objs.size] }).objs.size] } }
  have g0:(s.heap.push (k1.io l1)).get? s.heap.objs.size=some (k1.io l1):=Heap.get?_push_size _ (by cases k1<;>rfl)
  have g1:((s.heap.push (k1.io l1)).push (k2.io l2)).get? (s.heap.objs.size+1)=some (k2.io l2):=by rw [← e2];exact Heap.get?_push_size _ (by cases k2<;>rfl)
  rw [e5,e4,e3,e2]
  refine q _ ?_ ?_ ?_ (k1.start (Heap.get?_push_of_some _ (Heap.get?_push_of_some _ (Heap.get?_push_of_some _ (Heap.get?_push_of_some _ g0))))) (k2.start (Heap.get?_push_of_some _ (Heap.get?_push_of_some _ (Heap.get?_push_of_some _ g1)))) fun c o e=>Heap.get?_push_of_some _ (Heap.get?_push_of_some _ (Heap.get?_push_of_some _ (Heap.get?_push_of_some _ (Heap.get?_push_of_some _ e))))
  ·exact (show _=_ from by
    have:=Heap.get?_push_size (((((s.heap.push (k1.io l1)).push (k2.io l2)).push { cls:=.type "tuple",data:=.seq #[.ref s.heap.objs.size,.ref (s.heap.objs.size+1)] }).push { cls:=.type "tuple",data:=.seq #[.none,.none] })) (o:={ cls:=.type "zip",data:=.fields #[.none,.bool false,.bool false,.ref (s.heap.objs.size+2),.ref (s.heap.objs.size+3)] }) rfl
    simp only [Heap.size_push] at this
    exact this)
  ·refine Heap.get?_push_of_some _ (Heap.get?_push_of_some _ ?_)
   have:=Heap.get?_push_size ((s.heap.push (k1.io l1)).push (k2.io l2)) (o:={ cls:=.type "tuple",data:=.seq #[.ref s.heap.objs.size,.ref (s.heap.objs.size+1)] }) rfl
   simp only [Heap.size_push] at this
   exact this
  ·refine Heap.get?_push_of_some _ ?_
   have:=Heap.get?_push_size (((s.heap.push (k1.io l1)).push (k2.io l2)).push { cls:=.type "tuple",data:=.seq #[.ref s.heap.objs.size,.ref (s.heap.objs.size+1)] }) (o:={ cls:=.type "tuple",data:=.seq #[.none,.none] }) rfl
   simp only [Heap.size_push] at this
   exact this
end L2
namespace L2
open PySem PySem.Spec PyProof.Rows
theorem yk (k1 k2:Sd) (z TI TO i1 i2 l1 l2:Addr) (ap:ZipApart z TI TO i1 i2 l1 l2) (n1 n2:Nat) (xs ys:Array Value) (x y a b:Value) (hx:xs[n1]?=some x) (hy:ys[n2]?=some y):Meets (Builtin.«zip.__next__» ⟨[.ref z],[]⟩)
  (fun _ R s=>IsZip s.heap z TI TO .none∧IsPair s.heap TI (.ref i1) (.ref i2)∧IsPair s.heap TO a b∧k1.It s.heap i1 l1 n1∧k2.It s.heap i2 l2 n2∧k1.Sq s.heap l1 xs∧k2.Sq s.heap l2 ys ∧
   ∀ h',IsZip h' z TI TO (rawInt s.heap.objs.size)→IsPair h' TO x y→k1.It h' i1 l1 (n1+1)→k2.It h' i2 l2 (n2+1)→IsPair h' s.heap.objs.size x y →
    (∀ c o,c≠z→c≠TO→c≠i1→c≠i2→s.heap.get? c=some o→h'.get? c=some o)→R (.ok (.ret (.ref s.heap.objs.size))) { s with heap:=h' }) :=
 .of_wp fun prog w A R s h=>by
  obtain⟨hz,hTI,hTO,j1,j2,q1,q2,q⟩:=h
  wp_walk using wpAny_field (i:=2) (x:=Value.bool false) hz rfl rfl,wpAny_field (i:=3) (x:=Value.ref TI) hz rfl rfl,wpAny_field (i:=0) (x:=Value.none) hz rfl rfl,wpAny_field (i:=4) (x:=Value.ref TO) hz rfl rfl,wpAny_seqItems hTI rfl,wpAny_setField_rec hz (show 0<5 by decide)
  intro ha za sa
  have ka:∀ c o,c≠z→s.heap.get? c=some o→ha.get? c=some o:=fun c o hc e=>(sa.2 c hc).trans e
  have j1a:=j1.at (h':=ha) fun o e=>ka i1 o ap.i1z e
  have q1a:=q1.at (h':=ha) fun o e=>ka l1 o ap.l1z e
  wp_walk using wpAny_onRaise,Sd.item (s:={ s with heap:=ha }) j1a q1a hx
  intro hb jb sb
  have kb:∀ c o,c≠z→c≠i1→s.heap.get? c=some o→hb.get? c=some o:=fun c o h1 h2 e=>(sb.2 c h2).trans (ka c o h1 e)
  have TOb:IsPair hb TO a b:=kb TO _ ap.TOz ap.TOi1 hTO
  wp_walk using wpAny_seqItems TOb rfl,wpAny_updateSeq_pair (s:={ s with heap:=hb }) TOb
  intro hc TOc' sc
  have TOc:IsPair hc TO x b:=TOc'
  have kc:∀ c o,c≠z→c≠i1→c≠TO→s.heap.get? c=some o→hc.get? c=some o:=fun c o h1 h2 h3 e=>(sc.2 c h3).trans (kb c o h1 h2 e)
  have zc:hc.get? z=some { cls:=.type "zip",data:=.fields #[.ellipsis,.bool false,.bool false,.ref TI,.ref TO] }:=(sc.2 z (Ne.symm ap.TOz)).trans ((sb.2 z (Ne.symm ap.i1z)).trans za)
  have j1c:=jb.at (h':=hc) fun o e=>(sc.2 i1 (Ne.symm ap.TOi1)).trans e
  have j2c:=j2.at (h':=hc) fun o e=>kc i2 o ap.i2z (Ne.symm ap.i12) (Ne.symm ap.TOi2) e
  have q2c:=q2.at (h':=hc) fun o e=>kc l2 o ap.l2z ap.l2i1 ap.l2TO e
  wp_walk using wpAny_letGo,wpAny_onRaise,Sd.item (s:={ s with heap:=hc }) j2c q2c hy
  intro hd jd sd
  have TOd:IsPair hd TO x b:=(sd.2 TO ap.TOi2).trans TOc
  have zd:=(sd.2 z (Ne.symm ap.i2z)).trans zc
  wp_walk using wpAny_seqItems TOd rfl,wpAny_updateSeq_pair (s:={ s with heap:=hd }) TOd
  intro he TOe' se
  have TOe:IsPair he TO x y:=TOe'
  have ze:=(se.2 z (Ne.symm ap.TOz)).trans zd
  wp_walk using wpAny_letGo,wpAny_seqItems TOe rfl
  have sz:he.objs.size=s.heap.objs.size:=se.1.trans (sd.1.trans (sc.1.trans (sb.1.trans sa.1)))
  have zn:z≠he.objs.size:=Nat.ne_of_lt (Heap.lt_size ze)
  have zf:(he.push { cls:=.type "tuple",data:=.seq #[x,y] }).get? z=some { cls:=.type "zip",data:=.fields #[.ellipsis,.bool false,.bool false,.ref TI,.ref TO] }:=Heap.get?_push_of_some _ ze
  have ke:∀ c o,c≠z→he.get? c=some o→(((he.push { cls:=.type "tuple",data:=.seq #[x,y] }).update z (Obj.mapFields fun x=>x.setIfInBounds 0 (rawInt ↑he.objs.size))).update z (Obj.mapFields fun x=>x.setIfInBounds 1 (Value.bool false))).get? c=some o:=fun c o hc e=>(Heap.get?_update_other _ _ (Ne.symm hc)).trans ((Heap.get?_update_other _ _ (Ne.symm hc)).trans (Heap.get?_push_of_some _ e))
  have g1:=Heap.get?_update_self (Obj.mapFields fun x=>x.setIfInBounds 0 (rawInt ↑he.objs.size)) zf rfl
  have g2:=Heap.get?_update_self (Obj.mapFields fun x=>x.setIfInBounds 1 (Value.bool false)) g1 rfl
  have gn:(((he.push { cls:=.type "tuple",data:=.seq #[x,y] }).update z (Obj.mapFields fun x=>x.setIfInBounds 0 (rawInt ↑he.objs.size))).update z (Obj.mapFields fun x=>x.setIfInBounds 1 (Value.bool false))).get? he.objs.size=some { cls:=.type "tuple",data:=.seq #[x,y] }:=(Heap.get?_update_other _ _ zn).trans ((Heap.get?_update_other _ _ zn).trans (Heap.get?_push_size _ rfl))
  refine⟨_,rfl,?_⟩
  show R (.ok (.ret (.ref he.objs.size))) { s with heap:=(((he.push { cls:=.type "tuple",data:=.seq #[x,y] }).update z (Obj.mapFields fun x=>x.setIfInBounds 0 (rawInt ↑he.objs.size))).update z (Obj.mapFields fun x=>x.setIfInBounds 1 (Value.bool false))) }
  generalize (((he.push { cls:=.type "tuple",data:=.seq #[x,y] }).update z (Obj.mapFields fun x=>x.setIfInBounds 0 (rawInt ↑he.objs.size))).update z (Obj.mapFields fun x=>x.setIfInBounds 1 (Value.bool false)))=hf at *
  rw [sz]
  refine q hf (by rw [← sz];exact g2) (ke TO _ ap.TOz TOe) (j1c.at fun o e=>ke i1 o ap.i1z ((se.2 i1 (Ne.symm ap.TOi1)).trans ((sd.2 i1 ap.i12).trans e))) (jd.at fun o e=>ke i2 o ap.i2z ((se.2 i2 (Ne.symm ap.TOi2)).trans e)) (by rw [← sz];exact gn) fun c o h1 h2 h3 h4 e=>ke c o h1 ((se.2 c h2).trans ((sd.2 c h4).trans (kc c o h1 h3 h2 e)))
end L2
namespace L2
open PySem PySem.Spec PyProof.Rows
theorem yj (k1:Sd) (z TI TO i1 i2 l1:Addr) (i1z:i1≠z) (l1z:l1≠z) (n1:Nat) (xs:Array Value) (a b:Value) (hx:xs[n1]?=none):Meets (Builtin.«zip.__next__» ⟨[.ref z],[]⟩)
  (fun A R s=>A.handled=none∧IsZip s.heap z TI TO .none∧IsPair s.heap TI (.ref i1) (.ref i2)∧IsPair s.heap TO a b∧k1.It s.heap i1 l1 n1∧k1.Sq s.heap l1 xs ∧
   ∀ h' e,(∀ c o,c≠z→c≠i1→s.heap.get? c=some o→h'.get? c=some o)→(∃ o,h'.get? e=some o∧o.cls=.type "StopIteration")→R (.error (.ref e)) { s with heap:=h' }) :=
 .of_wp fun prog w A R s h=>by
  obtain⟨hn,hz,hTI,hTO,j1,q1,q⟩:=h
  wp_walk using wpAny_field (i:=2) (x:=Value.bool false) hz rfl rfl,wpAny_field (i:=3) (x:=Value.ref TI) hz rfl rfl,wpAny_field (i:=0) (x:=Value.none) hz rfl rfl,wpAny_field (i:=4) (x:=Value.ref TO) hz rfl rfl,wpAny_seqItems hTI rfl,wpAny_setField_rec hz (show 0<5 by decide)
  intro ha za sa
  have ka:∀ c o,c≠z→s.heap.get? c=some o→ha.get? c=some o:=fun c o hc e=>(sa.2 c hc).trans e
  have j1a:=j1.at (h':=ha) fun o e=>ka i1 o i1z e
  have q1a:=q1.at (h':=ha) fun o e=>ka l1 o l1z e
  wp_walk using wpAny_onRaise,Sd.fin (A:=A.in1) (s:={ s with heap:=ha }) hn j1a q1a hx
  intro hb e kb oe
  have zb:=kb z _ (Ne.symm i1z) za
  refine wpAny_setField_rec (s:={ s with heap:=hb }) zb (show 0<5 by decide) fun hc zc sc=>?_
  obtain⟨o,eo,co⟩:=oe
  have ez:e≠z:=fun x=>by
   subst x
   rw [zb] at eo
   cases eo
   injection co with x
   exact absurd x (by decide)
  exact q hc e (fun c o h1 h2 x=>(sc.2 c h1).trans (kb c o h2 (ka c o h1 x))) ⟨o,(sc.2 e ez).trans eo,co⟩
end L2
namespace L2
open PySem PySem.Spec PyProof.Rows
section
variable {prog:Program} {w:World} {A:Around} {E:Value→Shared→Prop} {s:Shared}
theorem mj {it:Addr} {T id:String} {Q:Option Value→Shared→Prop} (ty:s.TypeIs (.ref it) T) (sl:Slot T "__next__" id)
  (h:wpAny (model prog w) A (call (.builtin id) [.ref it]) (fun v s'=>Q (some v) s') (fun e s'=>(∃ x o,e=.ref x∧s'.heap.get? x=some o∧o.cls=.type "StopIteration")∧Q none s') s):wpAny (model prog w) A (pyNext (.ref it)) Q E s:=by
 unfold pyNext
 refine wpAny_bind (wpAny_attempt (wpAny_callSpecial?_slot ty sl (wpAny_mono h (fun v s' q=>wpAny_pure q) fun e s' q=>?_)))
 obtain⟨⟨x,o,rfl,eo,co⟩,q⟩:=q
 refine wpAny_bind (wpAny_isInstance (T := "StopIteration") (b:=true) ⟨o,eo,co⟩ ?_ ?_)
 ·with_unfolding_all rfl
 ·rw [if_pos rfl]
  exact wpAny_pure q
theorem oz {k1 k2:Sd} {l1 l2:Addr} {xs ys:Array Value} {Q:Value→Shared→Prop} (h1:k1.Sq s.heap l1 xs) (h2:k2.Sq s.heap l2 ys)
  (q:∀ h',IsZip h' (s.heap.objs.size+4) (s.heap.objs.size+2) (s.heap.objs.size+3) .none→IsPair h' (s.heap.objs.size+2) (.ref s.heap.objs.size) (.ref (s.heap.objs.size+1)) →
   IsPair h' (s.heap.objs.size+3) .none .none→k1.It h' s.heap.objs.size l1 0→k2.It h' (s.heap.objs.size+1) l2 0→(∀ c o,s.heap.get? c=some o→h'.get? c=some o)→Q (.ref (s.heap.objs.size+4)) { s with heap:=h' }) :
  wpAny (model prog w) A (call (.type "zip") [.ref l1,.ref l2]) Q E s :=
 callType_new F.called_zip (by decide) (F.typeCall_zip_2 _ _) (F.newCall_zip_2 _ _) (fun obj=>F.args_object_init_3 _ _ _) F.entry_zip_new (zR k1 k2 l1 l2 xs ys) ⟨h1,h2,fun h' z a b c d e=>⟨⟨_,z,rfl⟩,q h' z a b c d e⟩⟩
theorem lC {k1 k2:Sd} {z TI TO i1 i2 l1 l2:Addr} {n1 n2:Nat} {xs ys:Array Value} {x y a b:Value} {Q:Option Value→Shared→Prop} (ap:ZipApart z TI TO i1 i2 l1 l2) (hz:IsZip s.heap z TI TO .none) (hTI:IsPair s.heap TI (.ref i1) (.ref i2)) (hTO:IsPair s.heap TO a b)
  (j1:k1.It s.heap i1 l1 n1) (j2:k2.It s.heap i2 l2 n2) (q1:k1.Sq s.heap l1 xs) (q2:k2.Sq s.heap l2 ys) (hx:xs[n1]?=some x) (hy:ys[n2]?=some y)
  (q:∀ h',IsZip h' z TI TO (rawInt s.heap.objs.size)→IsPair h' TO x y→k1.It h' i1 l1 (n1+1)→k2.It h' i2 l2 (n2+1)→IsPair h' s.heap.objs.size x y →
    (∀ c o,c≠z→c≠TO→c≠i1→c≠i2→s.heap.get? c=some o→h'.get? c=some o)→Q (some (.ref s.heap.objs.size)) { s with heap:=h' }):wpAny (model prog w) A (pyNext (.ref z)) Q E s :=
 mj ⟨_,hz,rfl⟩ F.slot_zip_next (call_meets F.slot_zip_next ⟨_,hz,rfl⟩ F.entry_zip_next (F.args_zip_next_1 _) (yk k1 k2 z TI TO i1 i2 l1 l2 ap n1 n2 xs ys x y a b hx hy) ⟨hz,hTI,hTO,j1,j2,q1,q2,fun h' a b c d e f=>q h' a b c d e f⟩)
theorem mY {k1:Sd} {z TI TO i1 i2 l1:Addr} {n1:Nat} {xs:Array Value} {a b:Value} {Q:Option Value→Shared→Prop} (hn:A.handled=none) (i1z:i1≠z) (l1z:l1≠z) (hz:IsZip s.heap z TI TO .none) (hTI:IsPair s.heap TI (.ref i1) (.ref i2)) (hTO:IsPair s.heap TO a b)
  (j1:k1.It s.heap i1 l1 n1) (q1:k1.Sq s.heap l1 xs) (hx:xs[n1]?=none)
  (q:∀ h',(∀ c o,c≠z→c≠i1→s.heap.get? c=some o→h'.get? c=some o)→Q none { s with heap:=h' }):wpAny (model prog w) A (pyNext (.ref z)) Q E s :=
 mj ⟨_,hz,rfl⟩ F.slot_zip_next (call_meets F.slot_zip_next ⟨_,hz,rfl⟩ F.entry_zip_next (F.args_zip_next_1 _) (yj k1 z TI TO i1 i2 l1 i1z l1z n1 xs a b hx) ⟨hn,hz,hTI,hTO,j1,q1,fun h' e k ⟨o,eo,co⟩=>⟨⟨e,o,rfl,eo,co⟩,q h' k⟩⟩)
end
def nV (k:Sd) (K:PySem.W.Frag) (H:Hp) (a:Addr) (xs:List V):Prop:=match k with
 | .l=>aZ K H a xs
 | .t=>bD K H a xs
theorem Inv.Bz {X:Cx} {pins:List (Addr × Obj)} {σ:St} {H:Hp} {s:Shared} {k:Sd} {a:Addr} {xs:List V} (I:Inv X pins σ H s) (h:nV k X.K H a xs):∃ its:List Value,Vals xs its∧k.Sq s.heap a its.toArray:=by
 cases k
 ·obtain⟨its,r,p,_⟩:=I.list h
  exact⟨its,r,p.isList⟩
 ·obtain⟨its,r,p,_⟩:=I.tuple h
  exact⟨its,r,p⟩
theorem Inv.tH {X:Cx} {pins:List (Addr × Obj)} {σ:St} {H:Hp} {s:Shared} {k:Sd} {a:Addr} {xs ys:List V} (I:Inv X pins σ H s) (h:nV k X.K H a xs) (h':nV k X.K H a ys):xs=ys:=by
 cases k
 ·exact I.kA h h'
 ·exact I.mI h h'
def B3 (k1 k2:Sd) (K:PySem.W.Frag) (a b:Addr):It :=
 ⟨fun i H=>∃ xs ys x y,nV k1 K H a xs∧nV k2 K H b ys∧xs[i]?=some x∧ys[i]?=some y,fun i H x H'=>∃ p u v,H p=none∧x=.ref p∧(∀ xs,nV k1 K H a xs→xs[i]?=some u)∧(∀ ys,nV k2 K H b ys→ys[i]?=some v)∧H'=upd H p (.tup [u,v]),
  fun i H=>∃ xs,nV k1 K H a xs∧xs.length≤i⟩
theorem qy {P:Program} {w:World} {K:PySem.W.Frag} {elts:List Expr} {x1} {pos:Pos} {k1 k2:Sd} {a b z TI TO i1 i2:Addr} (ap:ZipApart z TI TO i1 i2 a b):Turn P w K (.Tuple elts x1 pos) (B3 k1 k2 K a b) [z,TI,TO,i1,i2] z (fun i h=>IsZip h z TI TO .none∧IsPair h TI (.ref i1) (.ref i2)∧(∃ u v,IsPair h TO u v)∧k1.It h i1 a i∧k2.It h i2 b i) where
 mem:=by simp
 obj:=fun i h st c hc=>by
  obtain⟨h1,h2,⟨u,v,h3⟩,h4,h5⟩:=st
  simp only [List.mem_cons,List.not_mem_nil,or_false] at hc
  rcases hc with rfl | rfl | rfl | rfl | rfl
  ·exact⟨_,h1,fun v z=>by cases z⟩
  ·exact⟨_,h2,fun v z=>by cases z⟩
  ·exact⟨_,h3,fun v z=>by cases z⟩
  ·exact h4.there
  ·exact h5.there
 keep:=fun i h h' st k=>by
  obtain⟨h1,h2,⟨u,v,h3⟩,h4,h5⟩:=st
  exact⟨k z (by simp) _ h1,k TI (by simp) _ h2,⟨u,v,k TO (by simp) _ h3⟩,h4.at fun o x=>k i1 (by simp) o x,h5.at fun o x=>k i2 (by simp) o x⟩
 item:=by
  intro X hP hw hK hc i pins s σ H E I hf st hg
  subst hP hw hK
  obtain⟨xs,ys,x,y,hq1,hq2,hx,hy⟩:=hg
  obtain⟨its1,rv1,p1⟩:=I.Bz hq1
  obtain⟨its2,rv2,p2⟩:=I.Bz hq2
  obtain⟨u,hu,ru⟩:=rv1.get hx
  obtain⟨v,hv,rv⟩:=rv2.get hy
  obtain⟨h1,h2,⟨u0,v0,h3⟩,h4,h5⟩:=st
  refine lC ap h1 h2 h3 h4 h5 p1 p2 (x:=u) (y:=v) (by simpa using hu) (by simpa using hv) fun h' z' TO' j1 j2 hT hk=>?_
  refine⟨_,rfl,?_⟩
  have fT:H s.heap.objs.size=none:=I.hok.fresh (Nat.le_refl _)
  refine wpAny_letOwnedTupleGo_zip z' fun h'' z2 s2=>?_
  have hke:∀ c o,c∉[z,TI,TO,i1,i2]→s.heap.get? c=some o→h''.get? c=some o:=fun c o hc q=>by
   simp only [List.mem_cons,List.not_mem_nil,or_false,not_or] at hc
   exact (s2.2 c hc.1).trans (hk c o hc.1 hc.2.2.1 hc.2.2.2.1 hc.2.2.2.2 q)
  have I1:Inv X pins σ H { s with heap:=h'',toks:=s.toks }:=I.jV hke hf
  have nz:∀ c∈[z,TI,TO,i1,i2],c≠s.heap.objs.size:=fun c hc e=>by
   have:∃ o,s.heap.get? c=some o:=by
    simp only [List.mem_cons,List.not_mem_nil,or_false] at hc
    rcases hc with rfl | rfl | rfl | rfl | rfl
    ·exact⟨_,h1⟩
    ·exact⟨_,h2⟩
    ·exact⟨_,h3⟩
    ·obtain⟨o,e,_⟩:=h4.there;exact⟨o,e⟩
    ·obtain⟨o,e,_⟩:=h5.there;exact⟨o,e⟩
   obtain⟨o,eo⟩:=this
   exact Nat.ne_of_lt (Heap.lt_size eo) e
  have hT2:h''.get? s.heap.objs.size=some { cls:=.type "tuple",data:=.seq #[u,v] }:=(s2.2 _ (Ne.symm (nz z (by simp)))).trans hT
  refine⟨.ref s.heap.objs.size,upd H s.heap.objs.size (.tup [x,y]),?_,rfl,⟨_,x,y,fT,rfl,fun zs hz=>by rw [I.tH hz hq1];exact hx,fun zs hz=>by rw [I.tH hz hq2];exact hy,rfl⟩,
   ⟨z2,(s2.2 TI ap.TIz).trans (hk TI _ ap.TIz ap.TITO ap.TIi1 ap.TIi2 h2),⟨_,_,(s2.2 TO ap.TOz).trans TO'⟩,j1.at fun o q=>(s2.2 i1 ap.i1z).trans q,j2.at fun o q=>(s2.2 i2 ap.i2z).trans q⟩,fun c hc=>?_⟩
  ·exact I1.adopt (T:=s.heap.objs.size) (o:=.tup [x,y]) (I.lB (Nat.le_refl _) fT) ⟨by show 2≤sizeLine;decide,[u,v],.cons ru (.cons rv .nil),⟨_,hT2,rfl,_,rfl⟩⟩
  ·rw [au (nz c hc)]
   exact (hf c hc).1
 done:=by
  intro X hP hw hK hc i pins s σ H E I hf st hg
  subst hP hw hK
  obtain⟨xs,hq,hx⟩:=hg
  obtain⟨its,rv,p⟩:=I.Bz hq
  have hl:=rv.length
  obtain⟨h1,h2,⟨u0,v0,h3⟩,h4,h5⟩:=st
  exact mY (I.ok.hd hc) ap.i1z ap.l1z h1 h2 h3 h4 p (by simp;omega) fun h' eb=>⟨rfl,I.jV (t':=s.toks) (ch:=[z,i1]) (fun c o hc q=>by
   simp only [List.mem_cons,List.not_mem_nil,or_false,not_or] at hc
   exact eb c o hc.1 hc.2 q) (fun c hc=>hf c (by
    simp only [List.mem_cons,List.not_mem_nil,or_false] at hc
    rcases hc with rfl | rfl<;>simp))⟩
 self:=fun _ _ _ _ _ st h=>wpAny_pyIter_zip st.1 h
def AS (k1 k2:Sd) (K:PySem.W.Frag) (ta:TA):TI:=fun σ H R=>ta σ H fun vs H1=>∃ a b,vs=[.ref a,.ref b]∧(∃ xs,nV k1 K H1 a xs)∧(∃ ys,nV k2 K H1 b ys)∧R (B3 k1 k2 K a b) H1
theorem lN:bootBuiltins "zip"=some (.type "zip"):=by decide +kernel
theorem Bn {X:Cx} {elts:List Expr} {x1} {tpos:Pos} {a b:Expr} {ta:TA} {p pos:Pos} (k1 k2:Sd) (hg:Gl X "zip") (hm:X.mg "zip"=none) (ha:PA X [a,b] ta) (hs:starEach [a,b] X.env=[(false,eval a X.env),(false,eval b X.env)]:=by rfl) (hs2:starEach [b] X.env=[(false,eval b X.env)]:=by rfl) :
  PI X (.Tuple elts x1 tpos) (.Call (.Name "zip" p) [a,b] [] pos) (AS k1 k2 X.K ta):=by
 intro pins s σ H R I h
 refine Call_ (gU I hg hm lN (PyProof.Rows.callWith_type1 (bo (ha pos pins s σ H _ I h) fun us s1 ⟨vs,H1,I1,r1,q1⟩=>?_) (by rw [hs,hs2]) (by rw [hs2];rfl)))
 obtain⟨a',b',e,⟨xs,hq1⟩,⟨ys,hq2⟩,q⟩:=q1
 subst e
 cases r1 with
 | cons r rr =>
  cases rr with
  | cons r' rr' =>
   cases rr'
   cases r
   cases r'
   obtain⟨its1,rv1,p1⟩:=I1.Bz hq1
   obtain⟨its2,rv2,p2⟩:=I1.Bz hq2
   refine oz p1 p2 fun h' hz hTI hTO j1 j2 hk=>?_
   refine wpAny_pyIter_zip hz ?_
   have I2:Inv X pins σ H1 { s1 with heap:=h' }:=I1.kept (t':=s1.toks) hk
   refine⟨_,[s1.heap.objs.size+4,s1.heap.objs.size+2,s1.heap.objs.size+3,s1.heap.objs.size,s1.heap.objs.size+1],_,_,H1,rfl,I2,qy (PyProof.Rows.zipApart_new p1.lt p2.lt),⟨hz,hTI,⟨_,_,hTO⟩,j1,j2⟩,fun c hc=>?_,q⟩
   simp only [List.mem_cons,List.not_mem_nil,or_false] at hc
   rcases hc with rfl | rfl | rfl | rfl | rfl<;>exact I1.lB (by omega) (I1.hok.fresh (by omega))
theorem lP {K:PySem.W.Frag} {k1 k2:Sd} {a b:Addr} {xs ys:List V} {js:List (Option Nat)} {g:TG} {tt:TT} {te:TE} {σ:St} {Q:VK} {H1:Hp} (Pv:Nat→List V→Hp→Prop) (h0:Pv 0 [] H1) (hxy:xs.length=ys.length) (hx:xs.length≤sizeLine) (hl:∀ i zs H,i≤xs.length→Pv i zs H→nV k1 K H a xs∧nV k2 K H b ys∧zs.length≤i)
  (hs:∀ i x y zs H p,xs[i]?=some x→ys[i]?=some y→Pv i zs H→H p=none→g (.ref p) (dc js σ) (upd H p (.tup [x,y])) fun σ2 H2=>cq (dc js σ) σ2∧tt σ2 H2 fun c H3=>if c=true then te σ2 H3 fun v H4=>Pv (i+1) (zs++[v]) H4 else Pv (i+1) zs H3)
  (hd:∀ zs H p,Pv xs.length zs H→H p=none→Q (.ref p) (upd H p (.lst zs))):nW (B3 k1 k2 K a b) js g tt te σ Q H1:=by
 refine⟨fun i m zs H=>m=xs.length-i∧i≤xs.length∧Pv i zs H,⟨xs.length,by simp,Nat.zero_le _,h0⟩,?_⟩
 rintro i m zs H ⟨rfl,hi,p⟩
 obtain⟨q,q',hy⟩:=hl i zs H hi p
 by_cases hlt:i<xs.length
 ·refine .inr ⟨⟨xs,ys,xs[i],ys[i],q,q',by simp [hlt],by simp⟩,by omega,Pv (i+1),fun ys' H' p'=>⟨xs.length-(i+1),by omega,rfl,hlt,p'⟩,fun x H' y=>?_⟩
  obtain⟨pt,u,v,f,e1,e2,e3,e4⟩:=y
  subst e1 e4
  exact hs i u v zs _ pt (e2 xs q) (e3 ys q') p f
 ·have e:i=xs.length:=by omega
  subst e
  exact .inl ⟨⟨xs,q,Nat.le_refl _⟩,by omega,fun p' hp'=>hd zs H p' p hp'⟩
end L2
namespace Num
theorem kG {p x y:Int} {m:Nat} (h:Al p x y) (o:Ord p x m):Ord p y m:=⟨o.pos,(h.pow m).symm.trans o.one,fun j z=>o.dv j ((h.pow j).trans z)⟩
def eN:List (Int × Int)→Nat
 | []=>1
 | p::r=>p.1.toNat^p.2.toNat*eN r
theorem cH:∀ a b:List (Int × Int),eN (a++b)=eN a*eN b
 | [],b=>by simp [eN]
 | p::r,b=>by
  show p.1.toNat^p.2.toNat*eN (r++b)=p.1.toNat^p.2.toNat*eN r*eN b
  rw [cH r b,Nat.mul_assoc]
theorem fe:∀ a:List (Int × Int),(∀ p∈a,Pm p.1)→(eN a:Int)=c5 a
 | [],_=>rfl
 | p::r,h=>by
  have t:=(h p (List.mem_cons_self ..)).two
  show ((p.1.toNat^p.2.toNat*eN r:Nat):Int)=p.1^p.2.toNat*c5 r
  rw [Int.natCast_mul,Int.natCast_pow,fe r fun x z=>h x (List.mem_cons_of_mem _ z),show (p.1.toNat:Int)=p.1 by omega]
theorem kg:∀ a:List (Int × Int),(∀ p∈a,Pm p.1)→0<eN a
 | [],_=>Nat.one_pos
 | p::r,h=>by
  have t:=(h p (List.mem_cons_self ..)).two
  exact Nat.mul_pos (Nat.pow_pos (by omega)) (kg r fun x z=>h x (List.mem_cons_of_mem _ z))
theorem AL {q m:Nat} (h:Nm q) (hm:¬q∣m) (k:Nat):Nat.Coprime (q^k) m:=Nat.Coprime.pow_left k (h.co hm)
theorem zZ {q:Int} (hq:Pm q) {b:List (Int × Int)} (hb:∀ p∈b,Pm p.1) (ne:∀ p∈b,p.1≠q):¬q.toNat∣eN b:=fun z=>by
 have t:=hq.two
 have:q∣c5 b:=by
  rw [← fe b hb]
  have:=Int.natCast_dvd_natCast.mpr z
  rwa [show (q.toNat:Int)=q by omega] at this
 obtain⟨p,hp,e⟩:=kH hq hb this
 exact ne p hp e
theorem vG {b:List (Int × Int)} (hb:∀ p∈b,Pm p.1):∀ a:List (Int × Int),(∀ p∈a,Pm p.1)→(∀ x∈a,∀ y∈b,y.1≠x.1)→Nat.Coprime (eN a) (eN b)
 | [],_,_=>Nat.coprime_one_left _
 | p::r,h,ne=>by
  have hp:=h p (List.mem_cons_self ..)
  exact Nat.Coprime.mul_left (AL (wc hp) (zZ hp hb (ne p (List.mem_cons_self ..))) _) (vG hb r (fun x z=>h x (List.mem_cons_of_mem _ z)) fun x z=>ne x (List.mem_cons_of_mem _ z))
theorem zm {n a:Int} {q t:Nat} (hq:Nm q) (h:Al n (a^q^t) 1) (no:∀ j,j<t→¬Al n (a^q^j) 1):Ord n a (q^t):=by
 have q2:=hq.1
 obtain⟨m,o,_⟩:=nc (N:=q^t) (Nat.pow_pos (by omega)) h
 have d:=o.dv _ h
 cases t with
 | zero =>
  have:m=1:=Nat.eq_one_of_dvd_one (by simpa using d)
  rw [this] at o
  simpa using o
 | succ k =>
  have:m=q^(k+1):=sJ hq k m d fun z=>no k (Nat.lt_succ_self _) (by
   obtain⟨c,hc⟩:=z
   rw [hc]
   exact aN o.one)
  rw [← this]
  exact o
theorem bp {a:Int} {x y:Nat}:(a^x)^y=a^(x*y):=by rw [Int.pow_mul]
theorem rj {n a:Int} {M1 M2 E1 E2:Nat} (co:Nat.Coprime M1 M2) (p1:0<M1) (p2:0<M2) (h:Al n (a^(M1*M2)) 1) (o1:Ord n (a^M2) E1) (o2:Ord n (a^M1) E2):Ord n a (E1*E2):=by
 have d1:E1∣M1:=o1.dv M1 (by rw [bp,Nat.mul_comm];exact h)
 have d2:E2∣M2:=o2.dv M2 (by rw [bp];exact h)
 obtain⟨c1,hc1⟩:=d1
 obtain⟨c2,hc2⟩:=d2
 obtain⟨e,o,_⟩:=nc (Nat.mul_pos p1 p2) h
 have x1:e∣M2*E1:=o.dv _ (by rw [← bp];exact o1.one)
 have x2:e∣M1*E2:=o.dv _ (by rw [← bp];exact o2.one)
 have cc:Nat.Coprime c2 c1:=by
  have:Nat.Coprime c1 c2:=Nat.Coprime.coprime_dvd_left ⟨E1,by rw [hc1,Nat.mul_comm]⟩ (Nat.Coprime.coprime_dvd_right ⟨E2,by rw [hc2,Nat.mul_comm]⟩ co)
  exact this.symm
 have x3:e∣E1*E2:=by
  have:=Nat.dvd_gcd x1 x2
  rw [show M2*E1=E1*E2*c2 by rw [hc2];rw [Nat.mul_comm (E2*c2) E1,Nat.mul_assoc],show M1*E2=E1*E2*c1 by rw [hc1];rw [Nat.mul_assoc,Nat.mul_comm c1 E2,Nat.mul_assoc],Nat.gcd_mul_left,cc.gcd_eq_one,Nat.mul_one] at this
  exact this
 have ce:Nat.Coprime E1 E2:=Nat.Coprime.coprime_dvd_left ⟨c1,hc1⟩ (Nat.Coprime.coprime_dvd_right ⟨c2,hc2⟩ co)
 refine⟨Nat.mul_pos o1.pos o2.pos,?_,fun j hj=>?_⟩
 ·obtain⟨c,hc⟩:=x3
  rw [hc]
  exact aN o.one
 ·refine ce.mul_dvd_of_dvd_of_dvd (o1.dv j ?_) (o2.dv j ?_)
  ·rw [bp,Nat.mul_comm,← bp]
   have:=hj.pow M2
   rwa [Int.one_pow] at this
  ·rw [bp,Nat.mul_comm,← bp]
   have:=hj.pow M1
   rwa [Int.one_pow] at this
structure TO (n a:Int) (ps:List (Int × Int)) (ts:List Int):Prop where
 len:ts.length=ps.length
 nn:∀ t∈ts,0≤t
 ord:Ord n a (eN ((ps.map (·.1)).zip ts))
theorem TO.al {n a b:Int} {ps:List (Int × Int)} {ts:List Int} (h:TO n a ps ts) (e:Al n a b):TO n b ps ts:=⟨h.len,h.nn,kG e h.ord⟩
theorem TO.none {n a:Int} (h:Al n a 1):TO n a [] []:=⟨rfl,fun _ z=>by simp at z,⟨Nat.one_pos,by show Al n (a^1) 1;rw [Int.pow_one];exact h,fun j _=>Nat.one_dvd j⟩⟩
theorem TO.one {n a q k:Int} {t:Nat} (hq:Pm q) (h:Al n (a^q.toNat^t) 1) (no:∀ j,j<t→¬Al n (a^q.toNat^j) 1):TO n a [(q,k)] [(t:Int)]:=by
 refine⟨rfl,fun x z=>?_,?_⟩
 ·rw [List.mem_singleton.mp z];omega
 ·show Ord n a (q.toNat^(t:Int).toNat*1)
  rw [Nat.mul_one,Int.toNat_natCast]
  exact zm (wc hq) h no
theorem TO.two {n a:Int} {as bs:List (Int × Int)} {ts us:List Int} (ha:∀ p∈as,Pm p.1) (hb:∀ p∈bs,Pm p.1) (ne:∀ x∈as,∀ y∈bs,y.1≠x.1) (h:Al n (a^eN (as++bs)) 1) (h1:TO n (a^eN bs) as ts) (h2:TO n (a^eN as) bs us):TO n a (as++bs) (ts++us):=by
 refine⟨by rw [List.length_append,List.length_append,h1.len,h2.len],fun t z=>(List.mem_append.mp z).elim (h1.nn t) (h2.nn t),?_⟩
 rw [List.map_append,List.zip_append (by rw [List.length_map,h1.len]),cH]
 rw [cH] at h
 exact rj (vG hb as ha ne) (kg as ha) (kg bs hb) h h1.ord h2.ord
end Num
namespace L2
open PySem PySem.Spec PyProof.Rows
end L2
namespace L2
open PySem PySem.Spec PyProof.Rows
section
variable {prog:Program} {w:World} {A:Around} {E:Value→Shared→Prop} {s:Shared}
end
def CW (K:PySem.W.Frag) (a:Addr):It :=
 ⟨fun i H=>∃ xs x,bD K H a xs∧xs[i]?=some x,fun i H x H'=>∃ p v,H p=none∧x=.ref p∧(∀ xs,bD K H a xs→xs[i]?=some v)∧H'=upd H p (.tup [.int i,v]),fun i H=>∃ xs,bD K H a xs∧xs.length≤i⟩
def vU (K:PySem.W.Frag) (ta:TA):TI:=fun σ H R=>ta σ H fun vs H1=>∃ a,vs=[.ref a]∧(∃ xs,bD K H1 a xs)∧R (CW K a) H1
end L2
namespace L2
open PySem PySem.Spec PyProof.Rows
def vZ (K:PySem.W.Frag) (ta:TA):TI:=fun σ H R=>ta σ H fun vs H1=>∃ a b k1 k2,vs=[.ref a,.ref b]∧(∃ xs,nV k1 K H1 a xs)∧(∃ ys,nV k2 K H1 b ys)∧R (B3 k1 k2 K a b) H1
theorem zu {X:Cx} {elts:List Expr} {x1} {tpos:Pos} {a b:Expr} {ta:TA} {p pos:Pos} (hg:Gl X "zip") (hm:X.mg "zip"=none) (ha:PA X [a,b] ta) (hs:starEach [a,b] X.env=[(false,eval a X.env),(false,eval b X.env)]:=by rfl) (hs2:starEach [b] X.env=[(false,eval b X.env)]:=by rfl) :
  PI X (.Tuple elts x1 tpos) (.Call (.Name "zip" p) [a,b] [] pos) (vZ X.K ta):=by
 intro pins s σ H R I h
 refine Call_ (gU I hg hm lN (PyProof.Rows.callWith_type1 (bo (ha pos pins s σ H _ I h) fun us s1 ⟨vs,H1,I1,r1,q1⟩=>?_) (by rw [hs,hs2]) (by rw [hs2];rfl)))
 obtain⟨a',b',k1,k2,e,⟨xs,hq1⟩,⟨ys,hq2⟩,q⟩:=q1
 subst e
 cases r1 with
 | cons r rr =>
  cases rr with
  | cons r' rr' =>
   cases rr'
   cases r
   cases r'
   obtain⟨its1,rv1,p1⟩:=I1.Bz hq1
   obtain⟨its2,rv2,p2⟩:=I1.Bz hq2
   refine oz p1 p2 fun h' hz hTI hTO j1 j2 hk=>?_
   refine wpAny_pyIter_zip hz ?_
   have I2:Inv X pins σ H1 { s1 with heap:=h' }:=I1.kept (t':=s1.toks) hk
   refine⟨_,[s1.heap.objs.size+4,s1.heap.objs.size+2,s1.heap.objs.size+3,s1.heap.objs.size,s1.heap.objs.size+1],_,_,H1,rfl,I2,qy (PyProof.Rows.zipApart_new p1.lt p2.lt),⟨hz,hTI,⟨_,_,hTO⟩,j1,j2⟩,fun c hc=>?_,q⟩
   simp only [List.mem_cons,List.not_mem_nil,or_false] at hc
   rcases hc with rfl | rfl | rfl | rfl | rfl<;>exact I1.lB (by omega) (I1.hok.fresh (by omega))
end L2
namespace L2
open PySem PySem.Spec PyProof.Rows PySem.W
end L2
namespace L2
open PySem PySem.Spec PyProof.Rows
end L2
namespace L2
open PySem PySem.Spec PyProof.Rows PySem.W
section
variable {prog:Program} {w:World} {A:Around} {E:Value→Shared→Prop} {K:PySem.W.Frag} {h:Heap} {g:Array GenState} {d:Drawn} {t:Nat} {os:OsState} {x C B:Addr}
end
section
variable {X:Cx} {pins:List (Addr × Obj)} {σ:St} {H:Hp} {s:Shared} {x:Addr}
end
section
variable {X:Cx} {B:Addr} {n:Option Nat} {hd:ExceptHandler} {ts:TS}
variable {B2:Addr} {n2:Option Nat} {hd2:ExceptHandler} {ts2:TS}
def Ar (K:PySem.W.Frag) (B:Addr) (n:Option Nat) (B2:Addr) (n2:Option Nat) (sp:Sp) (ta:TA) (put:V→St→St) (ts ts2:TS):TS:=fun D σ H=>ta σ H fun vs H1=>sp vs H1 (fun v H2=>D.nx (put v σ) H2)
 (fun cv xo H2=>∃ C x dd,cv=.ref C∧xo=some x∧H2 x=some (XO x C dd)∧fE K C∧((mroIn K C (.ref B)=some true∧ts (oV n D) (vP n x σ) H2)∨(mroIn K C (.ref B)=some false∧mroIn K C (.ref B2)=some true∧ts2 (oV n2 D) (vP n2 x σ) H2)))
variable {k:Nat} {f:Str} {ps:List Str} {sp:Sp} {e:Expr} {es:List Expr} {t:TA} {p cpos epos pos:Pos}
end
end L2
namespace L2
open PySem PySem.Spec PyProof.Rows PySem.W
namespace HT
section
variable {prog:Program} {w:World} {A:Around} {E:Value→Shared→Prop} {s:Shared}
end
end HT
end L2
namespace L2
open PySem PySem.Spec PyProof.Rows PySem.W
namespace Tsl
open _root_.HT
section
variable {prog:Program} {w:World} {A:Around} {E:Value→Shared→Prop} {s:Shared}
theorem oS {α β:Type} {f g:α→Option β}:∀{l:List α},(∀ x∈l,f x=g x)→l.filterMap f=l.filterMap g
 | [],_=>rfl
 | x::l,h=>by rw [List.filterMap_cons,List.filterMap_cons,h x (List.mem_cons_self ..),oS fun y hy=>h y (List.mem_cons_of_mem _ hy)]
theorem tP (xs:Array Value):((List.range xs.size).filterMap fun(m:Nat)=>xs[((xs.size:Int)-1+(m:Int) * -1).toNat]?).toArray=xs.toList.reverse.toArray:=by
 rw [← krv_pick]
 unfold slicePick
 rw [krv_bounds]
 show _=((sliceRange ((xs.size:Int)-1) (-1) (-1)).filterMap (xs[·]?)).toArray
 rw [krv_sliceRange,List.filterMap_map]
 congr 1
 exact oS fun m hm=>by
  have:=List.mem_range.mp hm
  show xs[((xs.size:Int)-1+(m:Int) * -1).toNat]?=xs[xs.size-1-m]?
  congr 1
  omega
theorem oh (n:Nat):Builtin.Slice.sliceAdjust none none (-1) (n:Int)=((n:Int)-1,-1):=by
 unfold Builtin.Slice.sliceAdjust
 simp
theorem oo (n:Nat):Builtin.Slice.slicePlaces ((n:Int)-1) (-1) (-1)=n:=by
 unfold Builtin.Slice.slicePlaces
 simp
 omega
theorem iI {sl:Addr} {vk:Value} {n:Nat} {Q:Int × Int × Nat→Shared→Prop} (hs:s.heap.IsSliceOf sl .none .none vk) (pk:IsPart vk (some (-1)))
  (h:Q ((n:Int)-1,-1,n) s):wpAny (model prog w) A (Builtin.Slice.sliceApplied (.ref sl) (pure (n:Int))) Q E s:=by
 obtain⟨os,hos,hcs,hds⟩:=id hs
 unfold Builtin.Slice.sliceApplied Builtin.Slice.sliceFields
 refine wpAny_bind (wpAny_bind (wpAny_field hos hds (x:=.none) rfl (wpAny_bind (wpAny_field hos hds (x:=.none) rfl (wpAny_bind (wpAny_field hos hds (x:=vk) rfl (wpAny_pure ?_)))))))
 refine wpAny_bind (hZ pk ?_)
 dsimp only
 rw [if_neg (by decide)]
 refine wpAny_bind (slicePart_none (wpAny_bind (slicePart_none (wpAny_bind (wpAny_pure ?_)))))
 show wpAny _ _ (pure ((Builtin.Slice.sliceAdjust none none (-1) (n:Int)).1,(-1:Int),Builtin.Slice.slicePlaces (Builtin.Slice.sliceAdjust none none (-1) (n:Int)).1 (Builtin.Slice.sliceAdjust none none (-1) (n:Int)).2 (-1))) _ _ s
 rw [oh]
 dsimp only
 rw [oo]
 exact wpAny_pure h
theorem rJ {t sl:Addr} {items:Array Value} {vk:Value} {Q:Value→Shared→Prop} (ht:IsTup s.heap t items) (hs:s.heap.IsSliceOf sl .none .none vk) (pk:IsPart vk (some (-1))) (hz:items.size≤sizeLine)
  (q:Q (.ref s.heap.objs.size) { s with heap:=s.heap.push { cls:=.type "tuple",data:=.seq items.toList.reverse.toArray } }):wpAny (model prog w) A (getItem (.ref t) (.ref sl)) Q E s:=by
 obtain⟨os,hos,hcs,hds⟩:=id hs
 have hTs:s.TypeIs (.ref sl) "slice":=⟨os,hos,hcs⟩
 have hsz:sizeOk (.seq items.toList.reverse.toArray):=by
  show items.toList.reverse.toArray.size≤sizeLine
  rw [List.size_toArray,List.length_reverse,Array.length_toList]
  exact hz
 unfold getItem
 try with_reducible refine wpAny_holding ?_
 first | refine wpAny_bind (wpAny_pure ?_) | skip
 refine wpAny_bind (wpAny_sequenceKey ht.typeIs (by decide) ?_)
 refine wpAny_bind (wpAny_callSpecial?_slot (name:=Str.ofString "__getitem__") ht.typeIs slot_tuple_getitem (wpAny_call_entry slot_tuple_getitem ht.typeIs entry_tuple_getitem ?_ (args_tuple_getitem _ _)))
 show wpAny _ _ (Builtin.Tuple.tupleItemsOf _ >>= _) _ _ _
 refine wpAny_bind (tupleItemsOf_ ht ?_)
 refine wpAny_bind (wpAny_typeOf hTs ?_)
 rw [if_pos (by decide)]
 refine wpAny_bind (iI hs pk ?_)
 dsimp only
 rw [if_neg (by simp),tP]
 first
  | exact wpAny_bind (m:=Builtin.Tuple.tupleExact _) (wpAny_newObj_type (wpAny_pure ⟨_,rfl,wpAny_pure q⟩) hsz)
  | exact wpAny_bind (wpAny_bind (m:=Builtin.Tuple.tupleExact _) (wpAny_newObj_type (wpAny_pure (wpAny_pure ⟨_,rfl,wpAny_pure q⟩)) hsz))
  | exact wpAny_bind (m:=Builtin.Tuple.tupleExact _) (wpAny_newObj_type (wpAny_bind (wpAny_pure (wpAny_pure ⟨_,rfl,wpAny_pure q⟩))) hsz)
  | exact wpAny_bind (wpAny_bind (m:=Builtin.Tuple.tupleExact _) (wpAny_newObj_type (wpAny_pure ⟨_,rfl,wpAny_pure q⟩) hsz))
end
end Tsl
def Aq (K:PySem.W.Frag) (te:TE) (tk:TO):TE:=fun σ H Q=>te σ H fun x H1=>tk σ H1 fun o H2=>o=some (-1)∧∃ a xs,x=.ref a∧bD K H2 a xs∧∀ p,H2 p=none→Q (.ref p) (upd H2 p (.tup xs.reverse))
section
variable {X:Cx} {e k:Expr} {te:TE} {tk:TO} {p2 pos:Pos}
theorem zt (he:PE X e te) (hk:PO X (some k) tk)
  (hs:∀ a b:Addr,∃ ops,subscripted (.Slice none none (some k) p2) false (.ref a) (.ref b)=operate ops (getItem (.ref a) (.ref b)):=by intro a b;exact⟨_,by with_unfolding_all rfl⟩):PE X (.Subscript e (.Slice none none (some k) p2) pos) (Aq X.K te tk):=by
 intro pins s σ H Q I h
 refine Subscript_ (bo (he pins s σ H _ I h) fun v s1 ⟨x,H1,I1,r1,q1⟩=>?_)
 refine wpAny_Slice ?_
 rw [evalPart_none]
 refine wpAny_pure (wpAny_pure ?_)
 refine bo (hk pins s1 σ H1 _ I1 q1) fun vk s3 ⟨o,H3,I3,pk,eo,a,xs,ex,hx,q3⟩=>?_
 subst eo
 subst ex
 cases r1
 have I4:Inv X pins σ H3 { s3 with heap:=s3.heap.push { cls:=.type "slice",data:=.fields #[.none,.none,vk] } }:=I3.kept (t':=s3.toks) fun b ob q=>Heap.get?_push_of_some _ q
 obtain⟨its,r,ht,hz⟩:=I4.tuple hx
 have hlen:=r.length
 show wpAny (model X.prog X.w) X.A (subscriptTail e (.Slice none none (some k) p2) (.ref a) (.ref s3.heap.objs.size)) (EP X pins σ Q) X.xe { s3 with heap:=s3.heap.push { cls:=.type "slice",data:=.fields #[.none,.none,vk] } }
 obtain⟨ops,hops⟩:=hs a s3.heap.objs.size
 refine tail_any (ops:=ops) ht.typeIs slot_tuple_getitem.lookup ?_ hops
 refine Tsl.rJ ht (Heap.IsSliceOf.new ..) pk (by rw [List.size_toArray]<;>omega) ?_
 refine⟨.ref _,_,I4.laid (t':=s3.toks) (o:=.tup xs.reverse) (fun b ob q=>Heap.get?_push_of_some _ q) (Nat.le_refl _) ?_,rfl,q3 _ (I4.hok.fresh (Nat.le_refl _))⟩
 exact⟨by rw [List.length_reverse];exact hz,_,r.rev,IsTup.new _ _⟩
end
end L2
namespace L2
open PySem PySem.Spec PyProof.Rows
section
variable {prog:Program} {w:World} {K:Type} [DecidableEq K] {knd:HeapKind prog w K} {A:Around} {E:Value→Shared→Prop} {s:Shared}
def m7 (xs:List (K × Addr × Value)) (k:K):List (K × Addr × Value):=xs.filter fun x=>decide (x.1≠k)
theorem sD:∀{xs:List (K × Addr × Value)} {k:K} {p:Addr × Value} {j:Nat},(xs.map (·.1)).Nodup→xs[j]?=some (k,p)→xs.eraseIdx j=m7 xs k
 | [],_,_,_,_,h=>by simp at h
 | x::r,k,p,0,hn,h=>by
  have e:x=(k,p):=by simpa using h
  subst e
  rw [List.map_cons,List.nodup_cons] at hn
  show r=m7 ((k,p)::r) k
  unfold m7
  rw [List.filter_cons_of_neg (by simp)]
  refine (List.filter_eq_self.mpr fun y hy=>?_).symm
  exact decide_eq_true fun z=>hn.1 (List.mem_map.mpr ⟨y,hy,z⟩)
 | x::r,k,p,j+1,hn,h=>by
  have h':r[j]?=some (k,p):=by simpa using h
  rw [List.map_cons,List.nodup_cons] at hn
  have ne:x.1≠k:=fun z=>hn.1 (List.mem_map.mpr ⟨(k,p),List.mem_of_getElem? h',z.symm⟩)
  show x::r.eraseIdx j=m7 (x::r) k
  unfold m7
  rw [List.filter_cons_of_pos (by simpa using ne),sD hn.2 h']
  rfl
theorem u5 {d a:Addr} {xs:List (K × Addr × Value)} {k:K} {p:Addr × Value} {Q:Option DictEntry→Shared→Prop} (hu:knd.room A) (hkey:knd.is s.heap k a) (hm:s.heap.DictOfH knd d xs) (hp:atKey xs k=some p) (hsz:xs.length≤sizeLine)
  (h:∀ e h',e.val=p.2→h'.DictOfH knd d (m7 xs k)→Heap.SameBut d s.heap h'→Q (some e) { s with heap:=h',toks:=s.toks+knd.draws k }) :
  wpAny (model prog w) A (Builtin.Dict.takeOut d (.ref a)) Q E s:=by
 obtain⟨o,es,ep,ho,hc,hd,he,his,hn⟩:=hm
 unfold Builtin.Dict.takeOut
 try with_reducible refine wpAny_holding ?_
 refine wpAny_bind (knd.pyHash hu hkey (wpAny_bind (wpAny_dictFind_heap (s:={ s with toks:=s.toks+knd.draws k }) hu hkey ho hd he his hn (fun no=>?_) fun j q hj=>?_)))
 ·rw [atKey_none_of_get no] at hp;cases hp
 have eq:q=p:=by rw [atKey_of_get hn hj] at hp;exact Option.some.inj hp
 subst eq
 refine wpAny_bind (wpAny_dictEntries (s:={ s with toks:=s.toks+knd.draws k }) ho hd ?_)
 rw [entry_at he j,hj]
 have sz:=size_of_entries he
 refine wpAny_bind (wpAny_updateDictKeys (hz:=by omega) (s:={ s with toks:=s.toks+knd.draws k }) ho hd (wpAny_pure (h _ _ rfl ⟨_,_,ep+1,Heap.get?_update_self _ ho (Obj.isFreed_of_dict (Obj.data_mapDictKeys hd _)),hc.mapDictKeys _,Obj.data_mapDictKeys hd _,?_,?_,?_⟩ (Heap.SameBut.update ..))))
 ·rw [← sD hn hj,show (xs.eraseIdx j).map (entryOfKey knd)=(xs.map (entryOfKey knd)).eraseIdx j from by simp [List.eraseIdx_eq_take_drop_succ],← he]
  obtain⟨l⟩:=es
  simp
 ·intro x hx
  exact knd.keeps (his x (List.mem_filter.mp hx).1) ho hd (Heap.SameBut.update ..)
 ·exact List.Nodup.sublist (List.Sublist.map _ List.filter_sublist) hn
theorem w6 {d a:Addr} {xs:List (K × Addr × Value)} {k:K} {p:Addr × Value} {Q:Value→Shared→Prop} (hu:knd.room A.in1) (hkey:knd.is s.heap k a) (hm:s.heap.DictOfH knd d xs) (hp:atKey xs k=some p) (hsz:xs.length≤sizeLine)
  (h:∀ h',h'.DictOfH knd d (m7 xs k)→Heap.SameBut d s.heap h'→Q p.2 { s with heap:=h',toks:=s.toks+knd.draws k }) :
  wpAny (model prog w) A (call (.builtin "dict.pop") [.ref d,.ref a]) Q E s:=by
 have hT:s.TypeIs (.ref d) "dict":=by obtain⟨o,es,ep,ho,hc,_⟩:=hm;exact⟨o,ho,hc.1⟩
 refine wpAny_call_entry PySem.F.slot_dict_pop hT PySem.F.entry_dict_pop ?_ (PySem.F.args_dict_pop_2 _ _)
 obtain⟨o,es,ep,ho,hc,hd,he,his,hn⟩:=id hm
 unfold Builtin.«dict.pop»
 refine wpAny_bind ?_
 unfold Builtin.Dict.keyAndDefault
 refine wpAny_bind (wpAny_notOrdered_dict hT ?_)
 show wpAny _ _ (pure (d,Value.ref a,none)) _ _ s
 refine wpAny_pure ?_
 dsimp only
 have kn:(keyPart (Value.ref a)).isSome=false:=rfl
 have ne:es.isEmpty=false:=by
  have sz:=size_of_entries he
  have:xs≠[]:=fun z=>by rw [z] at hp;cases hp
  have:0<xs.length:=List.length_pos_iff.mpr this
  rw [Array.isEmpty_eq_false_iff]
  intro z
  rw [z] at sz
  simp at sz
  omega
 simp only [kn,Bool.false_eq_true,if_false]
 refine wpAny_bind (wpAny_dictEntries ho hd ?_)
 refine wpAny_bind (wpAny_pure ?_)
 rw [ne]
 simp only [Bool.false_eq_true,if_false]
 refine wpAny_bind (u5 hu hkey hm hp hsz fun e h' ev dd hs=>?_)
 simp only [Option.isNone_some,Bool.false_eq_true,if_false]
 exact wpAny_bind (wpAny_letGo (wpAny_pure ⟨e.val,rfl,by rw [ev];exact h h' dd hs⟩))
end
end L2
namespace L2
open PySem PySem.Spec PyProof.Rows PySem.W
def iS (h:Heap) (d:Addr) (es:Array DictEntry) (ep:Nat):Prop:=∃ o,h.get? d=some o∧o.ExactDict∧o.data=.dict es ep
theorem iS.gE {h h':Heap} {d:Addr} {es:Array DictEntry} {ep:Nat} (x:iS h d es ep) (k:∀ o,h.get? d=some o→h'.get? d=some o):iS h' d es ep:=by
 obtain⟨o,a,b⟩:=x
 exact⟨o,k _ a,b⟩
section
variable {P:Program} {w:World} {A:Around} {E:Value→Shared→Prop} {s:Shared} {d:Addr} {es:Array DictEntry} {ep:Nat}
theorem iS.type (x:iS s.heap d es ep):s.TypeIs (.ref d) "dict":=by obtain⟨o,a,c,_⟩:=x;exact⟨o,a,c.1⟩
theorem v3 {Q:Value→Shared→Prop} (nd:(d==sysModules)=false) (x:iS s.heap d es ep)
  (q:Q (.ref s.heap.objs.size) { s with heap:=s.heap.push { cls:=.type "dict_keyiterator",data:=.fields #[.ref d,.int 0 0,.int es.size 0,.int ep 0] } }):wpAny (model P w) A (pyIter (.ref d)) Q E s:=by
 have t:=x.type
 obtain⟨o,a,c,e⟩:=x
 refine wpAny_pyIter_slot t F.slot_dict_iter (wpAny_call_entry F.slot_dict_iter t F.entry_dict_iter ?g (F.args_dict_iter_1 _))
 unfold Builtin.«dict.__iter__» Builtin.Dict.dictSlotNone
 refine wpAny_bind (wpAny_bind (wpAny_notOrdered_dict t (wpAny_pure (α:=Value) (a:=.ref d) ?_)))
 unfold Builtin.Dict.showsAll
 show wpAny _ _ ((if (d==sysModules)=true then _ else _) >>= _) _ _ s
 rw [if_neg (by rw [nd];simp)]
 refine wpAny_bind (wpAny_pure (wpAny_bind (wpAny_dictEntries a e (wpAny_bind (wpAny_dictEpoch a e ?_)))))
 exact wpAny_bind (wpAny_newObj_type (wpAny_pure ⟨_,rfl,"dict_keyiterator",_,⟨_,Heap.get?_push_size _ rfl,rfl⟩,F.slot_dict_keyiterator_next.lookup,q⟩))
theorem wb {it:Addr} {i:Nat} {x:DictEntry} {Q:Option Value→Shared→Prop} (ki:s.heap.IsKeyIter it d i es.size ep) (m:iS s.heap d es ep) (hx:es[i]?=some x)
  (q:∀ h',h'.IsKeyIter it d (i+1) es.size ep→Heap.SameBut it s.heap h'→Q (some x.key) { s with heap:=h' }):wpAny (model P w) A (pyNext (.ref it)) Q E s:=by
 have t:=ki.typeIs
 obtain⟨o,ho,hc,hd⟩:=id ki
 obtain⟨od,a,c,e⟩:=m
 unfold pyNext
 refine wpAny_bind (wpAny_attempt (wpAny_callSpecial?_slot (name:=Str.ofString "__next__") t F.slot_dict_keyiterator_next (wpAny_call_entry F.slot_dict_keyiterator_next t F.entry_dict_keyiterator_next ?g (F.args_dict_keyiterator_next_1 _))))
 refine wpAny_bind (wpAny_pure (wpAny_bind (wpAny_bind ?_)))
 refine wpAny_bind (wpAny_typeNameOfWhole_keyiter t (wpAny_pure (wpAny_bind (wpAny_fieldsOf ho hd ?_))))
 simp only [show Builtin.Dict_items.ownsTuple "dict_keyiterator"=false by decide,Bool.false_eq_true,if_false]
 show wpAny _ _ (if (Value.ref d==Value.none)=true then _ else _) _ _ s
 rw [if_neg (by exact Bool.false_ne_true)]
 refine wpAny_bind (wpAny_pure (wpAny_bind (wpAny_dictEntries a e ?_)))
 rw [if_neg (by simp)]
 refine wpAny_bind (wpAny_pure (wpAny_bind (wpAny_dictEpoch a e ?_)))
 rw [if_neg (by simp)]
 refine wpAny_pure ?_
 simp only [show ¬((i:Int)<0) from by omega,if_false,Int.toNat_natCast,hx]
 refine wpAny_bind (wpAny_bind (wpAny_typeNameOfWhole_keyiter t (wpAny_pure (wpAny_bind (wpAny_isOneOf_keyiter t ?_)))))
 show wpAny _ _ (setField (.ref it) 1 (rawInt ((i:Int)+1)) >>= _) _ _ s
 refine wpAny_bind (wpAny_setField ho hd (by simp) ?_)
 have ki':(s.heap.update it (Obj.mapFields (·.setIfInBounds 1 (rawInt ((i:Int)+1))))).IsKeyIter it d (i+1) es.size ep :=
  ⟨_,Heap.get?_update_self _ ho (Obj.isFreed_of_fields (Obj.data_mapFields hd _)),(Obj.cls_mapFields ..).trans hc,by rw [Obj.data_mapFields hd];simp [rawInt]⟩
 refine wpAny_bind (wpAny_holding (wpAny_bind (wpAny_isOneOf_keyiter (s:={ s with heap:=s.heap.update it (Obj.mapFields (·.setIfInBounds 1 (rawInt ((i:Int)+1)))) }) ki'.typeIs ?_)))
 show wpAny _ _ (pure x.key) _ _ _
 exact wpAny_pure (wpAny_pure ⟨_,rfl,wpAny_pure (q _ ki' (Heap.SameBut.update ..))⟩)
theorem yF {it:Addr} {i:Nat} {Q:Option Value→Shared→Prop} (hh:A.handled=none) (ki:s.heap.IsKeyIter it d i es.size ep) (m:iS s.heap d es ep) (hx:es[i]?=none)
  (q:∀ h',Heap.ExtBut it s.heap h'→Q none { s with heap:=h' }):wpAny (model P w) A (pyNext (.ref it)) Q E s:=by
 have t:=ki.typeIs
 obtain⟨o,ho,hc,hd⟩:=id ki
 obtain⟨od,a,c,e⟩:=m
 unfold pyNext
 refine wpAny_bind (wpAny_attempt (wpAny_callSpecial?_slot (name:=Str.ofString "__next__") t F.slot_dict_keyiterator_next (wpAny_call_entry F.slot_dict_keyiterator_next t F.entry_dict_keyiterator_next ?g (F.args_dict_keyiterator_next_1 _))))
 refine wpAny_bind (wpAny_pure (wpAny_bind (wpAny_bind ?_)))
 refine wpAny_bind (wpAny_typeNameOfWhole_keyiter t (wpAny_pure (wpAny_bind (wpAny_fieldsOf ho hd ?_))))
 simp only [show Builtin.Dict_items.ownsTuple "dict_keyiterator"=false by decide,Bool.false_eq_true,if_false]
 show wpAny _ _ (if (Value.ref d==Value.none)=true then _ else _) _ _ s
 rw [if_neg (by exact Bool.false_ne_true)]
 refine wpAny_bind (wpAny_pure (wpAny_bind (wpAny_dictEntries a e ?_)))
 rw [if_neg (by simp)]
 refine wpAny_bind (wpAny_pure (wpAny_bind (wpAny_dictEpoch a e ?_)))
 rw [if_neg (by simp)]
 refine wpAny_pure ?_
 simp only [show ¬((i:Int)<0) from by omega,if_false,Int.toNat_natCast,hx]
 refine wpAny_bind (wpAny_bind (wpAny_typeNameOfWhole_keyiter t (wpAny_pure ?_)))
 show wpAny _ _ (setField (.ref it) 0 .none >>= _) _ _ s
 refine wpAny_bind (wpAny_setField ho hd (by simp) ?_)
 show wpAny _ _ (PySem.newExc (.type "StopIteration") [] >>= _) _ _ _
 refine wpAny_bind ?_
 simp only [PySem.newExc,newTuple]
 refine wpAny_bind (wpAny_newObj_type (wpAny_bind (m:=firstArgMember _ _) (wpAny_of_eq (a:=Value.none) (by first | rfl | (simp only [firstArgMember];rfl)) (wpAny_newObj_type ?_ (by size_fits)))) (by size_fits))
 simp only [raiseNew]
 refine wpAny_bind (wpAny_handled ?_)
 rw [show A.in1.handled=none from hh]
 refine wpAny_bind (wpAny_pure (wpAny_throw ?th))
 refine wpAny_bind (wpAny_isInstance (b:=true) (T := "StopIteration") ⟨_,Heap.get?_push_size _ rfl,rfl⟩ isSubtype_stop ?_)
 exact wpAny_pure (q _ (((Heap.SameBut.update ..).extBut.push _).push _))
theorem tY (hh:A.handled=none) (I:Addr) (hne:d≠I):Walks P w A I [I,d] [I] es.size (fun i v=>∃ x,es[i]?=some x∧v=x.key) (fun i h=>h.IsKeyIter I d i es.size ep∧iS h d es ep) where
 sub:=fun b hb=>by simp at hb;simp [hb]
 frame:=fun _ _ _ st k=>⟨st.1.at fun o e=>k I (by simp) o e,st.2.gE fun o e=>k d (by simp) o e⟩
 item:=fun i s Q E hi st q=>by
  refine wb st.1 st.2 (Array.getElem?_eq_getElem hi) fun h' ki hs=>?_
  exact q _ h' s.toks ⟨_,Array.getElem?_eq_getElem hi,rfl⟩ ⟨ki,st.2.gE fun o e=>hs.extBut d o hne e⟩ fun b o hb e=>hs.extBut b o (fun z=>hb (by simp [z])) e
 done:=fun s Q E st q=>yF hh st.1 st.2 (by simp) fun h' k=>q h' s.toks fun b o hb e=>k b o (fun z=>hb (by simp [z])) e
 self:=fun _ _ _ _ st q=>wpAny_pyIter_keyiter st.1 q
theorem qM {h:Heap} (x:iS h d es ep):d<h.objs.size:=by obtain⟨o,a,_⟩:=x;exact Heap.lt_size a
theorem yG (nd:(d==sysModules)=false):KdlSrc P w "dict" d d es.size (fun i v=>∃ x,es[i]?=some x∧v=x.key) (fun h=>iS h d es ep) where
 type:=fun _ x=>x.type
 there:=fun _ x=>⟨qM x,qM x⟩
 keep:=fun _ _ x k=>x.gE fun o e=>k d (.inl rfl) o e
 notList:=by decide
 notTuple:=by decide
 hint:=fun _ _ _ _ x q=>kdl_hint_dict x.type q
 iter:=fun _ _ hh x=>⟨_,_,(fun _ _ q=>v3 nd x q),tY hh _ (Nat.ne_of_lt (qM x)),⟨⟨_,Heap.get?_push_size _ rfl,rfl,rfl⟩,x.gE fun o e=>Heap.get?_push_of_some _ e⟩⟩
end
section
variable {X:Cx} {pins:List (Addr × Obj)} {σ:St} {H:Hp} {s:Shared} {A:Around} {E:Value→Shared→Prop}
theorem vE {a:Addr} {kvs:List (List Key × V)} (I:Inv X pins σ H s) (e:H a=some (.dT kvs)):kvs.length≤sizeLine∧(a==sysModules)=false∧∃ es ep,iS s.heap a es ep∧es.size=kvs.length∧∀(i:Nat) x,es[i]?=some x→∃ k v b,kvs[i]?=some (k,v)∧x.key=.ref b∧H b=some (.tup (k.map kV)):=by
 obtain⟨z,y,xs,r,o,es,ep,h1,h2,h3,h4,h5⟩:=(show br X.prog X.w H s.heap a (.dT kvs) from I.hok a _ e)
 have l1:kvs.length=xs.length:=Paired.length r
 have l2:es.size=xs.length:=by rw [← Array.length_toList,h4,List.length_map]
 refine⟨z,y,es,ep,⟨o,h1,h2,h3⟩,by omega,fun i x hx=>?_⟩
 have hx':(xs.map (entryOfKey (tupleKind (bF X.prog X.w))))[i]?=some x:=by rw [← h4,Array.getElem?_toList];exact hx
 rw [List.getElem?_map] at hx'
 obtain⟨y0,e1,e2⟩:=Option.map_eq_some_iff.mp hx'
 have hg:∀{l:List (List Key × V)} {m:List (List Key × Addr × Value)} (i:Nat),Paired (fun(p:List Key × V) (q:List Key × Addr × Value)=>p.1=q.1∧H q.2.1=some (.tup (p.1.map kV))∧RelV p.2 q.2.2) l m→∀ y,m[i]?=some y→∃ p,l[i]?=some p∧H y.2.1=some (.tup (p.1.map kV)):=by
  intro l m i q
  induction q generalizing i with
  | nil=>intro y z;simp at z
  | cons a t ih =>
   intro y z
   cases i with
   | zero=>simp at z;subst z;exact⟨_,rfl,a.2.1⟩
   | succ i=>exact ih i y (by simpa using z)
 obtain⟨p,e3,e4⟩:=hg i r y0 e1
 exact⟨p.1,p.2,y0.2.1,e3,by rw [← e2];rfl,e4⟩
def Bt:List V→Hp→VK→Prop:=fun xs H Q=>∃(a:Addr) (kvs:List (List Key × V)),xs=[.ref a]∧H a=some (.dT kvs)∧∀(p:Addr) (bs:List Addr),bs.length=kvs.length→(∀(i:Nat) b,bs[i]?=some b→∃ k v,kvs[i]?=some (k,v)∧H b=some (.tup (k.map kV)))→H p=none→Q (.ref p) (upd H p (.lst (bs.map V.ref)))
theorem sN {Pr:Nat→Addr→Prop}:∀(vs:List Value),(∀(i:Nat) v,vs[i]?=some v→∃ b,v=.ref b∧Pr i b)→∃ bs:List Addr,bs.length=vs.length∧Vals (bs.map V.ref) vs∧∀(i:Nat) b,bs[i]?=some b→Pr i b
 | [],_=>⟨[],rfl,.nil,fun i b z=>by simp at z⟩
 | v::vs,h=>by
  obtain⟨b,e,pb⟩:=h 0 v rfl
  obtain⟨bs,l,r,q⟩:=sN (Pr:=fun i=>Pr (i+1)) vs fun i u z=>h (i+1) u (by simpa using z)
  subst e
  refine⟨b::bs,by simp [l],.cons rfl r,fun i c z=>?_⟩
  cases i with
  | zero=>simp at z;subst z;exact pb
  | succ i=>exact q i c (by simpa using z)
theorem qH (hc:X.calm=true):cZ X (.type "list") Bt:=by
 intro pins s σ H xs us Q I r h
 obtain⟨a,kvs,rfl,ha,q⟩:=h
 obtain⟨u,rfl,ru⟩:=vals1 r
 cases ru
 obtain⟨z,nd,es,ep,de,sz,ent⟩:=vE I ha
 refine kdl_call (yG (P:=X.prog) (w:=X.w) (es:=es) (ep:=ep) nd) (I.ok.hd hc) de (by omega) fun h' tk acc c k hD hacc=>?_
 obtain⟨bs,l,rv,qb⟩:=sN (Pr:=fun i b=>∃ k v,kvs[i]?=some (k,v)∧H b=some (.tup (k.map kV))) acc.toList fun i v e=>by
  obtain⟨x,e1,e2⟩:=hacc.2 i v (by rw [← Array.getElem?_toList];exact e)
  obtain⟨kk,vv,b,e3,e4,e5⟩:=ent i x e1
  exact⟨b,by rw [e2,e4],kk,vv,e3,e5⟩
 have al:acc.toList.length=kvs.length:=by rw [Array.length_toList,hacc.1,sz]
 have fT:H s.heap.objs.size=none:=I.hok.fresh (Nat.le_refl _)
 refine⟨.ref s.heap.objs.size,upd H s.heap.objs.size (.lst (bs.map V.ref)),?_,rfl,q _ bs (by omega) qb fT⟩
 exact I.laid k (Nat.le_refl _) ⟨by rw [List.length_map];omega,acc.toList,c,rv,by rw [hD]⟩
def xp:List V→Hp→VK→Prop:=fun xs H Q=>∃(a:Addr) (n:Nat),xs=[.ref a]∧((∃ kvs,H a=some (.dT kvs)∧n=kvs.length)∨∃ kvs,H a=some (.dK kvs)∧n=kvs.length)∧Q (.int n) H
theorem yQ {d:Addr} {es:Array DictEntry} {ep:Nat} {P:Program} {w:World} {Q:Value→Shared→Prop} (nd:(d==sysModules)=false) (x:iS s.heap d es ep) (fit:es.size≤sizeLine)
  (q:Q (.int es.size (s.toks+1)) { s with toks:=s.toks+1+1 }):wpAny (model P w) A (call (.builtin "len") [.ref d]) Q E s:=by
 have f63:(es.size:Int)<2^63:=by rw [sizeLine_eq] at fit;omega
 refine Calls.call_function_entry kind_len plain_len entry_len (args_len1 _) ?_
 have t:=x.type
 obtain⟨o,a,c,e⟩:=x
 unfold Builtin.«len»
 refine wpAny_bind (m:=oneArg "len" _) (wpAny_pure (wpAny_bind (m:=callSpecial? (.ref d) (Str.ofString "__len__")) (wpAny_callSpecial?_slot (name:=Str.ofString "__len__") t F.slot_dict_len (wpAny_call_entry F.slot_dict_len t F.entry_dict_len ?g (F.args_dict_len_1 _)))))
 show wpAny _ _ (dictSize d >>= _) _ _ s
 unfold dictSize
 refine wpAny_bind (wpAny_bind (wpAny_dictEntries a e (wpAny_pure ?_)))
 show wpAny _ _ (Builtin.Dict.pendingCount d >>= _) _ _ s
 refine wpAny_bind (wpAny_pendingCount_other nd (wpAny_ret_mkInt ?_))
 simp only [show ((es.size:Int)+((0:Nat):Int))=(es.size:Int) from Int.add_zero _]
 refine wpAny_bind (wpAny_holding (wpAny_pure (wpAny_bind (wpAny_letGo ?_))))
 show wpAny _ _ (if ((es.size:Nat):Int)<0 then _ else _) _ _ _
 rw [if_neg (by omega)]
 show wpAny _ _ (if ((es.size:Nat):Int)≥2^63 then _ else _) _ _ _
 rw [if_neg (by omega)]
 exact wpAny_bind (wpAny_mkInt (wpAny_pure ⟨_,rfl,q⟩))
theorem cT:cZ X (.builtin "len") xp:=by
 intro pins s σ H xs us Q I r h
 obtain⟨a,n,rfl,ha,q⟩:=h
 obtain⟨u,rfl,ru⟩:=vals1 r
 cases ru
 rcases ha with⟨kvs,ha,rfl⟩|⟨kvs,ha,rfl⟩
 ·obtain⟨z,nd,es,ep,de,sz,_⟩:=vE I ha
  exact yQ nd de (by omega) ⟨.int kvs.length,H,I.tok _,⟨_,by rw [sz]⟩,q⟩
 ·exact Cb I (.inl ha) fun t s' I'=>⟨.int kvs.length,H,I',⟨t,rfl⟩,q⟩
def rG (td ty:TE):TE:=fun σ H Q=>td σ H fun x H1=>∃ a,x=.ref a∧DE H1 a∧ty σ H1 fun y H2=>∃ kvs k b v,H2 a=some (.dT kvs)∧y=.ref b∧H2 b=some (.tup (k.map kV))∧bV kvs k=some v∧Q v (upd H2 a (.dT (bL kvs k)))
theorem KT.off {kvs:List (List Key × V)} {xs:List (List Key × Addr × Value)} (r:KT H kvs xs) (k:List Key):KT H (bL kvs k) (m7 xs k):=by
 induction r with
 | nil=>exact .nil
 | @cons p q ps qs hq t ih =>
  unfold bL m7
  by_cases c:p.1=k
  ·rw [List.filter_cons_of_neg (by simpa using c),List.filter_cons_of_neg (by simpa using hq.1▸c)]
   exact ih
  ·rw [List.filter_cons_of_pos (by simpa using c),List.filter_cons_of_pos (by simpa using hq.1▸c)]
   exact .cons hq ih
theorem pP {o e:Expr} {apos cpos:Pos} {td ty:TE} (hu:X.A.units+1<cLine) (ho:PE X o td) (he:PE X e ty) (m:M1 X o "pop" apos e cpos):PE X (.Call (.Attribute o "pop" apos) [e] [] cpos) (rG td ty):=by
 intro pins s σ H Q I h
 refine wpAny_Call_method m.base m.yo m.line PySem.F.plainAttrs_dict PySem.F.slot_dict_pop PySem.F.type_dict_pop (bo (ho pins s σ H _ I h) fun u s1 ⟨x,H1,I1,rx,a,ex,d,q1⟩=>?_)
 subst ex
 obtain rfl:u=Value.ref a:=rx
 obtain⟨t1,t2,_⟩:=AW I1 d
 refine⟨t1,t2,?_⟩
 rw [m.trees]
 refine Calls.callWith_builtin rfl (Calls.evalArgs_plain (Calls.spliced_cons (bo (he pins s1 σ H1 _ I1 q1) fun iv s2 ⟨y,H2,I2,ry,kvs,k,b,v,ea,ey,eb,l,q2⟩=>Calls.spliced_nil ?_)))
 subst ey
 obtain rfl:iv=Value.ref b:=ry
 obtain⟨z,nd,xs,rel,dd⟩:=zY I2.hok ea
 obtain⟨w',hw,rw'⟩:=fC.some_of (v:=v) (by rw [← l];exact rel.val k)
 obtain⟨p,hp,ep⟩:=Option.map_eq_some_iff.mp hw
 have lx:kvs.length=xs.length:=Paired.length rel
 refine w6 (tupleKind_room_in1 hu) (i5 I2.hok eb) dd hp (by omega) fun h' dd' hs=>?_
 rw [ep]
 obtain⟨o1,es,ep1,g1,g2,g3,g4,g5,g6⟩:=dd'
 have ht:∀ c ys,H2 c=some (.tup ys)→upd H2 a (.dT (bL kvs k)) c=some (.tup ys):=fun c ys e=>by rw [au (gH e ea (by intro z;cases z))];exact e
 exact⟨v,upd H2 a (.dT (bL kvs k)),jJ (ob:=.dT (bL kvs k)) I2 (by rw [ea];exact True.intro) hs ⟨_,g1⟩ ⟨Nat.le_trans (oI kvs k) z,nd,_,(KT.off rel k).keeps ht,o1,es,ep1,g1,g2,g3,g4,g6⟩,rw',q2⟩
def Cy (K:PySem.W.Frag):List V→Hp→VK→Prop:=fun xs H Q=>∃(a:Addr) (ns:List Int),xs=[.ref a]∧aZ K H a (ns.map V.int)∧ns≠[]∧∀ m,m∈ns→(∀ n∈ns,n≤m)→Q (.int m) H
theorem lU:∀{ns:List Int} {us:List Value},Vals (ns.map V.int) us→IntsAre us ns
 | [],_,.nil=>.nil
 | n::ns,_,.cons ⟨t,e⟩ r=>by subst e;exact .cons _ t (lU r)
theorem lO (hc:X.calm=true):cZ X (.builtin "max") (Cy X.K):=by
 intro pins s σ H xs us Q I r h
 obtain⟨a,ns,rfl,hq,ne,q⟩:=h
 obtain⟨u,rfl,ru⟩:=vals1 r
 cases ru
 obtain⟨its,rv,p,hz⟩:=I.list hq
 have hi:=lU rv
 have hl:=p.isList
 obtain⟨ys,e⟩:=hi.allInts.items
 have hns:ns=ys.toList.map (·.1):=by rw [← hi.numsOf,← nums_intItems,← e]
 have hl0:0<ns.length:=List.length_pos_iff.mpr ne
 have hsz:0<ys.size:=by rw [hns,List.length_map,Array.length_toList] at hl0;exact hl0
 rw [e] at hl
 refine max_intList (I.ok.hd hc) hl hsz fun v h' tk hv hk=>?_
 obtain⟨t,rfl⟩:=intItems_at hv
 obtain⟨b1,b2⟩:=argBest_gt (numAt ys) (ys.size-1)
 refine⟨.int _,H,I.kept hk,⟨t,rfl⟩,q _ ?_ fun n hn=>?_⟩
 ·rw [hns,numAt_eq]
  exact getD_mem (by rw [List.length_map,Array.length_toList];omega)
 ·rw [hns] at hn
  obtain⟨j,hj,rfl⟩:=mem_getD hn
  rw [List.length_map,Array.length_toList] at hj
  rw [← numAt_eq]
  exact b2 j (by omega)
end
end L2
namespace L2
open PySem PySem.Spec PyProof.Rows PySem.W
section
variable {P:Program} {w:World} {K:PySem.W.Frag} {mg:Str→Option Value} {base:Heap} {CX:lq} {k:Nat} {C:Addr} {m qual x:Str} {ps:List Str} {sp:Sp} {st:Stmt}
def AD (K:PySem.W.Frag) (C:Addr) (m qual:Str) (st:Stmt):Prop:=∃ f fd,Meth K C m f∧vg K m qual st f fd
structure b9 (P:Program) (w:World) (K:PySem.W.Frag) (mg:Str→Option Value) (base:Heap) (CX:lq) (k:Nat) (C:Addr) (m:Str) (ps:List Str) (sp:Sp):Prop where
 ex:∃ f fd,Meth K C m f∧cS P w K mg base CX k f fd ps sp∧Binds K fd ps []
theorem A5 {f:Addr} {oc:Value} {od an:Option Addr} {osl:Array (Option Value)} {kV doc pm cdv ct:Value} (a:findIn K (.ref C) m=some (some (.ref f))) (fn:isFn K (.ref f)=true) (kk:keepIn K (.ref f)=true)
  (l:K.lookup f=some ⟨oc,od,.func (fnOf m qual (bA st) (aS st) (ak st) .none kV doc pm an cdv ct),osl⟩) (c:codeIn K cdv qual=true):AD K C m qual st:=⟨f,_,⟨a,fn,kk⟩,qP l c kk⟩
theorem fg {N:List Str} (D:AD K C m qual st)
  (hb:∀(kV doc pm:Value) (an:Option Addr) (cdv ct:Value) (us:List Value),us.length=ps.length→bindArgs (fnOf m qual (bA st) (aS st) (ak st) .none kV doc pm an cdv ct) ⟨us,[]⟩=pure (ps.zip us))
  (S:aA N ps (ak st)) (len:∀ vs H Q E,sp vs H Q E→vs.length=ps.length)
  (hbody:∀(f:Addr) (cdv:Value) (A:Around) (outer:List Env) (s:Shared) (H:Hp) (vs:List V) (Q:VK) (E:XK),bP k (A.deeper (envOfC qual (ak st) s.heap.objs.size f cdv))→sp vs H Q E →
   ∃ t,gF (fc aO P w K mg base N qual (ak st) f cdv A outer s H E).l9 (aS st) t∧t { nx:=fun _ H'=>Q .non H',rt:=Q } (start N vs) H):b9 P w K mg base aO (k+1) C m ps sp:=by
 obtain⟨f,fd,M,F⟩:=D
 exact⟨f,fd,M,F.ok S len fun cdv A outer s H vs Q E hr h=>hbody f cdv A outer s H vs Q E hr h,F.binds hb⟩
structure BR (K:PySem.W.Frag) (mg:Str→Option Value) (x:Str) (C:Addr):Prop where
 cls:lH K C
 at_:mg x=some (.ref C)
 mkn:makesIn K C=true
 kp:keepIn K (.ref C)=true
theorem A8 (a:mg x=some (.ref C)) (p1:plainGet K C Str.empty=true) (p2:hasDictIn K C=true) (p3:plainOver K C=true) (p4:findIn K (.ref C) "__setattr__"=some (some (.builtin "object.__setattr__"))) (p5:makesIn K C=true) (p6:keepIn K (.ref C)=true):BR K mg x C:=⟨⟨p1,p2,p3,p4⟩,a,p5,p6⟩
theorem kC {f:Addr} {oc:Value} {od an:Option Addr} {osl:Array (Option Value)} {kV doc pm cdv ct:Value} (_:BR K mg x C) (a:findIn K (.ref C) m=some (some (.ref f))) (fn:isFn K (.ref f)=true) (kk:keepIn K (.ref f)=true)
  (l:K.lookup f=some ⟨oc,od,.func (fnOf m qual (bA st) (aS st) (ak st) .none kV doc pm an cdv ct),osl⟩) (c:codeIn K cdv qual=true):AD K C m qual st:=A5 a fn kk l c
theorem mZ {f:Str} (_:BR K mg x C) (a:findIn K (.ref C) f=some none):cG K C f:=a
variable {X:Cx} {E:XK} {o e:Expr} {es:List Expr} {ta:TE} {t:TA} {p apos pos:Pos}
theorem kJ {pl:Sem Bool} (D:b9 X.prog X.w X.K X.mg X.base CX k C m ps sp) (c:lH X.K C) (hr:bP k X.A) (hx:Passes CX X E) (he:PE X o ta) (ha:PA X (e::es) t)
  (hst:starEach (e::es) X.env=(false,eval e X.env)::starEach es X.env:=by rfl) (hpl:(backTo pos (starEach es X.env)).any (·.1)=false:=by rfl)
  (ht:eval (.Call (.Attribute o m apos) (e::es) [] pos) X.env=(do
   let ov ← eval o X.env
   standAt apos.atName
   let (f,first) ← holding [ov] (getMethod ov m pl)
   callWith pos f first (backTo pos (starEach (e::es) X.env)) (backToKw pos (keywordEach [] X.env))):=by rfl) :
  PE X (.Call (.Attribute o m apos) (e::es) [] pos) (mH C m sp [] E ta t):=by
 obtain⟨f,fd,M,F,b⟩:=D.ex
 exact zr he c M F hr b .nil hx ha hst hpl ht
theorem uK {pl:Sem Bool} (D:b9 X.prog X.w X.K X.mg X.base CX k C m ps sp) (c:lH X.K C) (hr:bP k X.A) (hx:Passes CX X E) (he:PE X o ta)
  (ht:eval (.Call (.Attribute o m apos) [] [] pos) X.env=(do
   let ov ← eval o X.env
   standAt apos.atName
   let (f,first) ← holding [ov] (getMethod ov m pl)
   callWith pos f first (backTo pos (starEach [] X.env)) (backToKw pos (keywordEach [] X.env))):=by rfl) :
  PE X (.Call (.Attribute o m apos) [] [] pos) (mH C m sp [] E ta uY):=by
 obtain⟨f,fd,M,F,b⟩:=D.ex
 exact wU he c M F hr b .nil hx ht
theorem wR (c:BR X.K X.mg x C) (D:b9 X.prog X.w X.K X.mg X.base CX k C "__init__" ps sp) (hr:bP (k+1) X.A) (hg:Gl X x) (hx:Passes CX X E) (ha:PA X (e::es) t) (hdb:(x==("__debug__":Str))=false:=by decide)
  (he:starEach (e::es) X.env=(false,eval e X.env)::starEach es X.env:=by rfl) (hpl:(backTo pos (starEach es X.env)).any (·.1)=false:=by rfl):PE X (.Call (.Name x p) (e::es) [] pos) (tJ C sp [] E t):=by
 obtain⟨f,fd,M,F,b⟩:=D.ex
 exact zq ⟨c.mkn,M.at_,M.fn,c.kp⟩ F hr hg c.at_ b .nil hx ha hdb he hpl
structure Ay (K:PySem.W.Frag) (x qual:Str) (st:Stmt) (f:Addr) (fd:FuncData) (ds:Array Value):Prop where
 ex:∃(oc:Value) (od:Option Addr) (T:Addr) (o:Obj) (n:Nat) (kV doc pm:Value) (an:Option Addr) (cdv ct:Value) (osl:Array (Option Value)),
  fd=fnOf x qual (bA st) (aS st) (ak st) (.ref T) kV doc pm an cdv ct∧K.lookup f=some ⟨oc,od,.func fd,osl⟩∧codeIn K cdv qual=true∧K.lookup T=some o∧o.data=.seq ds n
 kp:keepIn K (.ref f)=true
def mK (K:PySem.W.Frag) (mg:Str→Option Value) (x:Str) (st:Stmt) (ds:Array Value):Prop:=∃ f fd,Ay K x x st f fd ds∧mg x=some (.ref f)
theorem tW {h:Heap} {f T:Addr} {ds:Array Value} {o:Obj} {n:Nat} {oc:Value} {od an:Option Addr} {osl:Array (Option Value)} {kV doc pm cdv ct:Value} (X:K.In h) (G:h.Ns mainGlobals mg)
  (a:nsIn K mainGlobals x=some (some (.ref f))) (l:K.lookup f=some ⟨oc,od,.func (fnOf x x (bA st) (aS st) (ak st) (.ref T) kV doc pm an cdv ct),osl⟩)
  (c:codeIn K cdv x=true) (kk:keepIn K (.ref f)=true) (lT:K.lookup T=some o) (e:o.data=.seq ds n):mK K mg x st ds:=⟨f,_,⟨⟨oc,od,T,o,n,kV,doc,pm,an,cdv,ct,osl,rfl,l,c,lT,e⟩,kk⟩,mg_of X G a⟩
structure jH (P:Program) (w:World) (K:PySem.W.Frag) (mg:Str→Option Value) (base:Heap) (CX:lq) (k:Nat) (x:Str) (ps:List Str) (ds:List Value) (sp:Sp):Prop where
 ex:∃ f fd,cS P w K mg base CX k f fd ps sp∧mg x=some (.ref f)∧keepIn K (.ref f)=true∧Binds K fd ps []∧Binds K fd ps ds
theorem Ay.binds {f:Addr} {fd:FuncData} {ds:Array Value} {dv:List Value} (F:Ay K x qual st f fd ds)
  (h:∀(T:Addr) (kV doc pm:Value) (an:Option Addr) (cdv ct:Value) (us:List Value),(us++dv).length=ps.length→∃ j,bindArgs (fnOf x qual (bA st) (aS st) (ak st) (.ref T) kV doc pm an cdv ct) ⟨us,[]⟩=seqItems? (.ref T) >>= j∧j (some ds)=pure (ps.zip (us++dv))):Binds K fd ps dv:=by
 obtain⟨oc,od,T,o,n,kV,doc,pm,an,cdv,ct,osl,rfl,lk,hcd,lT,e⟩:=F.ex
 intro s us X hl
 obtain⟨j,h1,h2⟩:=h T kV doc pm an cdv ct us hl
 exact BindsTo.of_defaults rfl (X _ _ lT) e h1 h2
theorem wN {ds:List Value} {aQ:List V} (D:jH X.prog X.w X.K X.mg X.base CX k x ps ds sp) (hd:Vals aQ ds) (hr:bP k X.A) (hg:Gl X x) (hx:Passes CX X E)
  (ha:PA X (e::es) t) (hdb:(x==("__debug__":Str))=false:=by decide) (he:starEach (e::es) X.env=(false,eval e X.env)::starEach es X.env:=by rfl) (hpl:(backTo pos (starEach es X.env)).any (·.1)=false:=by rfl) :
  PE X (.Call (.Name x p) (e::es) [] pos) (mG sp aQ E t):=by
 obtain⟨f,fd,F,hm,hk,_,hb⟩:=D.ex
 exact sH F hr hg hm hk hb hd hx ha hdb he hpl
theorem oA {N:List Str} {ds:Array Value} (D:mK K mg x st ds)
  (hb:∀(T:Addr) (kV doc pm:Value) (an:Option Addr) (cdv ct:Value) (us:List Value),(us++[]).length=ps.length→∃ j,bindArgs (fnOf x x (bA st) (aS st) (ak st) (.ref T) kV doc pm an cdv ct) ⟨us,[]⟩=seqItems? (.ref T) >>= j∧j (some ds)=pure (ps.zip (us++[])))
  (hb2:∀(T:Addr) (kV doc pm:Value) (an:Option Addr) (cdv ct:Value) (us:List Value),(us++ds.toList).length=ps.length→∃ j,bindArgs (fnOf x x (bA st) (aS st) (ak st) (.ref T) kV doc pm an cdv ct) ⟨us,[]⟩=seqItems? (.ref T) >>= j∧j (some ds)=pure (ps.zip (us++ds.toList)))
  (S:aA N ps (ak st)) (len:∀ vs H Q E,sp vs H Q E→vs.length=ps.length)
  (hbody:∀(f:Addr) (cdv:Value) (A:Around) (outer:List Env) (s:Shared) (H:Hp) (vs:List V) (Q:VK) (E:XK),bP k (A.deeper (envOfC x (ak st) s.heap.objs.size f cdv))→sp vs H Q E →
   ∃ t,gF (fc (c6 P w) P w K mg base N x (ak st) f cdv A outer s H E) (aS st) t∧t { nx:=fun _ H'=>Q .non H',rt:=Q } (start N vs) H):jH P w K mg base (c6 P w) (k+1) x ps ds.toList sp:=by
 obtain⟨f,fd,F,hm⟩:=D
 have b1:=F.binds hb
 have b2:=F.binds hb2
 obtain⟨oc,od,T,o,n,kV,doc,pm,an,cdv,ct,osl,rfl,lk,hcd,lT,e⟩:=F.ex
 exact⟨f,_,vK lk hcd S len fun A outer s H vs Q E hr h=>hbody f cdv A outer s H vs Q E hr h,hm,F.kp,b1,b2⟩
end
end L2
namespace L2
open PySem PySem.Spec PyProof.Rows
def BW (q:Nat):Nat→Nat→Nat
 | 0,m=>m
 | f+1,m=>if q≤m*m then m else BW q f (m+1)
def rt (q:Nat):Nat:=BW q q 0
theorem xy {q:Nat}:∀(f m:Nat),(∀ j,j<m→j*j<q)→q≤(m+f)*(m+f)→q≤BW q f m*BW q f m∧∀ j,j<BW q f m→j*j<q
 | 0,m,h,e=>⟨e,h⟩
 | f+1,m,h,e=>by
  unfold BW
  by_cases c:q≤m*m
  ·rw [if_pos c];exact⟨c,h⟩
  ·rw [if_neg c]
   exact xy f (m+1) (fun j hj=>by rcases (by omega:j<m∨j=m) with z | z;exact h j z;rw [z];omega) (by rw [show m+1+f=m+(f+1) by omega];exact e)
theorem sO (q:Nat):q≤rt q*rt q∧∀ j,j<rt q→j*j<q:=xy q 0 (fun j z=>absurd z (Nat.not_lt_zero _)) (by
 rw [Nat.zero_add]
 rcases Nat.eq_zero_or_pos q with z | z
 ·rw [z];exact Nat.zero_le _
 ·exact Nat.le_mul_of_pos_left q z)
theorem CA {q m:Nat} (h1:q≤m*m) (h2:∀ j,j<m→j*j<q):rt q=m:=by
 obtain⟨a,b⟩:=sO q
 rcases Nat.lt_trichotomy (rt q) m with z | z | z
 ·have:=h2 _ z;omega
 ·exact z
 ·have:=b _ z;omega
theorem xA {q:Nat} (h:0<q):0<rt q:=by
 rcases Nat.eq_zero_or_pos (rt q) with z | z
 ·have:=(sO q).1;rw [z] at this;omega
 ·exact z
theorem Aj {q:Nat} (h:0<q):rt q≤q:=by
 rcases Nat.lt_or_ge q (rt q) with z | z
 ·have:=(sO q).2 _ z
  have:=Nat.le_mul_of_pos_left q h
  omega
 ·exact z
theorem zE {q:Nat} (h:q≤10^6):rt q≤1000:=by
 rcases Nat.lt_or_ge 1000 (rt q) with z | z
 ·have:=(sO q).2 _ z;omega
 ·exact z
def c9 (p w:Int) (m:Nat):List (Key × V):=(List.range m).map fun i:Nat=>(Sum.inl (w^i%p),V.int (i:Int))
theorem fv {p w:Int} {m:Nat}:(c9 p w m).length=m:=by unfold c9;rw [List.length_map,List.length_range]
theorem iP {p w:Int} {m:Nat}:c9 p w (m+1)=c9 p w m++[(Sum.inl (w^m%p),V.int m)]:=by unfold c9;rw [List.range_succ,List.map_append];rfl
theorem iO {p w n:Int}:∀{m:Nat},(∀ j,j<m→w^j%p≠n)→bV (c9 p w m) (Sum.inl n)=none
 | 0,_=>rfl
 | m+1,h=>by
  have ih:=iO (p:=p) (w:=w) (n:=n) (m:=m) fun j hj=>h j (by omega)
  by_cases z:bV (c9 p w m) (Sum.inl (w^m%p))=none
  ·rw [iP,gz _ _ _ _ z,if_neg (fun e=>h m (by omega) (Sum.inl.inj e).symm)]
   exact ih
  ·unfold bV at ih z ⊢
   rw [iP,List.find?_append]
   cases e:List.find? (fun kv=>decide (kv.1=Sum.inl n)) (c9 p w m) with
   | some y=>rw [e] at ih;cases ih
   | none =>
    have:¬(Sum.inl (w^m%p):Key)=Sum.inl n:=fun e=>h m (by omega) (Sum.inl.inj e)
    simp [this]
theorem ya {p w:Int}:∀{m:Nat},(∀ i j,i<m→j<m→w^i%p=w^j%p→i=j)→∀ j,j<m→bV (c9 p w m) (Sum.inl (w^j%p))=some (.int j)
 | 0,_,j,hj=>absurd hj (Nat.not_lt_zero _)
 | m+1,h,j,hj=>by
  have z:bV (c9 p w m) (Sum.inl (w^m%p))=none:=iO fun i hi e=>by
   have:=h i m (by omega) (by omega) e
   omega
  rw [iP,gz _ _ _ _ z]
  by_cases c:j=m
  ·rw [c,if_pos rfl]
  ·rw [if_neg (fun e=>c (h j m hj (by omega) (Sum.inl.inj e)))]
   exact ya (fun i j hi hj=>h i j (by omega) (by omega)) j (by omega)
end L2
namespace Num
theorem Ord.co {n a:Int} {m:Nat} (o:Ord n a m):Co a n:=by
 obtain⟨k,hk⟩:∃ k,m=k+1:=⟨m-1,by have:=o.pos;omega⟩
 exact Co.A9 (m:=k) (by rw [← hk];exact o.one)
theorem Ord.kR {n a:Int} {m i j:Nat} (o:Ord n a m) (hi:i<m) (hj:j<m) (e:a^i%n=a^j%n):i=j:=o.inj o.co hi hj (Al.iff.mpr e)
theorem jP {n b:Int} {e q:Nat} (o:Ord n b e) (hd:q∣e):Ord n (b^(e/q)) q:=by
 obtain⟨f,hf⟩:=hd
 have e0:=o.pos
 have q0:0<q:=by rcases Nat.eq_zero_or_pos q with z | z;rw [z,Nat.zero_mul] at hf;omega;exact z
 have f0:0<f:=by rcases Nat.eq_zero_or_pos f with z | z;rw [z,Nat.mul_zero] at hf;omega;exact z
 have ef:e/q=f:=by rw [hf];exact Nat.mul_div_cancel_left f q0
 rw [ef]
 refine⟨q0,?_,fun j hj=>?_⟩
 ·rw [bp,Nat.mul_comm,← hf];exact o.one
 ·rw [bp] at hj
  have:=o.dv _ hj
  rw [hf,Nat.mul_comm q f] at this
  exact Nat.dvd_of_mul_dvd_mul_left f0 this
theorem zw {n w:Int} {q y:Nat} (o:Ord n w q):Al n (w^y) (w^(y%q)):=by
 have h:y=q*(y/q)+y%q:=(Nat.div_add_mod y q).symm
 have h1:=(aN (k:=y/q) o.one).mul (Al.refl n (w^(y%q)))
 rw [Int.one_mul,← Int.pow_add,← h] at h1
 exact h1
theorem vA {n b a r w:Int} {e q x t:Nat} (o:Ord n b e) (hd:q^(t+1)∣e) (ha:Al n a (b^x)) (hr:Al n (r*b^(x%q^t)) 1) (hw:Al n w (b^(e/q))):Al n ((a*r)^(e/q^(t+1))) (w^(x/q^t%q)):=by
 obtain⟨f,hf⟩:=hd
 have e0:=o.pos
 have q0:0<q^(t+1):=by rcases Nat.eq_zero_or_pos (q^(t+1)) with z | z;rw [z,Nat.zero_mul] at hf;omega;exact z
 have qt:0<q^t:=by rcases Nat.eq_zero_or_pos (q^t) with z | z;rw [Nat.pow_succ,z,Nat.zero_mul] at q0;omega;exact z
 have q1:0<q:=by rcases Nat.eq_zero_or_pos q with z | z;rw [Nat.pow_succ,z,Nat.mul_zero] at q0;omega;exact z
 have ef:e/q^(t+1)=f:=by rw [hf];exact Nat.mul_div_cancel_left f q0
 have eq:e/q=q^t*f:=by rw [hf,Nat.pow_succ,Nat.mul_assoc,Nat.mul_comm q f,← Nat.mul_assoc];exact Nat.mul_div_cancel _ q1
 have dq:q∣e:=⟨q^t*f,by rw [hf,Nat.pow_succ,Nat.mul_comm (q^t) q,Nat.mul_assoc]⟩
 have ow:Ord n w q:=kG hw.symm (jP o dq)
 have h1:Al n (a*r) (b^(q^t*(x/q^t))):=by
  have z:=ha.mul (Al.refl n r)
  have hx:x=q^t*(x/q^t)+x%q^t:=(Nat.div_add_mod x (q^t)).symm
  have z2:=(Al.refl n (b^(q^t*(x/q^t)))).mul hr
  rw [Int.mul_one] at z2
  refine z.trans (Al.trans ?_ z2)
  have:b^x*r=b^(q^t*(x/q^t))*(r*b^(x%q^t)):=by
   have hb:b^x=b^(q^t*(x/q^t))*b^(x%q^t):=by rw [← Int.pow_add,← hx]
   rw [hb,Int.mul_assoc,Int.mul_comm (b^(x%q^t)) r]
  rw [this]
  exact Al.refl _ _
 rw [ef]
 have h2:=h1.pow f
 rw [bp] at h2
 have h3:=hw.pow (x/q^t)
 rw [bp,eq] at h3
 have h4:b^(q^t*(x/q^t)*f)=b^(q^t*f*(x/q^t)):=by congr 1;rw [Nat.mul_assoc,Nat.mul_assoc,Nat.mul_comm f]
 rw [h4] at h2
 exact (h2.trans h3.symm).trans (zw ow)
def cU (x q n:Nat):List Nat:=(List.range n).map fun i=>x/q^i%q
theorem ie {x q n:Nat}:(cU x q n).length=n:=by unfold cU;rw [List.length_map,List.length_range]
theorem lQ {x q n:Nat}:cU x q (n+1)=cU x q n++[x/q^n%q]:=by unfold cU;rw [List.range_succ,List.map_append];rfl
theorem rX {x q n i:Nat} (h:i<n):(cU x q n)[i]?=some (x/q^i%q):=by unfold cU;rw [List.getElem?_map,List.getElem?_range h];rfl
theorem pB {x q n i:Nat} (q0:0<q) (hi:i<n):(x%q^n)/q^(n-i)*q+x/q^(n-1-i)%q=(x%q^n)/q^(n-(i+1)):=by
 obtain⟨k,hk⟩:∃ k,n-i=k+1:=⟨n-i-1,by omega⟩
 have e1:n-1-i=k:=by omega
 have e2:n-(i+1)=k:=by omega
 rw [hk,e1,e2]
 have e3:x/q^k%q=(x%q^n)/q^k%q:=by
  have hn:q^n=q^k*(q*q^(n-k-1)):=by rw [← Nat.mul_assoc,← Nat.pow_succ,← Nat.pow_add];congr 1;omega
  rw [hn,Nat.mod_mul_right_div_self,Nat.mod_mul_right_mod]
 rw [e3,Nat.pow_succ,← Nat.div_div_eq_div_mul]
 exact Nat.div_add_mod' _ _
theorem pR {p a b:Int} {e:Nat} (hp:Pm p) (o:Ord p b e) (h:Al p (a^e) 1):∃ x,x<e∧Al p a (b^x):=by
 rcases Classical.em (∃ x,x<e∧Al p a (b^x)) with z | z
 ·exact z
 ·exfalso
  have no:∀ x,x<e→¬Al p a (b^x):=fun x hx hh=>z ⟨x,hx,hh⟩
  obtain⟨m,hm⟩:∃ m,e=m+1:=⟨e-1,by have:=o.pos;omega⟩
  have hlen:(List.replicate m (0:Int)++[-1]).length=e:=by simp [hm]
  have key:=roots hp e (List.replicate m 0++[-1]) 1 hlen (fun hd=>hp.yV (by
   obtain⟨c,hc⟩:=hd
   exact⟨-c,by rw [Int.mul_neg,← hc];omega⟩)) (a::(List.range e).map fun i=>b^i) ?_ ?_
  ·simp at key
   omega
  ·refine List.pairwise_cons.mpr ⟨fun y hy=>?_,?_⟩
   ·obtain⟨i,hi,rfl⟩:=List.mem_map.mp hy
    exact no i (List.mem_range.mp hi)
   ·rw [List.pairwise_map]
    refine List.Pairwise.imp_of_mem ?_ List.pairwise_lt_range
    intro i j hi hj lt hh
    have:=o.inj o.co (List.mem_range.mp hi) (List.mem_range.mp hj) hh
    omega
  ·intro r hr
   rw [vi,Int.one_mul,← hm]
   rcases List.mem_cons.mp hr with rfl | hr
   ·exact h
   ·obtain⟨i,_,rfl⟩:=List.mem_map.mp hr
    have:=aN (k:=i) o.one
    rw [bp,Nat.mul_comm]
    exact this
theorem uP {p a b:Int} {e x y:Nat} (o:Ord p b e) (hx:x<e) (hy:y<e) (h1:Al p a (b^x)) (h2:Al p a (b^y)):x=y:=o.inj o.co hx hy (h1.symm.trans h2)
end Num
namespace L2
open PySem PySem.Spec PyProof.Rows
def dO (a d:Addr) (H H':Hp):Prop:=∀ b o,b≠a→b≠d→H b=some o→H' b=some o
theorem dO.refl {a d:Addr} {H:Hp}:dO a d H H:=fun _ _ _ _ e=>e
theorem dO.trans {a d:Addr} {H H1 H2:Hp} (h:dO a d H H1) (h':dO a d H1 H2):dO a d H H2:=fun b o x y e=>h' b o x y (h b o x y e)
theorem dO.of {a d:Addr} {H H':Hp} (h:aF H H'):dO a d H H':=fun b o _ _ e=>h b o e
theorem dO.CJ {a d:Addr} {H:Hp} {o:HO}:dO a d H (upd H d o):=fun b u _ x e=>by rw [au x];exact e
structure KH where
 a:Addr
 dx:Addr
 d:Addr
 most:Int
 c:Int
 ks:List (Int × Int × Int)
def k3 (x:Int × Int × Int):List Key:=[.inl x.1,.inl x.2.1,.inl x.2.2]
theorem iZ {x y:Int × Int × Int} (h:k3 x=k3 y):x=y:=by
 obtain⟨a,b,c⟩:=x
 obtain⟨a',b',c'⟩:=y
 simp only [k3,List.cons.injEq,Sum.inl.injEq,and_true] at h
 obtain⟨rfl,rfl,rfl⟩:=h
 rfl
def AX (k:KH):List (Str × V):=[("most",.int k.most),("counted",.int k.c),("laid",.ref k.d)]
def KTab (H:Hp) (x:Int × Int × Int) (v:V):Prop:=∃ t,v=.ref t∧H t=some (.dK (c9 x.1 x.2.2 (rt x.2.1.toNat)))
structure qz (H:Hp) (k:KH) (kvs:List (List Key × V)):Prop where
 dict:H k.d=some (.dT kvs)
 keys:kvs.map (·.1)=k.ks.map k3
 nd:k.ks.Nodup
 tab:∀ x v,bV kvs (k3 x)=some v→KTab H x v
structure b8 (C:Addr) (k:KH) (H:Hp):Prop where
 ins:H k.a=some (.ins C k.dx (AX k))
 ex:∃ kvs,qz H k kvs
 m0:0≤k.most
 m1:k.most≤10^6
section
variable {C:Addr} {k:KH} {H H':Hp} {kvs:List (List Key × V)}
theorem KTab.same {x:Int × Int × Int} {v:V} (h:KTab H x v) (s:aF H H'):KTab H' x v:=by obtain⟨t,e,z⟩:=h;exact⟨t,e,s _ _ z⟩
theorem qz.same (h:qz H k kvs) (s:aF H H'):qz H' k kvs:=⟨s _ _ h.dict,h.keys,h.nd,fun x v e=>(h.tab x v e).same s⟩
theorem b8.same (h:b8 C k H) (s:aF H H'):b8 C k H':=⟨s _ _ h.ins,let ⟨kvs,z⟩:=h.ex;⟨kvs,z.same s⟩,h.m0,h.m1⟩
theorem qz.len (h:qz H k kvs):kvs.length=k.ks.length:=by have:=congrArg List.length h.keys;simpa using this
theorem b8.ne (h:b8 C k H):k.a≠k.d:=by
 obtain⟨kvs,z⟩:=h.ex
 exact gH h.ins z.dict (by intro z;cases z)
theorem b8.apart (h:b8 C k H) {b:Addr} {o:HO} (e:H b=some o) (h1:∀ C dx fs,o≠.ins C dx fs) (h2:∀ kvs,o≠.dT kvs):b≠k.a∧b≠k.d:=by
 obtain⟨kvs,z⟩:=h.ex
 exact⟨gH e h.ins (h1 _ _ _),gH e z.dict (h2 _)⟩
theorem b8.keep (h:b8 C k H) (bt:dO k.a k.d H H') {b:Addr} {o:HO} (e:H b=some o) (h1:∀ C dx fs,o≠.ins C dx fs:=by intro _ _ _ z;cases z) (h2:∀ kvs,o≠.dT kvs:=by intro _ z;cases z):H' b=some o :=
 let ⟨x,y⟩:=h.apart e h1 h2;bt b o x y e
theorem b8.fy (h:b8 C k H) (bt:dO k.a k.d H H'):∀ a xs,Rd H a (.tup xs)→Rd H' a (.tup xs):=by
 intro a xs z
 rcases z with z | ⟨o,z⟩
 ·exact .inl (h.keep bt z)
 ·exact .inr ⟨o,h.keep bt z⟩
theorem jW:∀{kvs:List (List Key × V)} {q:List Key},(bV kvs q).isSome=true↔q∈kvs.map (·.1)
 | [],q=>by simp [bV]
 | p::r,q=>by
  by_cases c:p.1=q
  ·rw [b7 c];simp [c]
  ·rw [bR c,jW (kvs:=r)]
   simp only [List.map_cons,List.mem_cons]
   exact⟨.inr,fun z=>z.resolve_left fun e=>c e.symm⟩
theorem qz.mem (h:qz H k kvs) {x:Int × Int × Int}:(bV kvs (k3 x)).isSome=true↔x∈k.ks:=by
 rw [jW,h.keys,List.mem_map]
 exact⟨fun⟨y,hy,e⟩=>iZ e▸hy,fun z=>⟨x,z,rfl⟩⟩
theorem iR {q j:List Key}:∀{kvs:List (List Key × V)},bV (bL kvs q) j=if j=q then none else bV kvs j
 | []=>by unfold bL;simp [bV]
 | p::r=>by
  have ih:=iR (q:=q) (j:=j) (kvs:=r)
  unfold bL at ih ⊢
  by_cases c:p.1=q
  ·rw [List.filter_cons_of_neg (by simpa using c),ih]
   by_cases d:j=q
   ·rw [if_pos d,if_pos d]
   ·rw [if_neg d,if_neg d,bR (fun e=>d (e.symm.trans c))]
  ·rw [List.filter_cons_of_pos (by simpa using c)]
   by_cases d:p.1=j
   ·rw [b7 d,b7 d,if_neg (fun e=>c (d.trans e))]
   ·rw [bR d,bR d,ih]
theorem lR {x:Int × Int × Int}:∀{kvs:List (List Key × V)} {ks:List (Int × Int × Int)},kvs.map (·.1)=ks.map k3→(bL kvs (k3 x)).map (·.1)=(ks.filter fun y=>decide (y≠x)).map k3
 | [],[],_=>rfl
 | [],_::_,h=>by simp at h
 | _::_,[],h=>by simp at h
 | p::r,y::ys,h=>by
  rw [List.map_cons,List.map_cons,List.cons.injEq] at h
  have ih:=lR (x:=x) (kvs:=r) (ks:=ys) h.2
  unfold bL at ih ⊢
  by_cases c:y=x
  ·rw [List.filter_cons_of_neg (by rw [h.1,c];simp),List.filter_cons_of_neg (by simpa using c)]
   exact ih
  ·rw [List.filter_cons_of_pos (by rw [h.1];simpa using fun e=>c (iZ e)),List.filter_cons_of_pos (by simpa using c),List.map_cons,List.map_cons,h.1,ih]
def cz (ks:List (Int × Int × Int)) (x:Int × Int × Int):List (Int × Int × Int):=(ks.filter fun y=>decide (y≠x))++[x]
def oF (most:Int) (ks:List (Int × Int × Int)):List (Int × Int × Int):=if most<ks.length then ks.tail else ks
def je (k:KH) (x:Int × Int × Int):KH:={ k with ks:=oF k.most (cz k.ks x),c:=if x∈k.ks then k.c else k.c+rt x.2.1.toNat }
def h9 (k:KH) (n:Int):KH:={ k with c:=k.c+n }
theorem BO {ks:List (Int × Int × Int)} {x:Int × Int × Int} (h:ks.Nodup):(cz ks x).Nodup:=by
 unfold cz
 rw [List.nodup_append]
 refine⟨h.sublist List.filter_sublist,by simp,fun a ha b hb e=>?_⟩
 rw [List.mem_singleton.mp hb] at e
 have:=(List.mem_filter.mp ha).2
 simp [e] at this
theorem zP {ks:List (Int × Int × Int)} {x:Int × Int × Int}:(cz ks x).length≤ks.length+1:=by
 unfold cz
 rw [List.length_append]
 exact Nat.add_le_add_right (List.length_filter_le _ _) 1
theorem qz.use {x:Int × Int × Int} {t:Addr} (h:qz H k kvs) (kt:∀ y v,KTab H y v→KTab H' y v) (ht:KTab H' x (.ref t)) (hD:H' k.d=some (.dT (bL kvs (k3 x)++[(k3 x,.ref t)]))) :
  qz H' { k with ks:=cz k.ks x } (bL kvs (k3 x)++[(k3 x,.ref t)]) where
 dict:=hD
 keys:=by
  rw [List.map_append,lR h.keys]
  show _=(cz k.ks x).map k3
  unfold cz
  rw [List.map_append]
  rfl
 nd:=BO h.nd
 tab:=fun y v e=>by
  rw [gz _ _ _ _ (by rw [iR,if_pos rfl])] at e
  by_cases c:k3 y=k3 x
  ·rw [if_pos c] at e
   cases e
   cases iZ c
   exact ht
  ·rw [if_neg c,iR,if_neg c] at e
   exact kt _ _ (h.tab y v e)
def tN (k:KH):Prop:=(k.ks.length:Int)≤k.most
theorem tN.use {x:Int × Int × Int} (h:tN k) (m0:0≤k.most):tN (je k x):=by
 have h':(k.ks.length:Int)≤k.most:=h
 show ((oF k.most (cz k.ks x)).length:Int)≤k.most
 have:=zP (ks:=k.ks) (x:=x)
 unfold oF
 split
 ·rw [List.length_tail];omega
 ·omega
theorem tN.add {n:Int} (h:tN k):tN (h9 k n):=h
theorem drop_tail {q:List Key} {v:V} {r:List (List Key × V)} (nd:(((q,v)::r).map (·.1)).Nodup):bL ((q,v)::r) q=r:=by
 unfold bL
 rw [List.filter_cons_of_neg (by simp)]
 refine List.filter_eq_self.mpr fun y hy=>?_
 rw [List.map_cons,List.nodup_cons] at nd
 exact decide_eq_true fun z=>nd.1 (List.mem_map.mpr ⟨y,hy,z⟩)
theorem qz.cut {q:List Key} {v:V} {r:List (List Key × V)} (h:qz H k ((q,v)::r)) (hd:∀ b u,b≠k.d→H b=some u→H' b=some u) (hD:H' k.d=some (.dT r)):qz H' { k with ks:=k.ks.tail } r:=by
 obtain⟨y,ys,e⟩:∃ y ys,k.ks=y::ys:=by
  cases e:k.ks with
  | nil=>have:=h.len;rw [e] at this;simp at this
  | cons y ys=>exact⟨y,ys,rfl⟩
 have hk:=h.keys
 have hn:=h.nd
 rw [e,List.map_cons,List.map_cons,List.cons.injEq] at hk
 rw [e,List.nodup_cons] at hn
 refine⟨hD,by rw [hk.2];show _=k.ks.tail.map k3;rw [e];rfl,by show k.ks.tail.Nodup;rw [e];exact hn.2,fun x u z=>?_⟩
 have ne:q≠k3 x:=fun e2=>by
  have:k3 x∈r.map (·.1):=jW.mp (by rw [z];rfl)
  rw [hk.2,List.mem_map] at this
  obtain⟨x',h1,h2⟩:=this
  have:y=x:=iZ (hk.1.symm.trans e2)
  rw [iZ h2,← this] at h1
  exact hn.1 h1
 obtain⟨t,e3,e4⟩:=h.tab x u (by rw [bR ne];exact z)
 exact⟨t,e3,hd _ _ (fun e=>by rw [e,h.dict] at e4;cases e4) e4⟩
theorem tX {q:List Key} {kvs:List (List Key × V)} (h:bV kvs q=none):bL kvs q=kvs:=by
 unfold bL
 refine List.filter_eq_self.mpr fun y hy=>decide_eq_true fun z=>?_
 have:(bV kvs q).isSome=true:=jW.mpr (List.mem_map.mpr ⟨y,hy,z⟩)
 rw [h] at this
 cases this
theorem qz.nodup (h:qz H k kvs):(kvs.map (·.1)).Nodup:=by
 rw [h.keys]
 exact List.Pairwise.map k3 (fun a b n e=>n (iZ e)) h.nd
theorem b8.Dd {n:Int} {fs:List (Str × V)} (h:b8 C k H) (e:fs=AX (h9 k n)):b8 C (h9 k n) (upd H k.a (.ins C k.dx fs)):=by
 subst e
 obtain⟨kvs,z⟩:=h.ex
 refine⟨ag,⟨kvs,?_,z.keys,z.nd,fun x v e=>?_⟩,h.m0,h.m1⟩
 ·show upd H k.a _ k.d=_
  rw [au (Ne.symm h.ne)]
  exact z.dict
 ·obtain⟨t,e1,e2⟩:=z.tab x v e
  exact⟨t,e1,by rw [au (h.apart e2 (by intro _ _ _ z;cases z) (by intro _ z;cases z)).1];exact e2⟩
end
end L2
namespace Num
def Pz (N a z:Int):Int:=a^(z%N).toNat
section
variable {p a N:Int}
theorem fQ (n0:0<N) (h:Al p (a^N.toNat) 1) {z:Int} (z0:0≤z):Al p (Pz N a z) (a^z.toNat):=by
 unfold Pz
 have e:=Int.mul_ediv_add_emod z N
 have m0:=Int.emod_nonneg z (show N≠0 by omega)
 have d0:0≤z/N:=Int.ediv_nonneg z0 (by omega)
 have e2:z.toNat=N.toNat*(z/N).toNat+(z%N).toNat:=by
  have h1:((N.toNat*(z/N).toNat:Nat):Int)=N*(z/N):=by
   rw [Int.natCast_mul,Int.toNat_of_nonneg (by omega),Int.toNat_of_nonneg d0]
  omega
 rw [e2,Int.pow_add]
 have:=(aN (k:=(z/N).toNat) h).mul (Al.refl p (a^(z%N).toNat))
 rw [Int.one_mul] at this
 exact this.symm
theorem eS {z y:Int} (h:N∣z-y):Pz N a z=Pz N a y:=by
 unfold Pz
 rw [Int.emod_eq_emod_iff_emod_sub_eq_zero.mpr (Int.emod_eq_zero_of_dvd h)]
theorem xj (n0:0<N) (h:Al p (a^N.toNat) 1) (z y:Int):Al p (Pz N a z*Pz N a y) (Pz N a (z+y)):=by
 have m0:=Int.emod_nonneg z (show N≠0 by omega)
 have m1:=Int.emod_nonneg y (show N≠0 by omega)
 have e:Pz N a z*Pz N a y=a^(z%N+y%N).toNat:=by
  unfold Pz
  rw [← Int.pow_add]
  congr 1
  omega
 rw [e,show Pz N a (z+y)=Pz N a (z%N+y%N) from eS ⟨z/N+y/N,by
  have e1:=Int.mul_ediv_add_emod z N
  have e2:=Int.mul_ediv_add_emod y N
  rw [Int.mul_add];omega⟩]
 exact (fQ n0 h (by omega)).symm
theorem nB (n0:0<N) (h:Al p (a^N.toNat) 1) (z:Int) (k:Nat):Al p (Pz N a z^k) (Pz N a (z*k)):=by
 have m0:=Int.emod_nonneg z (show N≠0 by omega)
 have e:Pz N a z^k=a^(z%N*k).toNat:=by
  unfold Pz
  rw [← Int.pow_mul]
  congr 1
  have:(((z%N).toNat*k:Nat):Int)=z%N*k:=by rw [Int.natCast_mul,Int.toNat_of_nonneg m0]
  omega
 rw [e,show Pz N a (z*k)=Pz N a (z%N*k) from eS ⟨z/N*k,by
  have e1:=Int.mul_ediv_add_emod z N
  have:z*k-z%N*k=(z-z%N)*k:=(Int.sub_mul ..).symm
  rw [this,show z-z%N=N*(z/N) by omega,Int.mul_assoc]⟩]
 exact (fQ n0 h (Int.mul_nonneg m0 (by omega))).symm
theorem Bo (n0:0<N) (h:Al p (a^N.toNat) 1) (co:Co a p) {b z:Int} (z0:z<0) (hb:p∣b*a-1):Al p (b^(-z).toNat) (Pz N a z):=by
 have hb':Al p (b*a) 1:=hb
 have h1:Al p (b^(-z).toNat*a^(-z).toNat) 1:=by
  have:=hb'.pow (-z).toNat
  rw [Int.mul_pow,Int.one_pow] at this
  exact this
 have h2:Al p (Pz N a z*a^(-z).toNat) 1:=by
  have:=((Al.refl p (Pz N a z)).mul (fQ n0 h (show 0 ≤ -z by omega)).symm).trans (xj n0 h z (-z))
  rw [show z + -z=0 by omega] at this
  refine this.trans ?_
  unfold Pz
  rw [Int.zero_emod]
  show Al p (a^0) 1
  rw [Int.pow_zero]
  exact Al.refl _ _
 have h3:=h1.trans h2.symm
 rw [Int.mul_comm (b^_),Int.mul_comm (Pz N a z)] at h3
 exact (co.pow _).cancel h3
end
structure Rt (p g k a:Int) (d inner outer:Int):Prop where
 d0:0<d
 dk:d∣k
 di:d∣inner
 i0:0<inner
 o0:0<outer
 io:inner*outer=p-1
 cdo:Co d outer
 cko:Co k outer
 cki:Co (k/d) (inner/d)
 cio:Co inner outer
section
variable {p g k a d inner outer:Int}
theorem fb {a b:Int} (h:Co a b):Co b a:=by obtain⟨u,v,e⟩:=h;exact⟨v,u,by omega⟩
theorem Rt.of {d inner outer u v:Int} (k0:0<k) (hd:0<d) (dk:d∣k) (lin:u*k+v*(p-1)=d) (i0:0<inner) (o0:0<outer) (io:inner*outer=p-1) (cio:Co inner outer) (di:d∣inner):Rt p g k a d inner outer:=by
 obtain⟨y,hy⟩:=id di
 obtain⟨k',hk⟩:=id dk
 obtain⟨s,t,e⟩:=cio
 have cdo:Co d outer:=⟨s*y,t,by rw [← e,hy];grind⟩
 refine⟨hd,dk,di,i0,o0,io,cdo,?_,?_,⟨s,t,e⟩⟩
 ·obtain⟨s',t',e'⟩:=cdo
  refine⟨s'*u,s'*v*inner+t',?_⟩
  rw [← e',← lin,← io]
  grind
 ·have e1:k/d=k':=by rw [hk,Int.mul_ediv_cancel_left _ (by omega)]
  have e2:inner/d=y:=by rw [hy,Int.mul_ediv_cancel_left _ (by omega)]
  rw [e1,e2]
  refine⟨u,v*outer,?_⟩
  have h1:d*(u*k'+v*outer*y)=d*1:=by
   rw [Int.mul_one]
   conv=>rhs;rw [← lin,← io,hk,hy]
   grind
  exact Int.eq_of_mul_eq_mul_left (by omega) h1
theorem Rt.exp (R:Rt p g k a d inner outer) {x w:Int} (hx:d∣x) (hw:inner/d∣w*(k/d)-1):inner∣x/d*w*k-x:=by
 obtain⟨y,hy⟩:=id R.di
 obtain⟨k',hk⟩:=id R.dk
 obtain⟨x',hx⟩:=hx
 have d0:=R.d0
 have e1:k/d=k':=by rw [hk,Int.mul_ediv_cancel_left _ (by omega)]
 have e2:inner/d=y:=by rw [hy,Int.mul_ediv_cancel_left _ (by omega)]
 have e3:x/d=x':=by rw [hx,Int.mul_ediv_cancel_left _ (by omega)]
 rw [e1,e2] at hw
 obtain⟨s,hs⟩:=hw
 refine⟨x'*s,?_⟩
 rw [e3,hk,hx,hy]
 have:w*k'=y*s+1:=by omega
 have:x'*w*(d*k')=x'*d*(w*k'):=by grind
 rw [this,‹w*k'=y*s+1›]
 grind
theorem ik (pm:Pm p) (na:¬p∣a):0<p-1∧Al p (a^(p-1).toNat) 1:=⟨by have:=pm.two;omega,qO pm na⟩
theorem Rt.base (R:Rt p g k a d inner outer) (og:Ord p g (p-1).toNat) {b:Int} (hb:Al p b (g^outer.toNat)):Ord p b inner.toNat:=by
 have i0:=R.i0
 have o0:=R.o0
 have e:(p-1).toNat=inner.toNat*outer.toNat:=by
  have:((inner.toNat*outer.toNat:Nat):Int)=p-1:=by rw [Int.natCast_mul,Int.toNat_of_nonneg (by omega),Int.toNat_of_nonneg (by omega),R.io]
  omega
 have:=jP og (q:=inner.toNat) ⟨outer.toNat,e⟩
 rw [e,Nat.mul_div_cancel_left _ (by omega)] at this
 exact kG hb.symm this
theorem Rt.D3 (R:Rt p g k a d inner outer) (pm:Pm p) (na:¬p∣a) {c v:Int} (hc:Al p c (Pz (p-1) a (v*outer))):Al p (c^inner.toNat) 1:=by
 obtain⟨n0,hf⟩:=ik pm na
 have i0:=R.i0
 have:=(hc.pow inner.toNat).trans (nB n0 hf (v*outer) inner.toNat)
 rw [show Pz (p-1) a (v*outer*(inner.toNat:Nat))=Pz (p-1) a 0 from eS ⟨v,by rw [Int.toNat_of_nonneg (by omega),← R.io];grind⟩] at this
 refine this.trans ?_
 unfold Pz
 rw [Int.zero_emod]
 show Al p (a^0) 1
 rw [Int.pow_zero]
 exact Al.refl _ _
theorem Rt.dx (R:Rt p g k a d inner outer) (pm:Pm p) (na:¬p∣a) (og:Ord p g (p-1).toNat) (h1:Al p (a^((p-1)/d).toNat) 1) {b c v:Int} {x:Nat} (hb:Al p b (g^outer.toNat)) (hc:Al p c (Pz (p-1) a (v*outer))) (hx:Al p c (b^x)):d∣(x:Int):=by
 obtain⟨n0,hf⟩:=ik pm na
 have i0:=R.i0
 have o0:=R.o0
 have d0:=R.d0
 obtain⟨y,hy⟩:=id R.di
 have hN:p-1=d*(y*outer):=by rw [← R.io,hy];grind
 have eN:(p-1)/d=y*outer:=by rw [hN,Int.mul_ediv_cancel_left _ (by omega)]
 have y0:0<y:=by
  rcases Int.lt_trichotomy y 0 with z | z | z
  ·have:=Int.mul_neg_of_pos_of_neg d0 z;omega
  ·rw [z,Int.mul_zero] at hy;omega
  ·exact z
 have m0:0<y*outer:=Int.mul_pos y0 o0
 rw [eN] at h1
 -- c to N/d is 1
 have c1:Al p (c^(y*outer).toNat) 1:=by
  have:=(hc.pow (y*outer).toNat).trans (nB n0 hf (v*outer) _)
  refine this.trans ?_
  rw [Int.toNat_of_nonneg (by omega)]
  have s0:=Int.emod_nonneg (v*outer) (show p-1≠0 by omega)
  rw [show Pz (p-1) a (v*outer*(y*outer))=Pz (p-1) a (v*outer%(p-1)*(y*outer)) from eS ⟨v*outer/(p-1)*(y*outer),by
   have e1:=Int.mul_ediv_add_emod (v*outer) (p-1)
   rw [← Int.sub_mul,show v*outer-v*outer%(p-1)=(p-1)*(v*outer/(p-1)) by omega,Int.mul_assoc]⟩]
  refine (fQ n0 hf (Int.mul_nonneg s0 (by omega))).trans ?_
  rw [show (v*outer%(p-1)*(y*outer)).toNat=(y*outer).toNat*(v*outer%(p-1)).toNat by
   have:(((y*outer).toNat*(v*outer%(p-1)).toNat:Nat):Int)=v*outer%(p-1)*(y*outer):=by rw [Int.natCast_mul,Int.toNat_of_nonneg (by omega),Int.toNat_of_nonneg s0,Int.mul_comm]
   omega]
  exact aN h1
 have c2:Al p (g^(outer.toNat*x*(y*outer).toNat)) 1:=by
  have:=((hx.trans (hb.pow x)).pow (y*outer).toNat).symm.trans c1
  rw [bp,bp,← Nat.mul_assoc] at this
  exact this
 have h3:=Int.natCast_dvd_natCast.mpr (og.dv _ c2)
 rw [Int.toNat_of_nonneg (by omega),Int.natCast_mul,Int.natCast_mul,Int.toNat_of_nonneg (show 0≤outer by omega),Int.toNat_of_nonneg (show 0≤y*outer by omega),hN] at h3
 obtain⟨t,ht⟩:=h3
 have h4:outer*x=d*t:=by
  have:(y*outer)*(outer*x)=(y*outer)*(d*t):=by rw [Int.mul_comm,ht];grind
  exact Int.eq_of_mul_eq_mul_left (by omega) this
 exact (fb R.cdo).dvd ⟨t,h4⟩
theorem Rt.root (R:Rt p g k a d inner outer) (k0:0<k) (pm:Pm p) (na:¬p∣a) (og:Ord p g (p-1).toNat) {b c r1 r2 u v iv w:Int} {x:Nat} (lin:u*inner+v*outer=1)
  (hi:outer∣iv*k-1) (h1:Al p r1 (Pz (p-1) a (u*inner*iv))) (hb:Al p b (g^outer.toNat)) (hc:Al p c (Pz (p-1) a (v*outer))) (hx:Al p c (b^x)) (dx:d∣(x:Int)) (w0:0≤w) (hw:inner/d∣w*(k/d)-1) (h2:Al p r2 (b^((x:Int)/d*w).toNat)):Al p ((r1*r2)^k.toNat) a:=by
 obtain⟨n0,hf⟩:=ik pm na
 have i0:=R.i0
 have d0:=R.d0
 have ob:=R.base og hb
 have t1:Al p (r1^k.toNat) (Pz (p-1) a (u*inner)):=by
  have:=(h1.pow k.toNat).trans (nB n0 hf _ k.toNat)
  rw [Int.toNat_of_nonneg (by omega)] at this
  obtain⟨s,hs⟩:=hi
  rw [show Pz (p-1) a (u*inner*iv*k)=Pz (p-1) a (u*inner) from eS ⟨u*s,by
   have:iv*k=outer*s+1:=by omega
   rw [Int.mul_assoc,this,← R.io];grind⟩] at this
  exact this
 have t2:Al p (r2^k.toNat) (Pz (p-1) a (v*outer)):=by
  have x0:0≤(x:Int)/d:=Int.ediv_nonneg (by omega) (by omega)
  have o1:Al p (b^inner.toNat) 1:=ob.one
  have h3:=(h2.trans (fQ i0 o1 (Int.mul_nonneg x0 w0)).symm).pow k.toNat
  have h4:=h3.trans (nB i0 o1 _ k.toNat)
  rw [Int.toNat_of_nonneg (show 0≤k by omega),eS (R.exp dx hw)] at h4
  have h5:=h4.trans (fQ i0 o1 (show 0≤(x:Int) by omega))
  rw [Int.toNat_natCast] at h5
  exact (h5.trans hx.symm).trans hc
 rw [Int.mul_pow]
 have:=(t1.mul t2).trans (xj n0 hf _ _)
 rw [lin] at this
 have h6:=this.trans (fQ n0 hf (show (0:Int)≤1 by decide))
 rw [show (1:Int).toNat=1 from rfl,Int.pow_one] at h6
 exact h6
theorem vb (pm:Pm p) {r t a:Int} {k m:Nat} (ot:Ord p t m) (mk:m∣k) (hr:Al p (r^k) a) (i:Nat):Al p ((r*t^i)^k) a:=by
 rw [Int.mul_pow,bp]
 obtain⟨s,rfl⟩:=mk
 rw [show i*(m*s)=m*(i*s) by grind]
 have:=hr.mul (aN (k:=i*s) ot.one)
 rw [Int.mul_one] at this
 exact this
theorem va (pm:Pm p) {r t:Int} {m i j:Nat} (ot:Ord p t m) (nr:¬p∣r) (hi:i<m) (hj:j<m) (h:Al p (r*t^i) (r*t^j)):i=j:=ot.inj ot.co hi hj ((pm.co nr).cancel h)
end
theorem oM (f:Int × Int→Bool):∀ ps:List (Int × Int),eN (ps.filter f)*eN (ps.filter fun y=>!f y)=eN ps
 | []=>rfl
 | y::r=>by
  have ih:=oM f r
  cases h:f y with
  | true =>
   rw [List.filter_cons_of_pos h,List.filter_cons_of_neg (by simp [h])]
   show y.1.toNat^y.2.toNat*_*_=y.1.toNat^y.2.toNat*_
   rw [Nat.mul_assoc,ih]
  | false =>
   rw [List.filter_cons_of_neg (by simp [h]),List.filter_cons_of_pos (by simp [h])]
   show _*(y.1.toNat^y.2.toNat*_)=y.1.toNat^y.2.toNat*_
   rw [← ih]
   grind
theorem rS {x:Int}:∀ b:List (Int × Int),(∀ y∈b,Pm y.1)→(∀ y∈b,Co x y.1)→Co x (eN b:Int)
 | [],_,_=>⟨0,1,by show 0*x+1*(1:Int)=1;omega⟩
 | y::r,hp,h=>by
  have:=(hp y List.mem_cons_self).two
  have h1:=((fb (h y List.mem_cons_self)).pow y.2.toNat).mul (fb (rS r (fun z hz=>hp z (List.mem_cons_of_mem _ hz)) fun z hz=>h z (List.mem_cons_of_mem _ hz)))
  have e:((eN (y::r):Nat):Int)=y.1^y.2.toNat*eN r:=by
   show ((y.1.toNat^y.2.toNat*eN r:Nat):Int)=_
   rw [Int.natCast_mul,Int.natCast_pow,Int.toNat_of_nonneg (by omega)]
  rw [e]
  exact fb h1
theorem Cu {x y:Int} (hx:Pm x) (hy:Pm y) (ne:y≠x):Co x y:=hy.co fun h=>by
 have:=hx.two
 have:=hy.two
 have:=Int.le_of_dvd (by omega) h
 exact hx.no y (by omega) (by omega) h
theorem Ca {a b:List (Int × Int)} (ha:∀ y∈a,Pm y.1) (hb:∀ y∈b,Pm y.1) (ne:∀ x∈a,∀ y∈b,y.1≠x.1):Co (eN a:Int) (eN b:Int) :=
 rS b hb fun y hy=>fb (rS a ha fun x hx=>fb (Cu (ha x hx) (hb y hy) (ne x hx y hy)))
theorem zF {p g k a d u v:Int} {ps:List (Int × Int)} (p2:2≤p) (hP:Part (p-1) ps) (k0:0<k) (B:Gcd.Av k (p-1) d u v) :
  Rt p g k a d (eN (ps.filter fun y=>decide (d%y.1=0))) ((p-1)/(eN (ps.filter fun y=>decide (d%y.1=0)):Int)):=by
 have hpm:∀ y∈ps,Pm y.1:=fun y hy=>(hP.ok y hy).1
 have e:=oM (fun y=>decide (d%y.1=0)) ps
 have eP:(eN ps:Int)=p-1:=by rw [fe ps hpm,hP.prod]
 have d0:0<d:=by
  rcases Int.lt_or_eq_of_le B.g0 with z | z
  ·exact z
  ·have:=B.da;rw [← z] at this;have:=Int.zero_dvd.mp this;omega
 have a1:∀ y∈ps.filter (fun y=>decide (d%y.1=0)),Pm y.1:=fun y hy=>hpm y (List.mem_filter.mp hy).1
 have a2:∀ y∈ps.filter (fun y=>!decide (d%y.1=0)),Pm y.1:=fun y hy=>hpm y (List.mem_filter.mp hy).1
 have i0:=kg _ a1
 have o0:=kg _ a2
 have co:=Ca a1 a2 fun x hx y hy z=>by
  have h1:=(List.mem_filter.mp hx).2
  have h2:=(List.mem_filter.mp hy).2
  rw [z] at h2
  simp at h1 h2
  exact h2 h1
 have e1:((eN (ps.filter fun y=>decide (d%y.1=0)):Nat):Int)*(eN (ps.filter fun y=>!decide (d%y.1=0)):Nat)=p-1:=by rw [← eP,← e,Int.natCast_mul]
 have e2:(p-1)/((eN (ps.filter fun y=>decide (d%y.1=0)):Nat):Int)=(eN (ps.filter fun y=>!decide (d%y.1=0)):Nat):=by
  rw [← e1,Int.mul_ediv_cancel_left _ (by omega)]
 rw [e2]
 refine Rt.of k0 d0 B.da B.lin (by omega) (by omega) e1 co ?_
 -- d divides inner: it has nothing in common with outer
 have cd:Co d (eN (ps.filter fun y=>!decide (d%y.1=0)):Nat):=rS _ a2 fun y hy=>by
  have h2:=(List.mem_filter.mp hy).2
  simp at h2
  exact (a2 y hy).co fun z=>h2 (Int.emod_eq_zero_of_dvd z)
 refine (fb cd).dvd ?_
 rw [Int.mul_comm,e1]
 exact B.db
end Num
namespace Num
def Ct:List (Int × Int)→Int
 | []=>1
 | x::r=>x.1^(x.2.toNat-1)*(x.1-1)*Ct r
structure Dv (A:Int) (F:List (List (Int × Int))):Prop where
 part:∀ s∈F,Part (c5 s) s
 nodup:(F.map c5).Nodup
 mem:∀ d,d∈F.map c5↔0<d∧d∣A
 sum:(F.map Ct).sum=A
structure Ds (n:Int) (ds:List Int):Prop where
 rise:ds.Pairwise (·<·)
 mem:∀ d,d∈ds↔0<d∧d∣n
theorem Ck {l:List Int} (h:l.Pairwise (·≤·)) (nd:l.Nodup):l.Pairwise (·<·) :=
 (h.and nd).imp fun⟨a,b⟩=>by omega
theorem kh (p:Int→Bool):∀ l:List Int,l.length=(l.filter p).length+(l.filter (fun d=>!p d)).length
 | []=>rfl
 | x::l=>by
  have:=kh p l
  cases e:p x<;>simp [List.filter_cons,e]<;>omega
theorem yo {n:Int} (hn:n≤10^9) {l:List Int} (nd:l.Nodup) (h:∀ d∈l,0<d∧d∣n) (n0:0<n):l.length≤63246:=by
 have lo:(l.filter (fun d=>decide (d<31623))).length≤31623:=by
  have:=nk 31623 ((l.filter (fun d=>decide (d<31623))).map Int.toNat) ?_ ?_
  ·simpa using this
  ·refine List.pairwise_map.mpr ((nd.filter _).imp_of_mem fun {a b} ha hb ne e=>ne ?_)
   have h1:=h a (List.mem_filter.mp ha).1
   have h2:=h b (List.mem_filter.mp hb).1
   omega
  ·intro x hx
   obtain⟨d,hd,rfl⟩:=List.mem_map.mp hx
   have:=(List.mem_filter.mp hd).2
   simp at this
   omega
 have hi:(l.filter (fun d=>!decide (d<31623))).length≤31623:=by
  have:=nk 31623 ((l.filter (fun d=>!decide (d<31623))).map fun d=>(n/d).toNat) ?_ ?_
  ·simpa using this
  ·refine List.pairwise_map.mpr ((nd.filter _).imp_of_mem fun {a b} ha hb ne e=>ne ?_)
   have h1:=h a (List.mem_filter.mp ha).1
   have h2:=h b (List.mem_filter.mp hb).1
   obtain⟨c,hc⟩:=h1.2
   obtain⟨c',hc'⟩:=h2.2
   have e1:n/a=c:=by rw [hc];exact Int.mul_ediv_cancel_left _ (by omega)
   have e2:n/b=c':=by rw [hc'];exact Int.mul_ediv_cancel_left _ (by omega)
   rw [e1,e2] at e
   have c0:0<c:=by
    rcases (by omega:c≤0∨0<c) with z | z
    ·have:=Int.mul_nonpos_of_nonneg_of_nonpos (show 0≤a by omega) z
     omega
    ·exact z
   have c0':0<c':=by
    rcases (by omega:c'≤0∨0<c') with z | z
    ·have:=Int.mul_nonpos_of_nonneg_of_nonpos (show 0≤b by omega) z
     omega
    ·exact z
   obtain rfl:c=c':=by omega
   exact Int.eq_of_mul_eq_mul_right (by omega) (hc.symm.trans hc')
  ·intro x hx
   obtain⟨d,hd,rfl⟩:=List.mem_map.mp hx
   have h1:=(List.mem_filter.mp hd).2
   simp at h1
   have h2:n/d≤n/31623:=by
    refine Int.le_ediv_of_mul_le (by decide) ?_
    have:=Int.ediv_mul_le n (show d≠0 by omega)
    have:=Int.mul_le_mul_of_nonneg_left h1 (Int.ediv_nonneg (show 0≤n by omega) (show 0≤d by omega))
    omega
   have:n/31623<31623:=Int.ediv_lt_of_lt_mul (by decide) (by omega)
   omega
 have:=kh (fun d:Int=>decide (d<31623)) l
 omega
def ins (x:Int × Int):List (Int × Int)→List (Int × Int)
 | []=>[x]
 | y::r=>if x.1<y.1 then x::y::r else y::ins x r
end Num
namespace Tim
open PySem PyProof.Rows
abbrev kk (x:Keyed):Int:=numOf x.1
def yu (x:Keyed):Prop:=∃ n t,x.1=.int n t
def eG (xs:Array Keyed):Prop:=∀ p∈xs.toList,yu p
theorem eG.at {xs:Array Keyed} (h:eG xs) {i:Nat} (hi:i<xs.size):yu xs[i]:=h _ (by simp)
section
variable {prog:Program} {w:World} {A:Around} {E:Value→Shared→Prop} {s:Shared} {a₀:Array Keyed}
theorem kB {st:SortSt} {x y:Keyed} {Q:Option Bool→SortSt→Prop} (hk:kindOf st=oneType') (hx:yu x) (hy:yu y) (h:Q (some (decide (kk x<kk y))) st) :
  wpS (model prog w) A E s (lt' x y) Q st:=by
 obtain⟨n,t,e⟩:=hx
 obtain⟨m,u,e'⟩:=hy
 unfold kk at h
 rw [e,e'] at h
 rw [lt'_eq]
 refine wpS_bind (wpS_get ?_)
 rw [hk,keyLt'_oneType,e,e']
 exact wpS_bind (wpS_lift (wpAny_attempt (oneLt_int ⟨rfl,wpS_pure h⟩)))
theorem el {st:SortSt} {xs:Array Keyed} {i:Nat} {Q:Keyed→SortSt→Prop} (hi:i<xs.size) (h:Q xs[i] st) :
  wpS (model prog w) A E s (elem' xs i) Q st:=by
 rw [elem'_eq,getElem?_pos xs i hi]
 exact wpS_pure h
def sh:Bool→Keyed→Array Keyed→Nat→Nat→Nat→StateT SortSt Sem (Option Nat):=sortPriv% PySem.Builtin.gallop
def jf (left:Bool) (v:Int) (xs:Array Keyed) (i:Nat):Prop:=if left=true then K xs i<v else K xs i≤v
instance (left:Bool) (v:Int) (xs:Array Keyed) (i:Nat):Decidable (jf left v xs i):=by unfold jf;infer_instance
theorem jf.mono {left:Bool} {v:Int} {xs:Array Keyed} {i j:Nat} (h:jf left v xs j) (le:K xs i≤K xs j):jf left v xs i:=by
 unfold jf at *
 split at h<;>rename_i c<;>simp only [c,if_true,if_false,Bool.false_eq_true]<;>omega
def Up (xs:Array Keyed) (lo hi:Nat):Prop:=∀ i j,lo≤i→i≤j→j<hi→K xs i≤K xs j
theorem beyond {st:SortSt} {left:Bool} {key:Keyed} {xs:Array Keyed} {i:Nat} {Q:Option Bool→SortSt→Prop} (hk:kindOf st=oneType') (hn:eG xs) (hy:yu key)
  (hi:i<xs.size) (h:Q (some (decide (jf left (kk key) xs i))) st) :
  wpS (model prog w) A E s (do let x ← elem' xs i;if left=true then lt' x key else do let r ← lt' key x;pure (Option.map (fun b=>!b) r)) Q st:=by
 have hx:=hn.at hi
 have e:K xs i=kk xs[i]:=K_eq hi
 refine wpS_bind (el hi ?_)
 cases left with
 | true =>
  rw [if_pos rfl]
  refine kB hk hx hy ?_
  unfold jf at h
  simpa [e] using h
 | false =>
  rw [if_neg (by simp)]
  refine wpS_bind (kB hk hy hx (wpS_pure ?_))
  unfold jf at h
  simp only [Bool.false_eq_true,if_false,e] at h
  have:(Option.map (fun b=>!b) (some (decide (kk key<kk xs[i]))))=some (decide (kk xs[i]≤kk key)):=by
   simp only [Option.map_some,Option.some.injEq]
   by_cases c:kk key<kk xs[i]
   ·rw [decide_eq_true c,decide_eq_false (by omega)];rfl
   ·rw [decide_eq_false c,decide_eq_true (by omega)];rfl
  rw [this]
  exact h
theorem BU {st:SortSt} {left:Bool} {key:Keyed} {xs:Array Keyed} {base n hint:Nat} {Q:Option Nat→SortSt→Prop} (hk:kindOf st=oneType') (hn:eG xs) (hy:yu key)
  (hb:base+n≤xs.size) (hh:hint<n) (up:Up xs base (base+n))
  (q:∀ k,k≤n→(∀ i,i<k→jf left (kk key) xs (base+i))→(∀ i,k≤i→i<n→¬jf left (kk key) xs (base+i))→Q (some k) st) :
  wpS (model prog w) A E s (sh left key xs base n hint) Q st:=by
 have mono:∀ i j,i≤j→j<n→jf left (kk key) xs (base+j)→jf left (kk key) xs (base+i):=fun i j a b c=>c.mono (up _ _ (by omega) (by omega) (by omega))
 generalize hB:(fun i=>jf left (kk key) xs (base+i))=B at mono q
 have hBd:∀ i,jf left (kk key) xs (base+i)=B i:=fun i=>by rw [← hB]
 simp only [hBd] at mono q
 have bey:∀{i:Nat} {Q:Option Bool→SortSt→Prop},i<n→(B i→Q (some true) st)→(¬B i→Q (some false) st)→wpS (model prog w) A E s (do let x ← elem' xs (base+i);if left=true then lt' x key else do let r ← lt' key x;pure (Option.map (fun b=>!b) r)) Q st:=by
  intro i Q hi h1 h2
  refine beyond hk hn hy (by omega) ?_
  by_cases c:B i
  ·rw [decide_eq_true (by rw [hBd];exact c)];exact h1 c
  ·rw [decide_eq_false (by rw [hBd];exact c)];exact h2 c
 have last:∀(lo hi:Nat) (f:Nat→Option (Option Nat) × Nat × Nat→StateT SortSt Sem (ForInStep (Option (Option Nat) × Nat × Nat))) (g:Option (Option Nat) × Nat × Nat→StateT SortSt Sem (Option Nat)),lo≤hi→hi≤n→(∀ i,i<lo→B i)→(∀ i,hi≤i→i<n→¬B i) →
   (∀ x l h Q',(l≥h→Q' (ForInStep.done (none,l,h)) st)→(l<h→h≤n→B (l+(h-l)/2)→Q' (ForInStep.yield (none,l+(h-l)/2+1,h)) st)→(l<h→h≤n→¬B (l+(h-l)/2)→Q' (ForInStep.yield (none,l,l+(h-l)/2)) st)→h≤n→wpS (model prog w) A E s (f x (none,l,h)) Q' st) →
   (∀ k,Q (some k) st→wpS (model prog w) A E s (g (none,k,k)) Q st) →
   wpS (model prog w) A E s (forIn [:n] ((none,lo,hi):Option (Option Nat) × Nat × Nat) f >>= g) Q st:=by
  intro lo hi f g h1 h2 h3 h4 hf hg
  refine wpS_bind (wpS_mono (wpS_forRange (I:=fun x c st'=>st'=st∧∃ l h,c=(none,l,h)∧l≤h∧h≤n∧h-l≤n-x∧(∀ i,i<l→B i)∧(∀ i,h≤i→i<n→¬B i))
   (Q:=fun c st'=>st'=st∧∃ l,c=(none,l,l)∧l≤n∧(∀ i,i<l→B i)∧(∀ i,l≤i→i<n→¬B i)) ?step ?fin ⟨rfl,lo,hi,rfl,h1,h2,by omega,h3,h4⟩) ?post)
  case post =>
   rintro c st' ⟨rfl,l,rfl,a,b,d⟩
   exact hg _ (q l a b d)
  case fin =>
   rintro c st' ⟨rfl,l,h,rfl,a,b,d,e,f⟩
   have:l=h:=by omega
   subst this
   exact⟨rfl,l,rfl,b,e,f⟩
  case step =>
   rintro x c st' _ _ ⟨rfl,l,h,rfl,a,b,d,e,f⟩
   refine hf x l h _ (fun g=>?_) (fun g g' c=>?_) (fun g g' c=>?_) b
   ·have:l=h:=by omega
    subst this
    exact⟨rfl,l,rfl,b,e,f⟩
   ·exact⟨rfl,_,_,rfl,by omega,b,by omega,fun i hi=>mono i _ (by omega) (by omega) c,f⟩
   ·exact⟨rfl,_,_,rfl,by omega,by omega,by omega,e,fun i h1 h2 bi=>c (mono _ i h1 h2 bi)⟩
 unfold sh
 refine wpS_bind (bey hh (fun c0=>?_) fun c0=>?_)
 ·dsimp only
  rw [if_pos rfl]
  refine wpS_bind (wpS_mono (wpS_forRange (I:=fun x c st'=>st'=st∧∃ l o,c=(none,l,o)∧x+1≤o∧l<o∧hint+l<n∧B (hint+l))
   (Q:=fun c st'=>st'=st∧∃ l o,c=(none,l,o)∧l<o∧hint+l<n∧B (hint+l)∧(hint+o<n→¬B (hint+o))) ?step ?fin ⟨rfl,0,1,rfl,by omega,by omega,by omega,c0⟩) ?post)
  case post =>
   rintro c st' ⟨rfl,l,o,rfl,a,b,d,e⟩
   refine last (hint+l+1) (hint+min o (n-hint)) _ _ (by omega) (by omega) (fun i hi=>mono i _ (by omega) b d) (fun i h1 h2 bi=>?_) ?_ ?_
   ·exact e (by omega) (mono (hint+o) i (by omega) h2 bi)
   ·intro x l h Q' q1 q2 q3 hh'
    dsimp only
    by_cases g:l≥h
    ·rw [if_pos g]
     exact wpS_pure (q1 g)
    ·rw [if_neg g]
     refine wpS_bind (bey (by omega) (fun c=>?_) fun c=>?_)
     ·exact wpS_pure (q2 (by omega) hh' c)
     ·exact wpS_pure (q3 (by omega) hh' c)
   ·exact fun k hk=>wpS_pure hk
  case fin =>
   rintro c st' ⟨rfl,l,o,rfl,a,b,d,e⟩
   exact⟨rfl,l,o,rfl,b,d,e,fun _=>by omega⟩
  case step =>
   rintro x c st' _ _ ⟨rfl,l,o,rfl,a,b,d,e⟩
   dsimp only
   by_cases g:o≥n-hint
   ·rw [if_pos g]
    exact wpS_pure ⟨rfl,l,o,rfl,b,d,e,fun _=>by omega⟩
   ·rw [if_neg g]
    refine wpS_bind (bey (by omega) (fun c=>?_) fun c=>?_)
    ·exact wpS_pure ⟨rfl,o,2*o+1,rfl,by omega,by omega,by omega,c⟩
    ·exact wpS_pure ⟨rfl,l,o,rfl,b,d,e,fun _=>c⟩
 ·dsimp only
  rw [if_neg (by simp)]
  refine wpS_bind (wpS_mono (wpS_forRange (I:=fun x c st'=>st'=st∧∃ l o,c=(none,l,o)∧x+1≤o∧l<o∧l≤hint∧¬B (hint-l))
   (Q:=fun c st'=>st'=st∧∃ l o,c=(none,l,o)∧l<o∧l≤hint∧¬B (hint-l)∧(o≤hint→B (hint-o))) ?step ?fin ⟨rfl,0,1,rfl,by omega,by omega,by omega,c0⟩) ?post)
  case post =>
   rintro c st' ⟨rfl,l,o,rfl,a,b,d,e⟩
   refine last (hint+1-min o (hint+1)) (hint-l) _ _ (by omega) (by omega) (fun i hi=>mono i (hint-o) (by omega) (by omega) (e (by omega))) (fun i h1 h2 bi=>?_) ?_ ?_
   ·exact d (mono _ i (by omega) h2 bi)
   ·intro x l h Q' q1 q2 q3 hh'
    dsimp only
    by_cases g:l≥h
    ·rw [if_pos g]
     exact wpS_pure (q1 g)
    ·rw [if_neg g]
     refine wpS_bind (bey (by omega) (fun c=>?_) fun c=>?_)
     ·exact wpS_pure (q2 (by omega) hh' c)
     ·exact wpS_pure (q3 (by omega) hh' c)
   ·exact fun k hk=>wpS_pure hk
  case fin =>
   rintro c st' ⟨rfl,l,o,rfl,a,b,d,e⟩
   exact⟨rfl,l,o,rfl,b,d,e,fun _=>by omega⟩
  case step =>
   rintro x c st' _ _ ⟨rfl,l,o,rfl,a,b,d,e⟩
   dsimp only
   by_cases g:o≥hint+1
   ·rw [if_pos g]
    exact wpS_pure ⟨rfl,l,o,rfl,b,d,e,fun _=>by omega⟩
   ·rw [if_neg g]
    refine wpS_bind (bey (by omega) (fun c=>?_) fun c=>?_)
    ·exact wpS_pure ⟨rfl,l,o,rfl,b,d,e,fun _=>c⟩
    ·exact wpS_pure ⟨rfl,o,2*o+1,rfl,by omega,by omega,by omega,c⟩
end
end Tim
namespace Tim
open PySem PyProof.Rows
def R (x y:Keyed):Prop:=kk x≤kk y
abbrev fD (l:List Keyed):Prop:=l.Pairwise R
structure Mg (o X Y T:List Keyed):Prop where
 sx:fD (o++X)
 sy:fD (o++Y)
 pm:(o++(X++Y)).Perm T
theorem Mg.swap {o X Y T:List Keyed} (h:Mg o X Y T):Mg o Y X T:=⟨h.sy,h.sx,(List.perm_append_comm.append_left o).trans h.pm⟩
theorem Mg.left {o X1 X2 Y T:List Keyed} (h:Mg o (X1++X2) Y T) (c:∀ x∈X1,∀ y∈Y,R x y):Mg (o++X1) X2 Y T:=by
 refine⟨by rw [List.append_assoc];exact h.sx,?_,by have:=h.pm;simpa only [List.append_assoc] using this⟩
 have h1:=List.pairwise_append.mp h.sx
 have h2:=List.pairwise_append.mp h.sy
 have h3:=List.pairwise_append.mp h1.2.1
 rw [List.append_assoc]
 refine List.pairwise_append.mpr ⟨h1.1,List.pairwise_append.mpr ⟨h3.1,h2.2.1,c⟩,fun a ha b hb=>?_⟩
 rcases List.mem_append.mp hb with hb | hb
 ·exact h1.2.2 a ha b (List.mem_append_left _ hb)
 ·exact h2.2.2 a ha b hb
theorem Mg.right {o X Y1 Y2 T:List Keyed} (h:Mg o X (Y1++Y2) T) (c:∀ y∈Y1,∀ x∈X,R y x):Mg (o++Y1) X Y2 T:=(h.swap.left c).swap
def Out (z T:List Keyed):Prop:=fD z∧z.Perm T
theorem Mg.vJ {o X T:List Keyed} (h:Mg o X [] T):Out (o++X) T:=⟨h.sx,by have:=h.pm;rwa [List.append_nil] at this⟩
theorem Mg.yE {o Y T:List Keyed} (h:Mg o [] Y T):Out (o++Y) T:=⟨h.sy,by have:=h.pm;rwa [List.nil_append] at this⟩
theorem Mg.Cg {o Y T:List Keyed} {x:Keyed} (h:Mg o [x] Y T) (c:∀ y∈Y,R y x):Out (o++Y++[x]) T :=
 (Mg.right (Y1:=Y) (Y2:=[]) (by rwa [List.append_nil]) fun y hy z hz=>by rw [List.mem_singleton.mp hz];exact c y hy).vJ
structure Mh (o X Y T:List Keyed):Prop where
 sx:fD (X++o)
 sy:fD (Y++o)
 pm:((X++Y)++o).Perm T
theorem Mh.swap {o X Y T:List Keyed} (h:Mh o X Y T):Mh o Y X T:=⟨h.sy,h.sx,(List.perm_append_comm.append_right o).trans h.pm⟩
theorem Mh.left {o X1 X2 Y T:List Keyed} (h:Mh o (X1++X2) Y T) (c:∀ y∈Y,∀ x∈X2,R y x):Mh (X2++o) X1 Y T:=by
 refine⟨by rw [← List.append_assoc];exact h.sx,?_,?_⟩
 ·have h1:=List.pairwise_append.mp h.sx
  have h2:=List.pairwise_append.mp h.sy
  have h3:=List.pairwise_append.mp h1.1
  refine List.pairwise_append.mpr ⟨h2.1,List.pairwise_append.mpr ⟨h3.2.1,h1.2.1,fun a ha b hb=>h1.2.2 a (List.mem_append_right _ ha) b hb⟩,fun a ha b hb=>?_⟩
  rcases List.mem_append.mp hb with hb | hb
  ·exact c a ha b hb
  ·exact h2.2.2 a ha b hb
 ·refine List.Perm.trans ?_ h.pm
  rw [← List.append_assoc]
  refine List.Perm.append_right o ?_
  rw [List.append_assoc,List.append_assoc]
  exact List.perm_append_comm.append_left X1
theorem Mh.right {o X Y1 Y2 T:List Keyed} (h:Mh o X (Y1++Y2) T) (c:∀ x∈X,∀ y∈Y2,R x y):Mh (Y2++o) X Y1 T:=(h.swap.left c).swap
theorem Mh.vJ {o X T:List Keyed} (h:Mh o X [] T):Out (X++o) T:=⟨h.sx,by have:=h.pm;rwa [List.append_nil] at this⟩
theorem Mh.yE {o Y T:List Keyed} (h:Mh o [] Y T):Out (Y++o) T:=h.swap.vJ
theorem Mh.Ci {o X T:List Keyed} {y:Keyed} (h:Mh o X [y] T) (c:∀ x∈X,R y x):Out ([y]++X++o) T:=by
 have:=(Mh.left (X1:=[]) (X2:=X) h fun z hz x hx=>by rw [List.mem_singleton.mp hz];exact c x hx).yE
 rwa [← List.append_assoc] at this
theorem ext_toList (xs:Array Keyed) (a b:Nat):(xs.extract a b).toList=(xs.toList.drop a).take (b-a):=by simp [Array.toList_extract,List.extract_eq_take_drop]
theorem drop_cons {xs:Array Keyed} {i:Nat} (h:i<xs.size):xs.toList.drop i=xs[i]::xs.toList.drop (i+1):=by
 have h':i<xs.toList.length:=by simpa using h
 rw [List.drop_eq_getElem_cons h']
 simp
theorem fx {xs:Array Keyed} {i:Nat} (h:i<xs.size):xs.toList.take (i+1)=xs.toList.take i++[xs[i]]:=by
 have h':i<xs.toList.length:=by simpa using h
 rw [List.take_succ_eq_append_getElem h']
 simp
theorem cY {xs:Array Keyed} {a k:Nat} {x:Keyed} (h:x∈(xs.toList.drop a).take k):∃ i,∃(hi:a+i<xs.size),i<k∧x=xs[a+i]:=by
 obtain⟨i,hi,e⟩:=List.getElem_of_mem h
 have h1:i<k:=by have:=hi;rw [List.length_take] at this;omega
 have h2:a+i<xs.size:=by rw [List.length_take,List.length_drop] at hi;simp at hi;omega
 refine⟨i,h2,h1,?_⟩
 rw [← e,List.getElem_take,List.getElem_drop]
 simp
theorem l7 {xs:Array Keyed} {a:Nat} {x:Keyed} (h:x∈xs.toList.take a):∃ i,∃(hi:i<xs.size),i<a∧x=xs[i]:=by
 obtain⟨i,hi,h1,e⟩:=cY (xs:=xs) (a:=0) (k:=a) (by simpa using h)
 exact⟨i,by omega,h1,by simpa using e⟩
theorem gw {xs:Array Keyed} {a n:Nat} (hn:a+n≤xs.size) (h:fD ((xs.toList.drop a).take n)):Up xs a (a+n):=by
 intro i j h1 h2 h3
 rw [K_eq (by omega),K_eq (by omega)]
 by_cases e:i=j
 ·subst e;exact Int.le_refl _
 ·have hl:((xs.toList.drop a).take n).length=n:=by simp;omega
  have:=List.pairwise_iff_getElem.mp h (i-a) (j-a) (by omega) (by omega) (by omega)
  unfold R kk at this
  simp only [List.getElem_take,List.getElem_drop,Array.getElem_toList] at this
  simpa only [show a+(i-a)=i by omega,show a+(j-a)=j by omega] using this
theorem uV {xs:Array Keyed} {a n:Nat} (h:Up xs a (a+n)):fD ((xs.toList.drop a).take n):=by
 refine List.pairwise_iff_getElem.mpr fun i j hi hj hij=>?_
 have h1:j<n:=by rw [List.length_take] at hj;omega
 have h2:a+j<xs.size:=by rw [List.length_take,List.length_drop] at hj;simp at hj;omega
 have:=h (a+i) (a+j) (by omega) (by omega) (by omega)
 rw [K_eq (by omega),K_eq h2] at this
 unfold R kk
 simpa only [List.getElem_take,List.getElem_drop,Array.getElem_toList] using this
theorem qj {xs:Array Keyed} {a:Nat} (ha:a≤xs.size) (h:fD (xs.toList.drop a)):Up xs a (a+(xs.size-a)):=by
 refine gw (by omega) ?_
 rw [List.take_of_length_le (by simp)]
 exact h
theorem qp {xs:Array Keyed} {a:Nat} (ha:a≤xs.size) (h:fD (xs.toList.take a)):Up xs 0 (0+a):=gw (by omega) (by simpa using h)
theorem iU {xs:Array Keyed} {i:Nat} (h:i<xs.size):K xs i=kk xs[i]:=K_eq h
end Tim
namespace Tim
open PySem PyProof.Rows
def o9:Array Keyed→Array Keyed→StateT SortSt Sem (Array Keyed):=sortPriv% PySem.Builtin.mergeLo
def oZ:Array Keyed→Array Keyed→StateT SortSt Sem (Array Keyed):=sortPriv% PySem.Builtin.mergeHi
structure Sm (st st':SortSt):Prop where
 kind:kindOf st'=kindOf st
 arr:arrOf st'=arrOf st
 pend:pendingOf st'=pendingOf st
 failed:failedOf st'=failedOf st
theorem Sm.refl (st:SortSt):Sm st st:=⟨rfl,rfl,rfl,rfl⟩
theorem Sm.trans {a b c:SortSt} (h:Sm a b) (g:Sm b c):Sm a c:=⟨g.kind.trans h.kind,g.arr.trans h.arr,g.pend.trans h.pend,g.failed.trans h.failed⟩
def sW:Nat→StateT SortSt Sem Unit:=sortPriv% PySem.Builtin.setMinGallop
section
variable {prog:Program} {w:World} {A:Around} {E:Value→Shared→Prop} {s:Shared} {xs ys:Array Keyed}
theorem nI {st:SortSt} {g:Nat} {Q:Unit→SortSt→Prop} (q:∀ st',Sm st st'→Q () st'):wpS (model prog w) A E s (sW g) Q st:=by
 unfold sW
 exact wpS_modify (q _ ⟨rfl,rfl,rfl,rfl⟩)
def J (xs ys out:Array Keyed) (ia ib:Nat):Prop:=Mg out.toList (xs.toList.drop ia) (ys.toList.drop ib) (xs.toList++ys.toList)
theorem jN {zs:Array Keyed} {i:Nat} (hi:i<zs.size) (h:fD (zs.toList.drop i)) {x:Keyed} (hx:x∈zs.toList.drop i):R zs[i] x:=by
 rw [drop_cons hi] at h hx
 rcases List.mem_cons.mp hx with rfl | hx
 ·exact Int.le_refl _
 ·exact (List.pairwise_cons.mp h).1 x hx
theorem J.sX {out:Array Keyed} {ia ib:Nat} (h:J xs ys out ia ib):fD (xs.toList.drop ia):=(List.pairwise_append.mp h.sx).2.1
theorem J.sY {out:Array Keyed} {ia ib:Nat} (h:J xs ys out ia ib):fD (ys.toList.drop ib):=(List.pairwise_append.mp h.sy).2.1
theorem J.mi {out:Array Keyed} {ia ib:Nat} (h:J xs ys out ia ib) (hb:ib<ys.size) (ha:ia<xs.size) (c:R ys[ib] xs[ia]):J xs ys (out.push ys[ib]) ia (ib+1):=by
 have sX:=h.sX
 unfold J at *
 rw [Array.toList_push]
 refine Mg.right (Y1:=[ys[ib]]) (by rw [List.singleton_append,← drop_cons hb];exact h) fun y hy x hx=>?_
 rw [List.mem_singleton.mp hy]
 exact Int.le_trans c (jN ha sX hx)
theorem J.jq {out:Array Keyed} {ia ib:Nat} (h:J xs ys out ia ib) (hb:ib<ys.size) (ha:ia<xs.size) (c:R xs[ia] ys[ib]):J xs ys (out.push xs[ia]) (ia+1) ib:=by
 have sY:=h.sY
 unfold J at *
 rw [Array.toList_push]
 refine Mg.left (X1:=[xs[ia]]) (by rw [List.singleton_append,← drop_cons ha];exact h) fun y hy x hx=>?_
 rw [List.mem_singleton.mp hy]
 exact Int.le_trans c (jN hb sY hx)
theorem J.yb {out:Array Keyed} {ia ib k:Nat} (h:J xs ys out ia ib) (hb:ib<ys.size) (c:∀ i,i<k→K xs (ia+i)≤kk ys[ib]):J xs ys (out++xs.extract ia (ia+k)) (ia+k) ib:=by
 have sY:=h.sY
 unfold J at *
 rw [Array.toList_append,ext_toList,show ia+k-ia=k by omega]
 refine Mg.left (by rw [← List.drop_drop,List.take_append_drop];exact h) fun x hx y hy=>?_
 obtain⟨i,hi,h1,rfl⟩:=cY hx
 have:=c i h1
 rw [iU hi] at this
 exact Int.le_trans this (jN hb sY hy)
theorem J.yc {out:Array Keyed} {ia ib k:Nat} (h:J xs ys out ia ib) (ha:ia<xs.size) (c:∀ i,i<k→K ys (ib+i)<kk xs[ia]):J xs ys (out++ys.extract ib (ib+k)) ia (ib+k):=by
 have sX:=h.sX
 unfold J at *
 rw [Array.toList_append,ext_toList,show ib+k-ib=k by omega]
 refine Mg.right (by rw [← List.drop_drop,List.take_append_drop];exact h) fun x hx y hy=>?_
 obtain⟨i,hi,h1,rfl⟩:=cY hx
 have:=c i h1
 rw [iU hi] at this
 exact Int.le_trans (Int.le_of_lt this) (jN ha sX hy)
def fH (xs ys z:Array Keyed):Prop:=Out z.toList (xs.toList++ys.toList)
theorem jM (zs:Array Keyed) (a:Nat):(zs.extract a zs.size).toList=zs.toList.drop a:=by
 rw [ext_toList,List.take_of_length_le (by simp)]
theorem J.done {out:Array Keyed} {ia ib:Nat} (h:J xs ys out ia ib) (c:ib=ys.size∨ia=xs.size):fH xs ys (out++xs.extract ia xs.size++ys.extract ib ys.size):=by
 unfold J at h
 unfold fH
 rw [Array.toList_append,Array.toList_append,jM,jM]
 rcases c with rfl | rfl
 ·rw [List.drop_of_length_le (l:=ys.toList) (by simp)] at h ⊢
  rw [List.append_nil]
  exact h.vJ
 ·rw [List.drop_of_length_le (l:=xs.toList) (by simp)] at h ⊢
  rw [List.append_nil]
  exact h.yE
theorem J.last {out:Array Keyed} {ia ib:Nat} (h:J xs ys out ia ib) (e:ia+1=xs.size) (l:∀ y∈ys.toList,∀ x,xs.toList.getLast?=some x→R y x):fH xs ys (out++ys.extract ib ys.size++xs.extract ia xs.size):=by
 unfold J at h
 unfold fH
 rw [Array.toList_append,Array.toList_append,jM,jM]
 have h1:xs.toList.drop ia=[xs[ia]]:=by
  rw [drop_cons (by omega),List.drop_of_length_le (by simp;omega)]
 rw [h1] at h ⊢
 refine h.Cg fun y hy=>l y (List.mem_of_mem_drop hy) _ ?_
 rw [List.getLast?_eq_getElem?]
 simp only [Array.length_toList,show xs.size-1=ia by omega]
 simp
theorem D6 {st:SortSt} {Q:Array Keyed→SortSt→Prop} (hk:kindOf st=oneType') (nX:eG xs) (nY:eG ys) (px:0<xs.size) (py:0<ys.size) (sx:fD xs.toList) (sy:fD ys.toList)
  (f:R ys[0] xs[0]) (l:∀ y∈ys.toList,∀ x,xs.toList.getLast?=some x→R y x)
  (q:∀ z st',Sm st st'→fH xs ys z→Q z st'):wpS (model prog w) A E s (o9 xs ys) Q st:=by
 have J0:J xs ys #[] 0 0:=⟨by simpa using sx,by simpa using sy,by simp⟩
 have J1:J xs ys #[ys[0]] 0 1:=by simpa using J0.mi py px f
 unfold o9
 refine wpS_bind (wpS_lift (wpAny_rule ⟨rfl,?_⟩))
 dsimp only
 refine wpS_bind (el py ?_)
 by_cases e1:1=ys.size
 ·rw [if_pos (by simpa using e1)]
  exact wpS_pure (q _ _ (Sm.refl _) (J1.done (.inl e1)))
 rw [if_neg (by simpa using e1)]
 by_cases e2:0+1=xs.size
 ·rw [if_pos (by simpa using e2)]
  exact wpS_pure (q _ _ (Sm.refl _) (J1.last e2 l))
 rw [if_neg (by simpa using e2)]
 refine wpS_bind (wpS_get ?_)
 refine wpS_bind (wpS_mono (wpS_forRange (I:=fun x c st'=>Sm st st'∧∃ out ia ib mg,c=(none,out,ia,ib,mg)∧J xs ys out ia ib∧ia+1<xs.size∧ib<ys.size∧x+1≤ia+ib)
  (Q:=fun c st'=>Sm st st'∧∃ z r,c=(some z,r)∧fH xs ys z) ?step ?fin ⟨Sm.refl _,_,0,1,_,rfl,J1,by omega,by omega,by omega⟩) ?post)
 case post =>
  rintro c st' ⟨sm,z,r,rfl,o⟩
  exact wpS_pure (q z st' sm o)
 case fin =>
  rintro c st' ⟨sm,out,ia,ib,mg,rfl,j,h1,h2,h3⟩
  omega
 case step =>
  rintro x c st' _ hx ⟨sm,out,ia,ib,mg,rfl,j,h1,h2,h3⟩
  dsimp only
  have hk':kindOf st'=oneType':=sm.kind.trans hk
  refine wpS_bind (wpS_mono (wpS_forRange (I:=fun y c st2=>st2=st'∧∃ out ia ib ac bc,c=(none,out,ia,ib,ac,bc)∧J xs ys out ia ib∧ia+1<xs.size∧ib<ys.size∧x+1+y≤ia+ib)
   (Q:=fun c st2=>st2=st'∧((∃ out ia ib ac bc,c=(none,out,ia,ib,ac,bc)∧J xs ys out ia ib∧ia+1<xs.size∧ib<ys.size∧x+2≤ia+ib)∨∃ z r,c=(some z,r)∧fH xs ys z))
   ?istep ?ifin ⟨rfl,_,_,_,_,_,rfl,j,h1,h2,by omega⟩) ?ipost)
  case ifin =>
   rintro c st2 ⟨rfl,out,ia,ib,ac,bc,rfl,j,h1,h2,h3⟩
   omega
  case istep =>
   rintro y c st2 _ hy ⟨rfl,out,ia,ib,ac,bc,rfl,j,h1,h2,h3⟩
   dsimp only
   refine wpS_bind (el h2 ?_)
   refine wpS_bind (el (by omega) ?_)
   refine wpS_bind (kB hk' (nY.at h2) (nX.at (by omega)) ?_)
   by_cases c:kk ys[ib]<kk xs[ia]
   ·rw [decide_eq_true c]
    dsimp only
    rw [if_pos rfl]
    refine wpS_bind (el h2 ?_)
    have j':=j.mi h2 (by omega) (Int.le_of_lt c)
    by_cases e:ib+1=ys.size
    ·rw [if_pos (by simpa using e)]
     exact wpS_pure ⟨rfl,.inr ⟨_,_,rfl,j'.done (.inl e)⟩⟩
    ·rw [if_neg (by simpa using e)]
     split
     ·exact wpS_pure ⟨rfl,.inl ⟨_,_,_,_,_,rfl,j',h1,by omega,by omega⟩⟩
     ·exact wpS_pure ⟨rfl,_,_,_,_,_,rfl,j',h1,by omega,by omega⟩
   ·rw [decide_eq_false c]
    dsimp only
    rw [if_neg (by simp)]
    refine wpS_bind (el (by omega) ?_)
    have j':=j.jq h2 (by omega) (show R _ _ from Int.not_lt.mp c)
    by_cases e:ia+1+1=xs.size
    ·rw [if_pos (by simpa using e)]
     exact wpS_pure ⟨rfl,.inr ⟨_,_,rfl,j'.last e l⟩⟩
    ·rw [if_neg (by simpa using e)]
     split
     ·exact wpS_pure ⟨rfl,.inl ⟨_,_,_,_,_,rfl,j',by omega,h2,by omega⟩⟩
     ·exact wpS_pure ⟨rfl,_,_,_,_,_,rfl,j',by omega,h2,by omega⟩
  case ipost =>
   rintro c st2 ⟨rfl,⟨out,ia,ib,ac,bc,rfl,j,h1,h2,h3⟩|⟨z,r,rfl,o⟩⟩
   ·dsimp only
    refine wpS_bind (wpS_lift (wpAny_rule ⟨rfl,?_⟩))
    refine wpS_bind (wpS_mono (wpS_forRange (I:=fun y c st3=>Sm st2 st3∧∃ out ia ib mg ac bc,c=(none,out,ia,ib,mg,ac,bc)∧J xs ys out ia ib∧ia+1<xs.size∧ib<ys.size∧x+2+y≤ia+ib)
     (Q:=fun c st3=>Sm st2 st3∧((∃ out ia ib mg ac bc,c=(none,out,ia,ib,mg,ac,bc)∧J xs ys out ia ib∧ia+1<xs.size∧ib<ys.size∧x+2≤ia+ib)∨∃ z r,c=(some z,r)∧fH xs ys z))
     ?gstep ?gfin ⟨Sm.refl _,_,_,_,_,_,_,rfl,j,h1,h2,by omega⟩) ?gpost)
    case gfin =>
     rintro c st3 ⟨sm3,out,ia,ib,mg,ac,bc,rfl,j,h1,h2,h3⟩
     omega
    case gpost =>
     rintro c st3 ⟨sm3,⟨out,ia,ib,mg,ac,bc,rfl,j,h1,h2,h3⟩|⟨z,r,rfl,o⟩⟩
     ·dsimp only
      refine wpS_bind (nI fun st4 sm4=>?_)
      exact wpS_pure ⟨(sm.trans sm3).trans sm4,_,_,_,_,rfl,j,h1,h2,by omega⟩
     ·obtain⟨r1,r2,r3,r4,r5,r6⟩:=r
      exact wpS_pure ⟨sm.trans sm3,_,_,rfl,o⟩
    case gstep =>
     rintro y c st3 _ hy ⟨sm3,out,ia,ib,mg,ac,bc,rfl,j,h1,h2,h3⟩
     dsimp only
     by_cases cg:mg > 1
     case' pos=>rw [if_pos cg]
     case' neg=>rw [if_neg cg]
     all_goals
      refine wpS_bind (nI fun st4 sm4=>?_)
      have hk4:kindOf st4=oneType':=(sm3.trans sm4).kind.trans hk'
      refine wpS_bind (el h2 ?_)
      refine wpS_bind (BU hk4 nX (nY.at h2) (by omega) (by omega) (qj (by omega) j.sX) fun k hk1 hk2 hk3=>?_)
      dsimp only
      have j1:J xs ys (out++xs.extract ia (ia+k)) (ia+k) ib:=j.yb h2 fun i hi=>by
       have:=hk2 i hi
       unfold jf at this
       simpa using this
      have big:∀ i,ia+k≤i→i<xs.size→kk ys[ib]<K xs i:=fun i g1 g2=>by
       have:=hk3 (i-ia) (by omega) (by omega)
       rw [show ia+(i-ia)=i by omega] at this
       unfold jf at this
       simpa using this
      by_cases ck:k > 0
      case' pos =>
       rw [if_pos ck]
       by_cases e5:ia+k+1=xs.size
       case pos =>
        rw [if_pos (by simpa using e5)]
        exact wpS_pure ⟨sm3.trans sm4,.inr ⟨_,_,rfl,j1.last e5 l⟩⟩
       rw [if_neg (by simpa using e5)]
       by_cases e6:ia+k=xs.size
       case pos =>
        rw [if_pos (by simpa using e6)]
        exact wpS_pure ⟨sm3.trans sm4,.inr ⟨_,_,rfl,j1.done (.inr e6)⟩⟩
       rw [if_neg (by simpa using e6)]
       have jA:=j1
       have hA:ia+k+1<xs.size:=by omega
       have hB:kk ys[ib]<kk xs[ia+k]:=by have:=big (ia+k) (by omega) (by omega);rwa [iU (by omega)] at this
      case' neg =>
       rw [if_neg ck]
       have jA:=j
       have hA:=h1
       have hB:kk ys[ib]<kk xs[ia]:=by have:=big ia (by omega) (by omega);rwa [iU (by omega)] at this
      all_goals
       refine wpS_bind (el h2 ?_)
       have jB:=jA.mi h2 (by omega) (Int.le_of_lt hB)
       by_cases e:ib+1=ys.size
       case pos =>
        rw [if_pos (by simpa using e)]
        exact wpS_pure ⟨sm3.trans sm4,.inr ⟨_,_,rfl,jB.done (.inl e)⟩⟩
       rw [if_neg (by simpa using e)]
       refine wpS_bind (el (by omega) ?_)
       refine wpS_bind (BU hk4 nY (nX.at (by omega)) (by omega) (by omega) (qj (by omega) jB.sY) fun k2 g1 g2 g3=>?_)
       dsimp only
       have jC:=jB.yc (k:=k2) (by omega) (fun i hi=>by have:=g2 i hi;unfold jf at this;simpa using this)
       by_cases c2:k2 > 0
       case' pos =>
        rw [if_pos c2]
        by_cases e3:ib+1+k2=ys.size
        case pos =>
         rw [if_pos (by simpa using e3)]
         exact wpS_pure ⟨sm3.trans sm4,.inr ⟨_,_,rfl,jC.done (.inl e3)⟩⟩
        rw [if_neg (by simpa using e3)]
        refine wpS_bind (el (by omega) ?_)
        have jD:=jC.jq (by omega) (by omega) (by
         have:=g3 k2 (Nat.le_refl _) (by omega)
         unfold jf at this
         rw [iU (by omega)] at this
         unfold R
         simpa using this)
       case' neg =>
        rw [if_neg c2]
        refine wpS_bind (el (by omega) ?_)
        have jD:=jB.jq (by omega) (by omega) (by
         have:=g3 0 (by omega) (by omega)
         unfold jf at this
         rw [Nat.add_zero,iU (by omega)] at this
         unfold R
         simpa using this)
       all_goals
        rename_i g7
        try have g7:=g7
        split
        ·rename_i e4
         exact wpS_pure ⟨sm3.trans sm4,.inr ⟨_,_,rfl,jD.last (by simpa using e4) l⟩⟩
        ·rename_i e4
         have e4':¬_=xs.size:=fun z=>e4 (by simpa using z)
         split
         ·exact wpS_pure ⟨sm3.trans sm4,.inl ⟨_,_,_,_,_,_,rfl,jD,by omega,by omega,by omega⟩⟩
         ·exact wpS_pure ⟨sm3.trans sm4,_,_,_,_,_,_,rfl,jD,by omega,by omega,by omega⟩
   ·obtain⟨r1,r2,r3,r4,r5⟩:=r
    exact wpS_pure ⟨sm,_,_,rfl,o⟩
end
end Tim
namespace Tim
open PySem PyProof.Rows
section
variable {prog:Program} {w:World} {A:Around} {E:Value→Shared→Prop} {s:Shared} {xs ys:Array Keyed}
def Jh (xs ys out:Array Keyed) (na nb:Nat):Prop:=Mh out.reverse.toList (xs.toList.take na) (ys.toList.take nb) (xs.toList++ys.toList)
theorem le_last {zs:Array Keyed} {i:Nat} (hi:i<zs.size) (h:fD (zs.toList.take (i+1))) {x:Keyed} (hx:x∈zs.toList.take (i+1)):R x zs[i]:=by
 rw [fx hi] at h hx
 rcases List.mem_append.mp hx with hx | hx
 ·exact (List.pairwise_append.mp h).2.2 x hx _ (List.mem_singleton.mpr rfl)
 ·rw [List.mem_singleton.mp hx];exact Int.le_refl _
theorem Jh.sX {out:Array Keyed} {na nb:Nat} (h:Jh xs ys out na nb):fD (xs.toList.take na):=(List.pairwise_append.mp h.sx).1
theorem Jh.sY {out:Array Keyed} {na nb:Nat} (h:Jh xs ys out na nb):fD (ys.toList.take nb):=(List.pairwise_append.mp h.sy).1
theorem Jh.jq {out:Array Keyed} {na nb:Nat} (h:Jh xs ys out (na+1) nb) (ha:na<xs.size) (c:∀ y∈ys.toList.take nb,R y xs[na]):Jh xs ys (out.push xs[na]) na nb:=by
 unfold Jh at *
 rw [fx ha] at h
 have:=h.left (X2:=[xs[na]]) (fun y hy x hx=>by rw [List.mem_singleton.mp hx];exact c y hy)
 simpa using this
theorem Jh.mi {out:Array Keyed} {na nb:Nat} (h:Jh xs ys out na (nb+1)) (hb:nb<ys.size) (c:∀ x∈xs.toList.take na,R x ys[nb]):Jh xs ys (out.push ys[nb]) na nb:=by
 unfold Jh at *
 rw [fx hb] at h
 have:=h.right (Y2:=[ys[nb]]) (fun y hy x hx=>by rw [List.mem_singleton.mp hx];exact c y hy)
 simpa using this
theorem qu (zs:Array Keyed) {a b:Nat} (h:a≤b):zs.toList.take b=zs.toList.take a++(zs.extract a b).toList:=by
 rw [ext_toList,← List.drop_take]
 have:zs.toList.take a=(zs.toList.take b).take a:=by rw [List.take_take,Nat.min_eq_left h]
 rw [this,List.take_append_drop]
theorem Jh.yb {out:Array Keyed} {na nb a:Nat} (h:Jh xs ys out na nb) (ha:a≤na) (c:∀ y∈ys.toList.take nb,∀ x∈(xs.extract a na).toList,R y x):Jh xs ys (out++(xs.extract a na).reverse) a nb:=by
 unfold Jh at *
 rw [qu xs ha] at h
 have:=h.left c
 rw [Array.reverse_append,Array.reverse_reverse,Array.toList_append]
 exact this
theorem Jh.yc {out:Array Keyed} {na nb b:Nat} (h:Jh xs ys out na nb) (hb:b≤nb) (c:∀ x∈xs.toList.take na,∀ y∈(ys.extract b nb).toList,R x y):Jh xs ys (out++(ys.extract b nb).reverse) na b:=by
 unfold Jh at *
 rw [qu ys hb] at h
 have:=h.right c
 rw [Array.reverse_append,Array.reverse_reverse,Array.toList_append]
 exact this
theorem ig (zs:Array Keyed) (a:Nat):(zs.extract 0 a).toList=zs.toList.take a:=by rw [ext_toList];simp
theorem Jh.done {out:Array Keyed} {na nb:Nat} (h:Jh xs ys out na nb) (c:na=0∨nb=0):fH xs ys (xs.extract 0 na++ys.extract 0 nb++out.reverse):=by
 unfold Jh at h
 unfold fH
 rw [Array.toList_append,Array.toList_append,ig,ig]
 rcases c with rfl | rfl
 ·rw [List.take_zero] at h ⊢
  exact h.yE
 ·rw [List.take_zero] at h ⊢
  rw [List.append_nil]
  exact h.vJ
theorem Jh.first {out:Array Keyed} {na nb:Nat} (h:Jh xs ys out na nb) (py:0<ys.size) (e:nb=1) (l:∀ x∈xs.toList,R ys[0] x):fH xs ys (ys.extract 0 nb++xs.extract 0 na++out.reverse):=by
 unfold Jh at h
 unfold fH
 rw [Array.toList_append,Array.toList_append,ig,ig]
 subst e
 have h1:ys.toList.take 1=[ys[0]]:=by rw [show 1=0+1 from rfl,fx py];simp
 rw [h1] at h ⊢
 exact h.Ci fun x hx=>l x (List.mem_of_mem_take hx)
theorem sr {zs:Array Keyed} {a b:Nat} {x:Keyed} (h:x∈(zs.extract a b).toList):∃ i,∃(hi:i<zs.size),a≤i∧i<b∧x=zs[i]:=by
 rw [ext_toList] at h
 obtain⟨i,hi,h1,rfl⟩:=cY h
 exact⟨a+i,hi,by omega,by omega,rfl⟩
theorem D5 {st:SortSt} {Q:Array Keyed→SortSt→Prop} (hk:kindOf st=oneType') (nX:eG xs) (nY:eG ys) (px:0<xs.size) (py:0<ys.size) (sx:fD xs.toList) (sy:fD ys.toList)
  (f:∀ x∈xs.toList,R ys[0] x) (l:∀ y∈ys.toList,R y (xs[xs.size-1]'(by omega)))
  (q:∀ z st',Sm st st'→fH xs ys z→Q z st'):wpS (model prog w) A E s (oZ xs ys) Q st:=by
 have J0:Jh xs ys #[] (xs.size-1+1) ys.size:=by
  refine⟨?_,?_,?_⟩
  ·rw [List.take_of_length_le (by simp;omega)];simpa using sx
  ·rw [List.take_of_length_le (by simp)];simpa using sy
  ·rw [List.take_of_length_le (by simp;omega),List.take_of_length_le (by simp)];simp
 have J1:Jh xs ys #[xs[xs.size-1]] (xs.size-1) ys.size:=by
  have:=J0.jq (by omega) (fun y hy=>l y (List.mem_of_mem_take hy))
  simpa using this
 unfold oZ
 refine wpS_bind (wpS_lift (wpAny_rule ⟨rfl,?_⟩))
 dsimp only
 refine wpS_bind (el (by omega) ?_)
 by_cases e1:xs.size-1=0
 ·rw [if_pos (by simpa using e1)]
  exact wpS_pure (q _ _ (Sm.refl _) (J1.done (.inl e1)))
 rw [if_neg (by simpa using e1)]
 by_cases e2:ys.size=1
 ·rw [if_pos (by simpa using e2)]
  exact wpS_pure (q _ _ (Sm.refl _) (J1.first py e2 f))
 rw [if_neg (by simpa using e2)]
 refine wpS_bind (wpS_get ?_)
 refine wpS_bind (wpS_mono (wpS_forRange (I:=fun x c st'=>Sm st st'∧∃ out na nb mg,c=(none,na,nb,out,mg)∧Jh xs ys out na nb∧0<na∧na≤xs.size∧1<nb∧nb≤ys.size∧na+nb+x+1≤xs.size+ys.size)
  (Q:=fun c st'=>Sm st st'∧∃ z r,c=(some z,r)∧fH xs ys z) ?step ?fin ⟨Sm.refl _,_,_,_,_,rfl,J1,by omega,by omega,by omega,by omega,by omega⟩) ?post)
 case post =>
  rintro c st' ⟨sm,z,r,rfl,o⟩
  exact wpS_pure (q z st' sm o)
 case fin =>
  rintro c st' ⟨sm,out,na,nb,mg,rfl,j,h1,h2,h3⟩
  omega
 case step =>
  rintro x c st' _ hx ⟨sm,out,na,nb,mg,rfl,j,h1,h2,h3,h4,h5⟩
  dsimp only
  have hk':kindOf st'=oneType':=sm.kind.trans hk
  refine wpS_bind (wpS_mono (wpS_forRange (I:=fun y c st2=>st2=st'∧∃ out na nb ac bc,c=(none,na,nb,out,ac,bc)∧Jh xs ys out na nb∧0<na∧na≤xs.size∧1<nb∧nb≤ys.size∧na+nb+x+1+y≤xs.size+ys.size)
   (Q:=fun c st2=>st2=st'∧((∃ out na nb ac bc,c=(none,na,nb,out,ac,bc)∧Jh xs ys out na nb∧0<na∧na≤xs.size∧1<nb∧nb≤ys.size∧na+nb+x+2≤xs.size+ys.size)∨∃ z r,c=(some z,r)∧fH xs ys z))
   ?istep ?ifin ⟨rfl,_,_,_,_,_,rfl,j,h1,h2,h3,h4,by omega⟩) ?ipost)
  case ifin =>
   rintro c st2 ⟨rfl,out,na,nb,ac,bc,rfl,j,h1,h2,h3⟩
   omega
  case istep =>
   rintro y c st2 _ hy ⟨rfl,out,na,nb,ac,bc,rfl,j,h1,h2,h3,h4,h5⟩
   dsimp only
   obtain⟨na,rfl⟩:∃ m,na=m+1:=⟨na-1,by omega⟩
   obtain⟨nb,rfl⟩:∃ m,nb=m+1:=⟨nb-1,by omega⟩
   refine wpS_bind (el (by omega) ?_)
   refine wpS_bind (el (by omega) ?_)
   simp only [Nat.add_sub_cancel]
   refine wpS_bind (kB hk' (nY.at (by omega)) (nX.at (by omega)) ?_)
   by_cases c:kk ys[nb]<kk xs[na]
   ·rw [decide_eq_true c]
    dsimp only
    rw [if_pos rfl]
    refine wpS_bind (el (by omega) ?_)
    have j':=j.jq (by omega) fun y hy=>Int.le_trans (le_last (by omega) j.sY hy) (Int.le_of_lt c)
    by_cases e:na=0
    ·rw [if_pos (by simpa using e)]
     exact wpS_pure ⟨rfl,.inr ⟨_,_,rfl,j'.done (.inl e)⟩⟩
    ·rw [if_neg (by simpa using e)]
     split
     ·exact wpS_pure ⟨rfl,.inl ⟨_,_,_,_,_,rfl,j',by omega,by omega,by omega,by omega,by omega⟩⟩
     ·exact wpS_pure ⟨rfl,_,_,_,_,_,rfl,j',by omega,by omega,by omega,by omega,by omega⟩
   ·rw [decide_eq_false c]
    dsimp only
    rw [if_neg (by simp)]
    refine wpS_bind (el (by omega) ?_)
    have j':=j.mi (by omega) fun y hy=>Int.le_trans (le_last (by omega) j.sX hy) (Int.not_lt.mp c)
    by_cases e:nb=1
    ·rw [if_pos (by simpa using e)]
     exact wpS_pure ⟨rfl,.inr ⟨_,_,rfl,j'.first py e f⟩⟩
    ·rw [if_neg (by simpa using e)]
     split
     ·exact wpS_pure ⟨rfl,.inl ⟨_,_,_,_,_,rfl,j',by omega,by omega,by omega,by omega,by omega⟩⟩
     ·exact wpS_pure ⟨rfl,_,_,_,_,_,rfl,j',by omega,by omega,by omega,by omega,by omega⟩
  case ipost =>
   rintro c st2 ⟨rfl,⟨out,na,nb,ac,bc,rfl,j,h1,h2,h3,h4,h5⟩|⟨z,r,rfl,o⟩⟩
   ·dsimp only
    refine wpS_bind (wpS_lift (wpAny_rule ⟨rfl,?_⟩))
    refine wpS_bind (wpS_mono (wpS_forRange (I:=fun y c st3=>Sm st2 st3∧∃ out na nb mg ac bc,c=(none,na,nb,out,mg,ac,bc)∧Jh xs ys out na nb∧0<na∧na≤xs.size∧1<nb∧nb≤ys.size∧na+nb+x+2+y≤xs.size+ys.size)
     (Q:=fun c st3=>Sm st2 st3∧((∃ out na nb mg ac bc,c=(none,na,nb,out,mg,ac,bc)∧Jh xs ys out na nb∧0<na∧na≤xs.size∧1<nb∧nb≤ys.size∧na+nb+x+2≤xs.size+ys.size)∨∃ z r,c=(some z,r)∧fH xs ys z))
     ?gstep ?gfin ⟨Sm.refl _,_,_,_,_,_,_,rfl,j,h1,h2,h3,h4,by omega⟩) ?gpost)
    case gfin =>
     rintro c st3 ⟨sm3,out,na,nb,mg,ac,bc,rfl,j,h1,h2,h3⟩
     omega
    case gpost =>
     rintro c st3 ⟨sm3,⟨out,na,nb,mg,ac,bc,rfl,j,h1,h2,h3,h4,h5⟩|⟨z,r,rfl,o⟩⟩
     ·dsimp only
      refine wpS_bind (nI fun st4 sm4=>?_)
      exact wpS_pure ⟨(sm.trans sm3).trans sm4,_,_,_,_,rfl,j,h1,h2,h3,h4,by omega⟩
     ·obtain⟨r1,r2,r3,r4,r5,r6⟩:=r
      exact wpS_pure ⟨sm.trans sm3,_,_,rfl,o⟩
    case gstep =>
     rintro y c st3 _ hy ⟨sm3,out,na,nb,mg,ac,bc,rfl,j,h1,h2,h3,h4,h5⟩
     obtain⟨nb,rfl⟩:∃ m,nb=m+1:=⟨nb-1,by omega⟩
     dsimp only
     by_cases cg:mg > 1
     case' pos=>rw [if_pos cg]
     case' neg=>rw [if_neg cg]
     all_goals
      refine wpS_bind (nI fun st4 sm4=>?_)
      have hk4:kindOf st4=oneType':=(sm3.trans sm4).kind.trans hk'
      simp only [Nat.add_sub_cancel]
      refine wpS_bind (el (by omega) ?_)
      refine wpS_bind (BU hk4 nX (nY.at (by omega)) (by omega) (by omega) (qp (by omega) j.sX) fun at_ g1 g2 g3=>?_)
      dsimp only
      have low:∀ x∈xs.toList.take at_,R x ys[nb]:=fun x hx=>by
       obtain⟨i,hi,h,rfl⟩:=l7 hx
       have:=g2 i h
       unfold jf at this
       rw [Nat.zero_add,iU hi] at this
       unfold R
       simpa using this
      have j1:Jh xs ys (out++(xs.extract at_ na).reverse) at_ (nb+1):=j.yb g1 fun y hy x hx=>by
       obtain⟨i,hi,h,h',rfl⟩:=sr hx
       have:=g3 i h h'
       unfold jf at this
       rw [Nat.zero_add,iU hi] at this
       have h6:kk ys[nb]<kk xs[i]:=by simpa using this
       exact Int.le_trans (le_last (by omega) j.sY hy) (Int.le_of_lt h6)
      by_cases ck:na-at_ > 0
      case' pos =>
       rw [if_pos ck]
       by_cases e5:at_=0
       case pos =>
        rw [if_pos (by simpa using e5)]
        exact wpS_pure ⟨sm3.trans sm4,.inr ⟨_,_,rfl,j1.done (.inl e5)⟩⟩
       rw [if_neg (by simpa using e5)]
       obtain⟨m,rfl⟩:∃ m,at_=m+1:=⟨at_-1,by omega⟩
       have jA:=j1
      case' neg =>
       rw [if_neg ck]
       obtain rfl:at_=na:=by omega
       obtain⟨m,rfl⟩:∃ m,at_=m+1:=⟨at_-1,by omega⟩
       have jA:=j
      all_goals
       refine wpS_bind (el (by omega) ?_)
       have jB:=jA.mi (by omega) low
       by_cases e:nb=1
       case pos =>
        rw [if_pos (by simpa using e)]
        exact wpS_pure ⟨sm3.trans sm4,.inr ⟨_,_,rfl,jB.first py e f⟩⟩
       rw [if_neg (by simpa using e)]
       simp only [Nat.add_sub_cancel]
       refine wpS_bind (el (by omega) ?_)
       refine wpS_bind (BU hk4 nY (nX.at (by omega)) (by omega) (by omega) (qp (by omega) jB.sY) fun b2 f1 f2 f3=>?_)
       dsimp only
       have low2:∀ y∈ys.toList.take b2,R y xs[m]:=fun y hy=>by
        obtain⟨i,hi,h,rfl⟩:=l7 hy
        have:=f2 i h
        unfold jf at this
        rw [Nat.zero_add,iU hi] at this
        unfold R
        have:kk ys[i]<kk xs[m]:=by simpa using this
        omega
       have jC:=jB.yc f1 fun x hx y hy=>by
        obtain⟨i,hi,h,h',rfl⟩:=sr hy
        have:=f3 i h h'
        unfold jf at this
        rw [Nat.zero_add,iU hi] at this
        have h6:kk xs[m]≤kk ys[i]:=by simpa using this
        exact Int.le_trans (le_last (by omega) jB.sX hx) h6
       by_cases c2:nb-b2 > 0
       case' pos =>
        rw [if_pos c2]
        by_cases e3:b2=1
        case pos =>
         rw [if_pos (by simpa using e3)]
         exact wpS_pure ⟨sm3.trans sm4,.inr ⟨_,_,rfl,jC.first py e3 f⟩⟩
        rw [if_neg (by simpa using e3)]
        by_cases e4:b2=0
        case pos =>
         rw [if_pos (by simpa using e4)]
         exact wpS_pure ⟨sm3.trans sm4,.inr ⟨_,_,rfl,jC.done (.inr e4)⟩⟩
        rw [if_neg (by simpa using e4)]
        refine wpS_bind (el (by omega) ?_)
        have jD:=jC.jq (by omega) low2
       case' neg =>
        rw [if_neg c2]
        obtain rfl:b2=nb:=by omega
        refine wpS_bind (el (by omega) ?_)
        have jD:=jB.jq (by omega) low2
       all_goals
        by_cases e8:m=0
        case pos =>
         rw [if_pos (by simpa using e8)]
         exact wpS_pure ⟨sm3.trans sm4,.inr ⟨_,_,rfl,jD.done (.inl e8)⟩⟩
        rw [if_neg (by simpa using e8)]
        split
        ·exact wpS_pure ⟨sm3.trans sm4,.inl ⟨_,_,_,_,_,_,rfl,jD,by omega,by omega,by omega,by omega,by omega⟩⟩
        ·exact wpS_pure ⟨sm3.trans sm4,_,_,_,_,_,_,rfl,jD,by omega,by omega,by omega,by omega,by omega⟩
   ·obtain⟨r1,r2,r3,r4,r5⟩:=r
    exact wpS_pure ⟨sm,_,_,rfl,o⟩
end
end Tim
namespace Tim
open PySem PyProof.Rows
theorem xi:∀(z U V W:List Keyed) (n o:Nat) (a:Array Keyed),a.toList=U++(V++W)→U.length=o+n→V.length=z.length →
  ((z.zipIdx n).foldl (fun a (x:Keyed × Nat)=>match x with | (p,j)=>a.setIfInBounds (o+j) p) a).toList=U++(z++W)
 | [],U,V,W,n,o,a,h,e,l=>by
  rw [List.length_nil,List.length_eq_zero_iff] at l
  subst l
  simpa using h
 | x::z,U,[],W,n,o,a,h,e,l=>by simp at l
 | x::z,U,v::V,W,n,o,a,h,e,l=>by
  rw [List.zipIdx_cons,List.foldl_cons]
  have h':(a.setIfInBounds (o+n) x).toList=(U++[x])++(V++W):=by
   rw [Array.toList_setIfInBounds,h,← e,List.set_append_right _ _ (Nat.le_refl _),Nat.sub_self]
   simp
  have:=xi z (U++[x]) V W (n+1) o _ h' (by simp;omega) (by simpa using l)
  simpa using this
theorem at_of {a:Array Keyed} {U V W:List Keyed} (h:a.toList=U++(V++W)) {i:Nat} (hi:i<V.length):∃(g:U.length+i<a.size),a[U.length+i]=V[i]:=by
 have hl:a.size=U.length+(V.length+W.length):=by rw [← Array.length_toList,h];simp
 refine⟨by omega,?_⟩
 have:a.toList[U.length+i]?=some V[i]:=by
  rw [h,List.getElem?_append_right (by omega),Nat.add_sub_cancel_left,List.getElem?_append_left hi,List.getElem?_eq_getElem hi]
 have g:U.length+i<a.size:=by omega
 rw [Array.getElem?_toList,Array.getElem?_eq_getElem g] at this
 exact Option.some.inj this
theorem AB {a:Array Keyed} {U V W:List Keyed} (h:a.toList=U++(V++W)) {i:Nat} (hi:i<V.length):K a (U.length+i)=kk V[i]:=by
 obtain⟨g,e⟩:=at_of h hi
 rw [iU g,e]
theorem Au {a:Array Keyed} {U V W:List Keyed} (h:a.toList=U++(V++W)) (s:fD V):Up a U.length (U.length+V.length):=by
 have hl:a.size=U.length+(V.length+W.length):=by rw [← Array.length_toList,h];simp
 refine gw (by omega) ?_
 rw [h,List.drop_left,List.take_left]
 exact s
theorem rZ {a:Array Keyed} {U V W:List Keyed} (h:a.toList=U++(V++W)) {k m:Nat} (hm:m≤V.length):(a.extract (U.length+k) (U.length+m)).toList=(V.take m).drop k:=by
 rw [ext_toList,h,← List.drop_drop,List.drop_left,show U.length+m-(U.length+k)=m-k by omega,← List.drop_take,List.take_append_of_le_length hm]
section
variable {prog:Program} {w:World} {A:Around} {E:Value→Shared→Prop} {s:Shared}
theorem yi {st st1:SortSt} {Q:PUnit→SortSt→Prop} (h:Q ⟨⟩ st1):wpS (model prog w) A E s (set st1:StateT SortSt Sem PUnit) Q st:=by
 unfold wpS;rw [StateT.run_set];exact wpAny_pure ⟨rfl,h⟩
theorem D4 {st:SortSt} {i:Nat} {p1 p2:List (Nat × Nat × Nat)} {P X Y S:List Keyed} {pw pw':Nat} {Q:Bool→SortSt→Prop} (hk:kindOf st=oneType') (hn:eG (arrOf st)) (hf:failedOf st=none)
  (hp:(pendingOf st).toList=p1++(P.length,X.length,pw)::(P.length+X.length,Y.length,pw')::p2) (hi:p1.length=i)
  (ha:(arrOf st).toList=P++(X++(Y++S))) (sX:fD X) (sY:fD Y) (nX:0<X.length) (nY:0<Y.length)
  (q:∀ st' C,kindOf st'=oneType'→failedOf st'=none→(pendingOf st').toList=p1++(P.length,X.length+Y.length,pw)::p2→(arrOf st').toList=P++(C++S)→fD C→C.Perm (X++Y)→Q true st') :
  wpS (model prog w) A E s (mergeAt' i) Q st:=by
 have hb:(arrOf st).toList=(P++X)++(Y++S):=by rw [ha];simp
 have lb:(P++X).length=P.length+X.length:=by simp
 have hsz:(arrOf st).size=P.length+X.length+Y.length+S.length:=by rw [← Array.length_toList,ha];simp;omega
 have i0:(pendingOf st)[i]?=some (P.length,X.length,pw):=by
  rw [← Array.getElem?_toList,hp,List.getElem?_append_right (by omega)];simp [hi]
 have i1:(pendingOf st)[i+1]?=some (P.length+X.length,Y.length,pw'):=by
  rw [← Array.getElem?_toList,hp,List.getElem?_append_right (by omega)];simp [hi,show i+1-i=1 by omega]
 have pd:(((pendingOf st).setIfInBounds i (P.length,X.length+Y.length,pw)).eraseIdxIfInBounds (i+1)).toList=p1++(P.length,X.length+Y.length,pw)::p2:=by
  rw [Array.toList_eraseIdxIfInBounds,Array.toList_setIfInBounds,hp,← hi,List.set_append_right _ _ (Nat.le_refl _),Nat.sub_self,List.set_cons_zero,
   List.eraseIdx_append_of_length_le (by omega),show p1.length+1-p1.length=1 by omega]
  rfl
 obtain⟨gy,ey⟩:=at_of hb (i:=0) nY
 simp only [lb,Nat.add_zero] at gy ey
 have kY:∀{j:Nat} (h:j<Y.length),K (arrOf st) (P.length+X.length+j)=kk Y[j]:=fun h=>by have:=AB hb h;rwa [lb] at this
 unfold mergeAt'
 refine wpS_bind (wpS_get ?_)
 rw [i0,i1]
 dsimp only
 refine wpS_bind (yi ?_)
 refine wpS_bind (el gy ?_)
 refine wpS_bind (BU (by exact hk) hn (hn.at gy) (show P.length+X.length≤(arrOf st).size by omega) nX (Au ha sX) fun k k1 k2 k3=>?_)
 dsimp only
 simp only [jf,Bool.false_eq_true,if_false] at k2 k3
 have hd:∀{y:Keyed},y∈Y→kk Y[0]≤kk y:=fun {y} hy=>by
  obtain⟨j,hj,rfl⟩:=List.getElem_of_mem hy
  by_cases e:j=0
  ·subst e;exact Int.le_refl _
  ·exact List.pairwise_iff_getElem.mp sY 0 j nY hj (by omega)
 have ls:∀{x:Keyed},x∈X→kk x≤kk X[X.length-1]:=fun {x} hx=>by
  obtain⟨j,hj,rfl⟩:=List.getElem_of_mem hx
  by_cases e:j=X.length-1
  ·subst e;exact Int.le_refl _
  ·exact List.pairwise_iff_getElem.mp sX j (X.length-1) hj (by omega) (by omega)
 have f1:∀ x∈X.take k,∀ y∈Y,R x y:=fun x hx y hy=>by
  obtain⟨j,hj,rfl⟩:=List.getElem_of_mem hx
  rw [List.length_take] at hj
  have:=k2 j (by omega)
  rw [AB ha (by omega),ey] at this
  rw [List.getElem_take]
  exact Int.le_trans this (hd hy)
 have f2:∀ x∈X.drop k,kk Y[0]<kk x:=fun x hx=>by
  obtain⟨j,hj,rfl⟩:=List.getElem_of_mem hx
  rw [List.length_drop] at hj
  have:=k3 (k+j) (by omega) (by omega)
  rw [AB ha (by omega),ey] at this
  rw [List.getElem_drop]
  omega
 by_cases e1:X.length-k=0
 ·rw [if_pos (by simpa using e1)]
  refine wpS_pure (q _ (X++Y) hk hf pd (by simpa using ha) ?_ (List.Perm.refl _))
  rw [show X=X.take k by rw [List.take_of_length_le (by omega)]]
  exact List.pairwise_append.mpr ⟨by rw [List.take_of_length_le (by omega)];exact sX,sY,f1⟩
 rw [if_neg (by simpa using e1)]
 obtain⟨gx,ex⟩:=at_of ha (i:=X.length-1) (by omega)
 have gx':P.length+k+(X.length-k)-1=P.length+(X.length-1):=by omega
 rw [gx']
 refine wpS_bind (el gx ?_)
 refine wpS_bind (BU (by exact hk) hn (hn.at gx) (show P.length+X.length+Y.length≤(arrOf st).size by omega) (by omega) (by have:=Au hb sY;rwa [lb] at this) fun m m1 m2 m3=>?_)
 dsimp only
 simp only [jf,if_true,ex] at m2 m3
 have g1:∀ y∈Y.take m,kk y<kk X[X.length-1]:=fun y hy=>by
  obtain⟨j,hj,rfl⟩:=List.getElem_of_mem hy
  rw [List.length_take] at hj
  have:=m2 j (by omega)
  rw [kY (by omega)] at this
  rw [List.getElem_take]
  exact this
 have g2:∀ y∈Y.drop m,∀ x∈X,R x y:=fun y hy x hx=>by
  obtain⟨j,hj,rfl⟩:=List.getElem_of_mem hy
  rw [List.length_drop] at hj
  have:=m3 (m+j) (by omega) (by omega)
  rw [kY (by omega)] at this
  rw [List.getElem_drop]
  exact Int.le_trans (ls hx) (Int.not_lt.mp this)
 by_cases e2:m=0
 ·rw [if_pos (by simpa using e2)]
  refine wpS_pure (q _ (X++Y) hk hf pd (by simpa using ha) ?_ (List.Perm.refl _))
  exact List.pairwise_append.mpr ⟨sX,sY,fun x hx y hy=>g2 y (by rw [e2];exact hy) x hx⟩
 rw [if_neg (by simpa using e2)]
 have xl:((arrOf st).extract (P.length+k) (P.length+X.length)).toList=X.drop k:=by
  rw [rZ ha (Nat.le_refl _),List.take_length]
 have yl:((arrOf st).extract (P.length+X.length) (P.length+X.length+m)).toList=Y.take m:=by
  have:=rZ hb (k:=0) (m:=m) (by omega)
  rw [lb] at this
  simpa using this
 have sx:fD (X.drop k):=sX.sublist (List.drop_sublist ..)
 have sy:fD (Y.take m):=sY.sublist (List.take_sublist ..)
 have mem:∀{l:List Keyed} {z:Array Keyed},z.toList=l→(∀ x∈l,yu x)→eG z:=fun e h=>by intro p hp';rw [e] at hp';exact h p hp'
 have aX:∀ x∈X.drop k,yu x:=fun x hx=>hn x (by rw [ha];exact List.mem_append_right _ (List.mem_append_left _ (List.mem_of_mem_drop hx)))
 have aY:∀ x∈Y.take m,yu x:=fun x hx=>hn x (by rw [hb];exact List.mem_append_right _ (List.mem_append_left _ (List.mem_of_mem_take hx)))
 generalize hxs:(arrOf st).extract (P.length+k) (P.length+X.length)=xs at xl
 generalize hys:(arrOf st).extract (P.length+X.length) (P.length+X.length+m)=ys at yl
 have zx:xs.size=X.length-k:=by rw [← Array.length_toList,xl];simp
 have zy:ys.size=m:=by rw [← Array.length_toList,yl];simp;omega
 have vX:=mem xl aX
 have vY:=mem yl aY
 have y0:ys[0]'(by omega)=Y[0]:=by
  have:ys.toList[0]?=some Y[0]:=by rw [yl,List.getElem?_take_of_lt (by omega)];simp [nY]
  rw [Array.getElem?_toList,Array.getElem?_eq_getElem (by omega)] at this
  exact Option.some.inj this
 have ff:∀ x∈xs.toList,R (ys[0]'(by omega)) x:=fun x hx=>by rw [y0];rw [xl] at hx;exact Int.le_of_lt (f2 x hx)
 have xlast:xs[xs.size-1]'(by omega)=X[X.length-1]:=by
  have:xs.toList[xs.size-1]?=some X[X.length-1]:=by rw [xl,List.getElem?_drop,List.getElem?_eq_getElem (by omega)];congr 2;omega
  rw [Array.getElem?_toList,Array.getElem?_eq_getElem (by omega)] at this
  exact Option.some.inj this
 have ll:∀ y∈ys.toList,R y (xs[xs.size-1]'(by omega)):=fun y hy=>by rw [xlast];rw [yl] at hy;exact Int.le_of_lt (g1 y hy)
 have fin:∀ z st',Sm (SortSt.mk' (kindOf st) (arrOf st) (((pendingOf st).setIfInBounds i (P.length,X.length+Y.length,pw)).eraseIdxIfInBounds (i+1)) (gallopOf st) (failedOf st)) st'→fH xs ys z →
   wpS (model prog w) A E s (do
    modify fun t=>setArr t (z.toList.zipIdx.foldl (fun a (x:Keyed × Nat)=>match x with | (p,j)=>a.setIfInBounds (P.length+k+j) p) (arrOf t))
    let t ← get
    pure (failedOf t).isNone) Q st':=fun z st' sm o=>by
  refine wpS_bind (wpS_modify (wpS_bind (wpS_get ?_)))
  have hz:z.toList.Perm (X.drop k++Y.take m):=by have:=o.2;rwa [xl,yl] at this
  have hzl:(X.drop k++Y.take m).length=z.toList.length:=hz.length_eq.symm
  have ha':(arrOf st').toList=(P++X.take k)++((X.drop k++Y.take m)++(Y.drop m++S)):=by
   rw [sm.arr]
   show (arrOf st).toList=_
   rw [ha]
   simp only [List.append_assoc]
   rw [← List.append_assoc (X.take k),List.take_append_drop,← List.append_assoc (Y.take m),List.take_append_drop]
  have key:=xi z.toList (P++X.take k) (X.drop k++Y.take m) (Y.drop m++S) 0 (P.length+k) (arrOf st') ha' (by simp;omega) hzl
  have fl:failedOf st'=none:=sm.failed.trans hf
  show wpS _ _ _ _ (pure (failedOf st').isNone) Q _
  rw [fl]
  refine wpS_pure (q _ (X.take k++(z.toList++Y.drop m)) (sm.kind.trans hk) fl ((congrArg Array.toList sm.pend).trans pd) ?_ ?_ ?_)
  ·refine key.trans ?_
   simp only [List.append_assoc]
  ·have mz:∀{c},c∈z.toList→c∈X.drop k∨c∈Y.take m:=fun h=>List.mem_append.mp (hz.mem_iff.mp h)
   refine List.pairwise_append.mpr ⟨sX.sublist (List.take_sublist ..),List.pairwise_append.mpr ⟨o.1,sY.sublist (List.drop_sublist ..),fun c hc y hy=>?_⟩,fun x hx c hc=>?_⟩
   ·rcases mz hc with h | h
    ·exact g2 y hy c (List.mem_of_mem_drop h)
    ·have:=List.pairwise_append.mp (show fD (Y.take m++Y.drop m) by rw [List.take_append_drop];exact sY)
     exact this.2.2 c h y hy
   ·rcases List.mem_append.mp hc with hc | hc
    ·rcases mz hc with h | h
     ·have:=List.pairwise_append.mp (show fD (X.take k++X.drop k) by rw [List.take_append_drop];exact sX)
      exact this.2.2 x hx c h
     ·exact f1 x hx c (List.mem_of_mem_take h)
    ·exact f1 x hx c (List.mem_of_mem_drop hc)
  ·refine ((hz.append_right (Y.drop m)).append_left (X.take k)).trans ?_
   rw [List.append_assoc,List.take_append_drop,← List.append_assoc,List.take_append_drop]
 split
 ·refine wpS_bind (D6 (by exact hk) vX vY (by omega) (by omega) (by rw [xl];exact sx) (by rw [yl];exact sy) (ff _ (by simp)) (fun y hy x hx=>?_) fun z st' sm o=>fin z st' sm o)
  have:x=xs[xs.size-1]'(by omega):=by
   rw [List.getLast?_eq_getElem?,Array.length_toList,Array.getElem?_toList,Array.getElem?_eq_getElem (by omega)] at hx
   exact (Option.some.inj hx).symm
  rw [this]
  exact ll y hy
 ·exact wpS_bind (D5 (by exact hk) vX vY (by omega) (by omega) (by rw [xl];exact sx) (by rw [yl];exact sy) ff ll fun z st' sm o=>fin z st' sm o)
end
end Tim
namespace Tim
open PySem PyProof.Rows
def Dn (xs:Array Keyed) (lo hi:Nat):Prop:=∀ i j,lo≤i→i≤j→j<hi→K xs j≤K xs i
structure Fr (lo:Nat) (st st':SortSt):Prop where
 kind:kindOf st'=kindOf st
 failed:failedOf st'=failedOf st
 pend:pendingOf st'=pendingOf st
 perm:(arrOf st').Perm (arrOf st)
 low:∀ i,i<lo→(arrOf st')[i]?=(arrOf st)[i]?
theorem Fr.refl (lo:Nat) (st:SortSt):Fr lo st st:=⟨rfl,rfl,rfl,Array.Perm.refl _,fun _ _=>rfl⟩
theorem Fr.trans {lo:Nat} {a b c:SortSt} (h:Fr lo a b) (g:Fr lo b c):Fr lo a c :=
 ⟨g.kind.trans h.kind,g.failed.trans h.failed,g.pend.trans h.pend,g.perm.trans h.perm,fun i hi=>(g.low i hi).trans (h.low i hi)⟩
theorem Fr.size {lo:Nat} {st st':SortSt} (h:Fr lo st st'):(arrOf st').size=(arrOf st).size:=h.perm.size_eq
theorem Fr.mO {lo:Nat} {st st':SortSt} (h:Fr lo st st') (n:eG (arrOf st)):eG (arrOf st'):=fun p hp=>n p ((Array.perm_iff_toList_perm.mp h.perm).mem_iff.mp hp)
theorem Fr.BV {lo i j:Nat} {st:SortSt} (hi:lo≤i) (hj:j≤(arrOf st).size):Fr lo st (setArr st (mirror (arrOf st) i j ((j-i)/2))) :=
 ⟨rfl,rfl,rfl,mirror_perm _ _ _ _,fun k hk=>by
  show (mirror (arrOf st) i j ((j-i)/2))[k]?=_
  rw [getElem?_mirror_all hj,if_neg (by omega)]⟩
theorem qW {xs:Array Keyed} {i j:Nat} (hj:j≤xs.size) (e:∀ k,i≤k→k<j→K xs k=K xs (j-1)) (k:Nat):K (mirror xs i j ((j-i)/2)) k=K xs k:=by
 rw [K_mirror hj]
 split
 ·rw [e _ (by omega) (by omega),e k (by omega) (by omega)]
 ·rfl
theorem Up.next {xs:Array Keyed} {lo x:Nat} (h:Up xs lo (lo+x)) (hx:1≤x) (c:¬K xs (lo+x)<K xs (lo+x-1)):Up xs lo (lo+(x+1)):=by
 intro i j h1 h2 h3
 by_cases e:j<lo+x
 ·exact h i j h1 h2 e
 ·obtain rfl:j=lo+x:=by omega
  by_cases e':i=lo+x
  ·rw [e'];exact Int.le_refl _
  ·exact Int.le_trans (h i (lo+x-1) h1 (by omega) (by omega)) (Int.not_lt.mp c)
theorem Dn.next {xs:Array Keyed} {lo x:Nat} (h:Dn xs lo (lo+x)) (hx:1≤x) (c:K xs (lo+x)≤K xs (lo+x-1)):Dn xs lo (lo+(x+1)):=by
 intro i j h1 h2 h3
 by_cases e:j<lo+x
 ·exact h i j h1 h2 e
 ·obtain rfl:j=lo+x:=by omega
  by_cases e':i=lo+x
  ·rw [e'];exact Int.le_refl _
  ·exact Int.le_trans c (h i (lo+x-1) h1 (by omega) (by omega))
theorem Dn.BV {xs:Array Keyed} {lo hi:Nat} (d:Dn xs lo hi) (h:hi≤xs.size):Up (mirror xs lo hi ((hi-lo)/2)) lo hi:=fun i j a b c=>by
 rw [K_mirror h,K_mirror h,if_pos (by omega),if_pos (by omega)]
 exact d _ _ (by omega) (by omega) (by omega)
section
variable {prog:Program} {w:World} {A:Around} {E:Value→Shared→Prop} {s:Shared}
theorem l6 {st:SortSt} {i j:Nat} {Q:Option Bool→SortSt→Prop} (hk:kindOf st=oneType') (hn:eG (arrOf st)) (hi:i<(arrOf st).size) (hj:j<(arrOf st).size)
  (h1:K (arrOf st) i<K (arrOf st) j→Q (some true) st) (h2:¬K (arrOf st) i<K (arrOf st) j→Q (some false) st):wpS (model prog w) A E s (ltAt' i j) Q st:=by
 rw [ltAt'_eq]
 refine wpS_bind (wpS_get ?_)
 refine wpS_bind (el hi (wpS_bind (el hj (kB hk (hn.at hi) (hn.at hj) ?_))))
 rw [← iU hi,← iU hj]
 by_cases c:K (arrOf st) i<K (arrOf st) j
 ·rw [decide_eq_true c];exact h1 c
 ·rw [decide_eq_false c];exact h2 c
theorem asc {st:SortSt} {lo nrem a:Nat} {f:Nat→Option (Option Nat) × Nat→StateT SortSt Sem (ForInStep (Option (Option Nat) × Nat))} {Q:Option (Option Nat) × Nat→SortSt→Prop}
  (hf:∀ x n Q',1≤n→n<nrem→(K (arrOf st) (lo+n)<K (arrOf st) (lo+n-1)→Q' (ForInStep.done (none,n)) st)→(¬K (arrOf st) (lo+n)<K (arrOf st) (lo+n-1)→Q' (ForInStep.yield (none,n+1)) st)→wpS (model prog w) A E s (f x (none,n)) Q' st)
  (ha:1≤a) (han:a≤nrem) (up:Up (arrOf st) lo (lo+a))
  (q:∀ n,a≤n→n≤nrem→Up (arrOf st) lo (lo+n)→(n=nrem∨K (arrOf st) (lo+n)<K (arrOf st) (lo+n-1))→Q (none,n) st):wpS (model prog w) A E s (forIn [a:nrem] (none,a) f) Q st:=by
 refine wpS_forRange (I:=fun x c st'=>st'=st∧c=(none,x)∧Up (arrOf st) lo (lo+x)) ?step ?fin ⟨rfl,rfl,up⟩
 case fin =>
  rintro c st' ⟨rfl,rfl,u⟩
  rw [show max a nrem=nrem by omega] at u ⊢
  exact q nrem han (Nat.le_refl _) u (.inl rfl)
 case step =>
  rintro x c st' h1 h2 ⟨rfl,rfl,u⟩
  exact hf x x _ (by omega) h2 (fun c=>q x h1 (by omega) u (.inr c)) fun c=>⟨rfl,rfl,u.next (by omega) c⟩
theorem cnt {st:SortSt} {lo nrem:Nat} {Q:Option Nat→SortSt→Prop} (hk:kindOf st=oneType') (hn:eG (arrOf st)) (h1:1≤nrem) (hz:lo+nrem≤(arrOf st).size)
  (q:∀ m st',Fr lo st st'→1≤m→m≤nrem→Up (arrOf st') lo (lo+m)→Q (some m) st'):wpS (model prog w) A E s (countRun' lo nrem) Q st:=by
 unfold countRun'
 refine wpS_bind (asc (lo:=lo) ?_ (Nat.le_refl 1) h1 (fun i j a b c=>by rw [show i=j by omega];exact Int.le_refl _) fun n n1 n2 u o=>?_)
 ·intro x n Q' a b q1 q2
  dsimp only
  exact wpS_bind (l6 hk hn (by omega) (by omega) (fun c=>wpS_pure (q1 c)) fun c=>wpS_pure (q2 c))
 dsimp only
 by_cases e1:n=nrem
 ·rw [if_pos (by simpa using e1)]
  exact wpS_pure (q n st (Fr.refl _ _) n1 n2 u)
 rw [if_neg (by simpa using e1)]
 have lt:=o.resolve_left e1
 by_cases e2:n > 1
 case' pos =>
  rw [if_pos e2]
  refine wpS_bind (l6 hk hn (by omega) (by omega) (fun c=>wpS_pure (q n st (Fr.refl _ _) n1 n2 u)) fun c=>?_)
  dsimp only
  rw [if_neg (by simp)]
  have all:∀ k,lo≤k→k<lo+n→K (arrOf st) k=K (arrOf st) (lo+n-1):=fun k a b=>by
   have:=u lo k (Nat.le_refl _) a b
   have:=u k (lo+n-1) a (by omega) (by omega)
   omega
  refine wpS_bind (wpS_reverse ?_)
  have km:=qW (xs:=arrOf st) (i:=lo) (j:=lo+n) (by omega) all
  obtain⟨st1,hst1,fr,d⟩:∃ st1,setArr st (mirror (arrOf st) lo (lo+n) ((lo+n-lo)/2))=st1∧Fr lo st st1∧Dn (arrOf st1) lo (lo+(n+1)):=by
   refine⟨_,rfl,Fr.BV (Nat.le_refl _) (by omega),Dn.next (fun i j a b c=>?_) n1 ?_⟩
   ·show K (mirror _ _ _ _) j≤K (mirror _ _ _ _) i
    rw [km,km,all i a (by omega),all j (by omega) c];exact Int.le_refl _
   ·show K (mirror _ _ _ _) _≤K (mirror _ _ _ _) _
    rw [km,km];exact Int.le_of_lt lt
  rw [hst1]
 case' neg =>
  rw [if_neg e2]
  obtain rfl:n=1:=by omega
  obtain⟨fr,d⟩:Fr lo st st∧Dn (arrOf st) lo (lo+(1+1)):=by
   refine⟨Fr.refl _ _,Dn.next (fun i j a b c=>?_) (Nat.le_refl _) (Int.le_of_lt lt)⟩
   rw [show i=j by omega];exact Int.le_refl _
 all_goals
  refine wpS_bind (wpS_lift (wpAny_rule ⟨rfl,?_⟩))
  refine wpS_bind (wpS_mono (wpS_forRange (I:=fun x c st2=>∃ neq,c=(none,x,neq)∧Fr lo st st2∧Dn (arrOf st2) lo (lo+x)∧neq+1≤x∧(∀ i,lo+x-(neq+1)≤i→i<lo+x→K (arrOf st2) i=K (arrOf st2) (lo+x-1)))
   (Q:=fun c st2=>∃ x neq,c=(none,x,neq)∧Fr lo st st2∧Dn (arrOf st2) lo (lo+x)∧1≤x∧x≤nrem∧neq+1≤x∧(∀ i,lo+x-(neq+1)≤i→i<lo+x→K (arrOf st2) i=K (arrOf st2) (lo+x-1)))
   ?step ?fin ⟨0,rfl,fr,d,by omega,fun i a b=>by congr 1;omega⟩) ?post)
  case fin =>
   rintro c st2 ⟨neq,rfl,f2,d2,l2,e⟩
   rw [Nat.max_eq_right (by omega)] at d2 l2 e ⊢
   exact⟨_,neq,rfl,f2,d2,h1,Nat.le_refl _,l2,e⟩
  case step =>
   rintro x c st2 x1 x2 ⟨neq,rfl,f2,d2,l2,e⟩
   dsimp only
   have z2:=f2.size
   have k2:=f2.kind.trans hk
   refine wpS_bind (l6 k2 (f2.mO hn) (by omega) (by omega) (fun c=>?_) fun c=>?_)
   ·dsimp only
    rw [if_pos rfl]
    by_cases g:neq > 0
    ·rw [if_pos g]
     have km:=qW (xs:=arrOf st2) (i:=lo+x-(neq+1)) (j:=lo+x) (by omega) e
     refine wpS_bind (wpS_reverse (wpS_pure ⟨0,rfl,f2.trans (Fr.BV (by omega) (by omega)),Dn.next (fun i j a b c=>?_) (by omega) ?_,by omega,fun i a b=>by congr 1;omega⟩))
     ·show K (mirror _ _ _ _) j≤K (mirror _ _ _ _) i
      rw [km,km];exact d2 i j a b c
     ·show K (mirror _ _ _ _) _≤K (mirror _ _ _ _) _
      rw [km,km];exact Int.le_of_lt c
    ·rw [if_neg g]
     exact wpS_pure ⟨0,rfl,f2,d2.next (by omega) (Int.le_of_lt c),by omega,fun i a b=>by congr 1;omega⟩
   ·dsimp only
    rw [if_neg (by simp)]
    refine wpS_bind (l6 k2 (f2.mO hn) (by omega) (by omega) (fun c'=>?_) fun c'=>?_)
    ·exact wpS_pure ⟨x,neq,rfl,f2,d2,by omega,by omega,l2,e⟩
    ·have eq:K (arrOf st2) (lo+x)=K (arrOf st2) (lo+x-1):=by omega
     refine wpS_pure ⟨neq+1,rfl,f2,d2.next (by omega) (by omega),by omega,fun i a b=>?_⟩
     rw [show lo+(x+1)-1=lo+x by omega]
     by_cases g:i=lo+x
     ·rw [g]
     ·rw [eq];exact e i (by omega) (by omega)
  case post =>
   rintro c st2 ⟨x,neq,rfl,f2,d2,x1,x2,l2,e⟩
   dsimp only
   have z2:=f2.size
   by_cases g:neq > 0
   case' pos =>
    rw [if_pos g]
    have km:=qW (xs:=arrOf st2) (i:=lo+x-(neq+1)) (j:=lo+x) (by omega) e
    refine wpS_bind (wpS_reverse ?_)
    obtain⟨st3,hst3,f3,d3⟩:∃ st3,setArr st2 (mirror (arrOf st2) (lo+x-(neq+1)) (lo+x) ((lo+x-(lo+x-(neq+1)))/2))=st3∧Fr lo st st3∧Dn (arrOf st3) lo (lo+x):=by
     refine⟨_,rfl,f2.trans (Fr.BV (by omega) (by omega)),fun i j a b c=>?_⟩
     show K (mirror _ _ _ _) j≤K (mirror _ _ _ _) i
     rw [km,km];exact d2 i j a b c
    rw [hst3]
   case' neg =>
    rw [if_neg g]
    have f3:=f2
    have d3:=d2
   all_goals
    have z3:=f3.size
    refine wpS_bind (wpS_reverse ?_)
    have f4:=f3.trans (Fr.BV (i:=lo) (j:=lo+x) (Nat.le_refl _) (by omega))
    have u4:=d3.BV (by omega)
    have z4:=f4.size
    refine wpS_bind (asc (lo:=lo) ?_ x1 x2 u4 fun n n1 n2 u o=>?_)
    ·intro x n Q' a b q1 q2
     dsimp only
     exact wpS_bind (l6 (f4.kind.trans hk) (f4.mO hn) (by omega) (by omega) (fun c=>wpS_pure (q1 c)) fun c=>wpS_pure (q2 c))
    ·exact wpS_pure (q n _ f4 (by omega) n2 u)
theorem DT {lo k l:Nat} {xs:Array Keyed} (u:Up xs lo (lo+k)) (hk:lo+k<xs.size) (hl:l≤k) (h1:∀ i,i<l→K xs (lo+i)≤K xs (lo+k)) (h2:∀ i,l≤i→i<k→K xs (lo+k)<K xs (lo+i)) :
  Up (bubble xs (lo+k) (lo+k-(lo+l))) lo (lo+(k+1)):=by
 have h1':∀ i,lo≤i→i<lo+l→K xs i≤K xs (lo+k):=fun i a b=>by have:=h1 (i-lo) (by omega);rwa [show lo+(i-lo)=i by omega] at this
 have h2':∀ i,lo+l≤i→i<lo+k→K xs (lo+k)<K xs i:=fun i a b=>by have:=h2 (i-lo) (by omega) (by omega);rwa [show lo+(i-lo)=i by omega] at this
 intro i j a b c
 rw [K_bubble hk (by omega),K_bubble hk (by omega)]
 repeat' split
 all_goals first
  | (exfalso;omega)
  | exact Int.le_refl _
  | exact h1' _ (by omega) (by omega)
  | exact Int.le_of_lt (h2' _ (by omega) (by omega))
  | exact u _ _ (by omega) (by omega) (by omega)
theorem bin {st:SortSt} {lo n ok:Nat} {Q:Bool→SortSt→Prop} (hk:kindOf st=oneType') (hn:eG (arrOf st)) (hz:lo+n≤(arrOf st).size) (h1:1≤ok) (ho:ok≤n) (u:Up (arrOf st) lo (lo+ok))
  (q:∀ st',Fr lo st st'→Up (arrOf st') lo (lo+n)→Q true st'):wpS (model prog w) A E s (binarySort' lo n ok) Q st:=by
 unfold binarySort'
 refine wpS_bind (wpS_mono (wpS_forRange (I:=fun k c st'=>c=(none,())∧Fr lo st st'∧Up (arrOf st') lo (lo+k))
  (Q:=fun c st'=>c=(none,())∧Fr lo st st'∧Up (arrOf st') lo (lo+n)) ?step ?fin ⟨rfl,Fr.refl _ _,by rw [Nat.max_eq_left h1];exact u⟩) ?post)
 case post =>
  rintro c st' ⟨rfl,f,u'⟩
  exact wpS_pure (q st' f u')
 case fin =>
  rintro c st' ⟨rfl,f,u'⟩
  rw [show max (max ok 1) n=n by omega] at u'
  exact⟨rfl,f,u'⟩
 case step =>
  rintro k c st' k1 k2 ⟨rfl,f,u'⟩
  have z:=f.size
  dsimp only
  refine wpS_bind (wpS_mono (wpS_forRange (I:=fun x c st2=>st2=st'∧∃ l r,c=(none,l,r)∧l≤r∧r≤k∧r-l≤k-x∧(∀ i,i<l→K (arrOf st') (lo+i)≤K (arrOf st') (lo+k))∧(∀ i,r≤i→i<k→K (arrOf st') (lo+k)<K (arrOf st') (lo+i)))
   (Q:=fun c st2=>st2=st'∧∃ l,c=(none,l,l)∧l≤k∧(∀ i,i<l→K (arrOf st') (lo+i)≤K (arrOf st') (lo+k))∧(∀ i,l≤i→i<k→K (arrOf st') (lo+k)<K (arrOf st') (lo+i)))
   ?istep ?ifin ⟨rfl,0,k,rfl,by omega,by omega,by omega,fun i hi=>by omega,fun i a b=>by omega⟩) ?ipost)
  case ifin =>
   rintro c st2 ⟨rfl,l,r,rfl,a,b,d,e,g⟩
   obtain rfl:l=r:=by omega
   exact⟨rfl,l,rfl,b,e,g⟩
  case istep =>
   rintro x c st2 _ hx ⟨rfl,l,r,rfl,a,b,d,e,g⟩
   dsimp only
   by_cases o:l≥r
   ·rw [if_pos o]
    obtain rfl:l=r:=by omega
    exact wpS_pure ⟨rfl,l,rfl,b,e,g⟩
   ·rw [if_neg o]
    refine wpS_bind (l6 (f.kind.trans hk) (f.mO hn) (by omega) (by omega) (fun c=>?_) fun c=>?_)
    ·exact wpS_pure ⟨rfl,_,_,rfl,by omega,by omega,by omega,e,fun i h1 h2=>Int.lt_of_lt_of_le c (u' _ _ (by omega) (by omega) (by omega))⟩
    ·exact wpS_pure ⟨rfl,_,_,rfl,by omega,by omega,by omega,fun i h1=>Int.le_trans (u' _ _ (by omega) (by omega) (by omega)) (Int.not_lt.mp c),g⟩
  case ipost =>
   rintro c st2 ⟨rfl,l,rfl,a,b,d⟩
   dsimp only
   refine wpS_bind (wpS_modify (wpS_pure ⟨rfl,f.trans ⟨rfl,rfl,rfl,bubble_perm _ _ _,fun i hi=>?_⟩,DT u' (show lo+k<(arrOf st2).size by omega) a b d⟩))
   have:=getElem?_bubble (xs:=arrOf st2) (src:=lo+k) (by omega) (lo+k-(lo+l)) (by omega) i
   rw [if_neg (by omega),if_neg (by omega)] at this
   exact this
end
end Tim
namespace Tim
open PySem PyProof.Rows
def Pd:Nat→List (Nat × Nat × Nat)→List (List Keyed)→Prop
 | _,[],[]=>True
 | o,x::p,r::rs=>x.1=o∧x.2.1=r.length∧0<r.length∧fD r∧Pd (o+r.length) p rs
 | _,_,_=>False
theorem Pd.len:∀{o:Nat} {p:List (Nat × Nat × Nat)} {rs:List (List Keyed)},Pd o p rs→p.length=rs.length∧p.length≤rs.flatten.length
 | _,[],[],_=>⟨rfl,Nat.zero_le _⟩
 | _,x::p,r::rs,h=>by
  have:=Pd.len h.2.2.2.2
  have h2:=h.2.2.1
  simp only [List.length_cons,List.flatten_cons,List.length_append]
  omega
theorem Pd.push:∀{o:Nat} {p:List (Nat × Nat × Nat)} {rs:List (List Keyed)} {r:List Keyed} {z:Nat},Pd o p rs→0<r.length→fD r→Pd o (p++[(o+rs.flatten.length,r.length,z)]) (rs++[r])
 | o,[],[],r,z,h,n,s=>⟨rfl,rfl,n,s,trivial⟩
 | o,x::p,r'::rs,r,z,h,n,s=>by
  have:=Pd.push (z:=z) h.2.2.2.2 n s
  rw [Nat.add_assoc] at this
  refine⟨h.1,h.2.1,h.2.2.1,h.2.2.2.1,?_⟩
  rw [List.flatten_cons,List.length_append]
  exact this
theorem Pd.alike:∀{o:Nat} {p p':List (Nat × Nat × Nat)} {rs:List (List Keyed)},Pd o p rs→p'.map (fun x=>(x.1,x.2.1))=p.map (fun x=>(x.1,x.2.1))→Pd o p' rs
 | _,[],[],[],_,_=>trivial
 | _,[],_::_,[],_,e=>by simp at e
 | _,_::_,[],_::_,_,e=>by simp at e
 | o,x::p,x'::p',r::rs,h,e=>by
  simp only [List.map_cons,List.cons.injEq,Prod.mk.injEq] at e
  exact⟨e.1.1.trans h.1,e.1.2.trans h.2.1,h.2.2.1,h.2.2.2.1,Pd.alike h.2.2.2.2 e.2⟩
theorem Pd.two:∀{i o:Nat} {p:List (Nat × Nat × Nat)} {rs:List (List Keyed)},Pd o p rs→i+1<p.length→∃ p1 pw pw' p2 rs1 X Y rs2,p1.length=i∧rs=rs1++X::Y::rs2 ∧
   p=p1++(o+rs1.flatten.length,X.length,pw)::(o+rs1.flatten.length+X.length,Y.length,pw')::p2∧fD X∧fD Y∧0<X.length∧0<Y.length ∧
   ∀ C z,fD C→C.length=X.length+Y.length→Pd o (p1++(o+rs1.flatten.length,X.length+Y.length,z)::p2) (rs1++C::rs2)
 | 0,o,x::y::p,X::Y::rs,h,_=>by
  obtain⟨x1,x2,x3⟩:=x
  obtain⟨y1,y2,y3⟩:=y
  obtain⟨a,b,c,d,e,f,g,h,k⟩:=h
  simp only at a b e f
  subst a b e f
  exact⟨[],x3,y3,p,[],X,Y,rs,rfl,rfl,rfl,d,h,c,g,fun C z s l=>⟨rfl,l.symm,by omega,s,by rw [l,← Nat.add_assoc];exact k⟩⟩
 | i+1,o,x::p,X::rs,h,l=>by
  obtain⟨p1,pw,pw',p2,rs1,X',Y',rs2,e1,e2,e3,s1,s2,n1,n2,f⟩:=Pd.two (i:=i) h.2.2.2.2 (by simp at l ⊢;omega)
  refine⟨x::p1,pw,pw',p2,X::rs1,X',Y',rs2,by simp [e1],by rw [e2];rfl,?_,s1,s2,n1,n2,fun C z s l=>⟨h.1,h.2.1,h.2.2.1,h.2.2.2.1,?_⟩⟩
  ·rw [e3];simp [Nat.add_assoc]
  ·have:=f C z s l
   simpa [Nat.add_assoc] using this
 | 0,_,[_],[_],_,l=>by simp at l
 | 0,_,_::_::_,[_],h,_=>h.2.2.2.2.elim
structure Ws (a₀:Array Keyed) (T:List Keyed) (lo:Nat) (st:SortSt):Prop where
 kind:kindOf st=oneType'
 failed:failedOf st=none
 perm:(arrOf st).Perm a₀
 ex:∃ rs,Pd 0 (pendingOf st).toList rs∧rs.flatten.length=lo∧(arrOf st).toList=rs.flatten++T
theorem Ws.Cs {a₀:Array Keyed} {T:List Keyed} {lo:Nat} {st:SortSt} (h:Ws a₀ T lo st):(pendingOf st).size≤lo:=by
 obtain⟨rs,h1,h2,h3⟩:=h.ex
 have:=h1.len.2
 rw [Array.length_toList] at this
 omega
theorem Ws.mO {a₀:Array Keyed} {T:List Keyed} {lo:Nat} {st:SortSt} (h:Ws a₀ T lo st) (n:eG a₀):eG (arrOf st):=fun p hp=>n p ((Array.perm_iff_toList_perm.mp h.perm).mem_iff.mp hp)
theorem yS {f:Nat × Nat × Nat→Nat × Nat × Nat} (hf:∀ x,((f x).1,(f x).2.1)=(x.1,x.2.1)) (p:Array (Nat × Nat × Nat)) (i:Nat):(p.modify i f).toList.map (fun x=>(x.1,x.2.1))=p.toList.map (fun x=>(x.1,x.2.1)):=by
 refine List.ext_getElem? fun j=>?_
 rw [List.getElem?_map,List.getElem?_map,Array.getElem?_toList,Array.getElem?_toList,Array.getElem?_modify]
 split
 ·cases p[j]? with
  | none=>rfl
  | some x=>simp only [Option.map_some];rw [hf]
 ·rfl
theorem Cf (c:Prop) [Decidable c] (p:Nat) (h:¬p≤1):(if c then p-2-1 else p-2)+1<p:=by split<;>omega
section
variable {prog:Program} {w:World} {A:Around} {E:Value→Shared→Prop} {s:Shared} {a₀:Array Keyed} {T:List Keyed} {lo:Nat}
theorem Cn {st:SortSt} {i:Nat} {Q:Bool→SortSt→Prop} (hn:eG a₀) (h:Ws a₀ T lo st) (hi:i+1<(pendingOf st).size) (q:∀ st',Ws a₀ T lo st'→(pendingOf st').size+1=(pendingOf st).size→Q true st') :
  wpS (model prog w) A E s (mergeAt' i) Q st:=by
 obtain⟨rs,h1,h2,h3⟩:=h.ex
 obtain⟨p1,pw,pw',p2,rs1,X,Y,rs2,e1,e2,e3,sX,sY,nX,nY,f⟩:=h1.two (i:=i) (by rw [Array.length_toList];exact hi)
 simp only [Nat.zero_add] at e3 f
 have ha:(arrOf st).toList=rs1.flatten++(X++(Y++(rs2.flatten++T))):=by rw [h3,e2];simp
 refine D4 h.kind (h.mO hn) h.failed e3 e1 ha sX sY nX nY fun st' C k fl pd ar sC pC=>q st' ⟨k,fl,?_,rs1++C::rs2,?_,?_,?_⟩ ?_
 ·refine Array.perm_iff_toList_perm.mpr (List.Perm.trans ?_ (Array.perm_iff_toList_perm.mp h.perm))
  rw [ar,ha]
  refine List.Perm.append_left _ ?_
  rw [← List.append_assoc X]
  exact pC.append_right _
 ·rw [pd];exact f C pw sC (by rw [pC.length_eq];simp)
 ·rw [← h2,e2]
  have:=pC.length_eq
  simp only [List.flatten_append,List.flatten_cons,List.length_append] at this ⊢
  omega
 ·rw [ar];simp
 ·rw [← Array.length_toList,← Array.length_toList,pd,e3];simp;omega
theorem runs {st:SortSt} {Q:Unit→SortSt→Prop} (hn:eG a₀) (hk:kindOf st=oneType') (hf:failedOf st=none) (hp:pendingOf st=#[]) (ha:arrOf st=a₀) (h2:2≤a₀.size)
  (q:∀ st',(arrOf st').Perm a₀→failedOf st'=none→fD (arrOf st').toList→Q () st'):wpS (model prog w) A E s sortRuns' Q st:=by
 unfold sortRuns'
 refine wpS_bind (wpS_get ?_)
 have hz:(arrOf st).size=a₀.size:=by rw [ha]
 dsimp only
 simp only [hz]
 generalize (sortPriv% PySem.Builtin.minRun) a₀.size a₀.size 0=mr
 refine wpS_bind (wpS_mono (wpS_forRange (I:=fun x c st'=>∃ lo T,c=(none,lo)∧Ws a₀ T lo st'∧x≤lo∧lo+T.length=a₀.size) (Q:=fun c st'=>c=(none,a₀.size)∧Ws a₀ [] a₀.size st')
  ?step ?fin ⟨0,a₀.toList,rfl,⟨hk,hf,by rw [ha],[],by rw [hp];trivial,rfl,by rw [ha];simp⟩,Nat.le_refl _,by simp⟩) ?post)
 case fin =>
  rintro c st' ⟨lo,T,rfl,W,x1,x2⟩
  rw [Nat.max_eq_right (Nat.zero_le _)] at x1
  obtain rfl:T=[]:=List.length_eq_zero_iff.mp (by omega)
  obtain rfl:lo=a₀.size:=by simpa using x2
  exact⟨rfl,W⟩
 case step =>
  rintro x c st1 _ hx ⟨lo,T,rfl,W,x1,x2⟩
  dsimp only
  by_cases e0:lo≥a₀.size
  ·rw [if_pos e0]
   obtain rfl:T=[]:=List.length_eq_zero_iff.mp (by omega)
   obtain rfl:lo=a₀.size:=by simpa using x2
   exact wpS_pure ⟨rfl,W⟩
  rw [if_neg e0]
  have z1:(arrOf st1).size=a₀.size:=W.perm.size_eq
  refine wpS_bind (cnt W.kind (W.mO hn) (by omega) (show lo+(a₀.size-lo)≤(arrOf st1).size by omega) fun m st2 fr m1 m2 u=>?_)
  dsimp only
  have back:∀(n:Nat) (st3:SortSt),Fr lo st1 st3→1≤n→n≤a₀.size-lo→Up (arrOf st3) lo (lo+n)→∃ r T',Ws a₀ (r++T') lo st3∧r.length=n∧fD r∧lo+n+T'.length=a₀.size:=by
   intro n st3 f n1 n2 u3
   obtain⟨rs,p1,p2,p3⟩:=W.ex
   have z3:=f.size
   have tk:(arrOf st3).toList.take lo=rs.flatten:=by
    have:(arrOf st3).toList.take lo=(arrOf st1).toList.take lo:=by
     refine List.ext_getElem? fun j=>?_
     by_cases c:j<lo
     ·rw [List.getElem?_take_of_lt c,List.getElem?_take_of_lt c,Array.getElem?_toList,Array.getElem?_toList]
      exact f.low j c
     ·rw [List.getElem?_eq_none (by rw [List.length_take];omega),List.getElem?_eq_none (by rw [List.length_take];omega)]
    rw [this,p3,← p2,List.take_left]
   refine⟨((arrOf st3).toList.drop lo).take n,((arrOf st3).toList.drop lo).drop n,⟨f.kind.trans W.kind,f.failed.trans W.failed,f.perm.trans W.perm,rs,?_,p2,?_⟩,?_,uV u3,?_⟩
   ·rw [f.pend];exact p1
   ·rw [List.take_append_drop,← tk,List.take_append_drop]
   ·simp;omega
   ·simp;omega
  have last:∀(n:Nat) (r T':List Keyed) (st3 st4:SortSt),Ws a₀ (r++T') lo st3→r.length=n→fD r→1≤n→lo+n+T'.length=a₀.size→kindOf st4=kindOf st3→failedOf st4=failedOf st3→arrOf st4=arrOf st3→pendingOf st4=(pendingOf st3).push (lo,n,0)→Ws a₀ T' (lo+n) st4:=by
   intro n r T' st3 st4 W3 l3 s3 n1 _ a b c d
   obtain⟨rs,p1,p2,p3⟩:=W3.ex
   refine⟨a.trans W3.kind,b.trans W3.failed,by rw [c];exact W3.perm,rs++[r],?_,?_,?_⟩
   ·rw [d,Array.toList_push]
    have:=p1.push (z:=0) (r:=r) (by omega) s3
    rw [Nat.zero_add,p2,l3] at this
    exact this
   ·simp [p2,l3]
   ·rw [c,p3];simp
  have z2:=fr.size
  by_cases e1:m<mr
  case' pos =>
   rw [if_pos e1]
   refine wpS_bind (wpS_lift (wpAny_rule ⟨rfl,?_⟩))
   refine wpS_bind (bin (n:=min (a₀.size-lo) (mr)) (fr.kind.trans W.kind) (fr.mO (W.mO hn)) (show lo+min (a₀.size-lo) (mr)≤(arrOf st2).size by omega) m1 (by omega) u fun st3 fr3 u3=>?_)
   rw [if_neg (by simp)]
   obtain⟨r,T',W3,l3,s3,t3⟩:=back _ st3 (fr.trans fr3) (by omega) (by omega) u3
   have n1:1≤min (a₀.size-lo) (mr):=by omega
  case' neg =>
   rw [if_neg e1]
   obtain⟨r,T',W3,l3,s3,t3⟩:=back m st2 fr m1 m2 u
   have n1:=m1
  all_goals
   refine wpS_bind (wpS_get ?_)
   split
   ·refine wpS_bind (wpS_mono (wpS_forRange (I:=fun _ c st'=>c=(none,())∧Ws a₀ (r++T') lo st') (Q:=fun c st'=>c=(none,())∧Ws a₀ (r++T') lo st') ?step3 (fun _ _ h=>h) ⟨rfl,W3⟩) ?post3)
    case step3 =>
     rintro y c st' _ hy ⟨rfl,W'⟩
     refine wpS_bind (wpS_get ?_)
     by_cases g:(pendingOf st').size > 1
     ·rw [if_pos g,Array.getElem?_eq_getElem (show (pendingOf st').size-2<(pendingOf st').size by omega)]
      dsimp only
      split
      ·exact wpS_pure ⟨rfl,W'⟩
      ·refine wpS_bind (Cn hn W' (show (pendingOf st').size-2+1<(pendingOf st').size by omega) fun st'' W'' _=>?_)
       exact wpS_pure ⟨rfl,W''⟩
     ·rw [if_neg g]
      exact wpS_pure ⟨rfl,W'⟩
    case post3 =>
     rintro c st' ⟨rfl,W'⟩
     have W4:∀ pw,Ws a₀ (r++T') lo (setPending st' ((pendingOf st').modify ((pendingOf st').size-1) fun x=>(x.1,x.2.1,pw))):=fun pw=>by
      obtain⟨rs,p1,p2,p3⟩:=W'.ex
      exact⟨W'.kind,W'.failed,W'.perm,rs,p1.alike (yS (f:=fun x=>(x.1,x.2.1,pw)) (fun _=>rfl) _ _),p2,p3⟩
     refine wpS_bind (wpS_modify ?_)
     refine wpS_bind (wpS_modify ?_)
     exact wpS_pure ⟨_,T',rfl,last _ r T' _ _ (W4 _) l3 s3 n1 t3 rfl rfl rfl rfl,by omega,t3⟩
   ·exact wpS_bind (wpS_modify (wpS_pure ⟨_,T',rfl,last _ r T' _ _ W3 l3 s3 n1 t3 rfl rfl rfl rfl,by omega,t3⟩))
 case post =>
  rintro c st1 ⟨rfl,W⟩
  dsimp only
  refine wpS_bind (wpS_mono (wpS_forRange (I:=fun x c st'=>c=(none,())∧Ws a₀ [] a₀.size st'∧(pendingOf st').size+x≤a₀.size+1) (Q:=fun c st'=>c=(none,())∧Ws a₀ [] a₀.size st'∧(pendingOf st').size≤1)
   ?step2 ?fin2 ⟨rfl,W,by have:=W.Cs;omega⟩) ?post2)
  case fin2 =>
   rintro c st' ⟨rfl,W',h⟩
   rw [Nat.max_eq_right (Nat.zero_le _)] at h
   exact⟨rfl,W',by omega⟩
  case step2 =>
   rintro x c st' _ hx ⟨rfl,W',h⟩
   refine wpS_bind (wpS_get ?_)
   by_cases e:(pendingOf st').size≤1
   ·rw [if_pos e]
    exact wpS_pure ⟨rfl,W',e⟩
   ·rw [if_neg e]
    have fin:∀ i,i+1<(pendingOf st').size→wpS (model prog w) A E s (mergeAt' i) (fun r st''=>r=true∧Ws a₀ [] a₀.size st''∧(pendingOf st'').size+(x+1)≤a₀.size+1) st':=fun i hi =>
     Cn hn W' hi fun st'' W'' h'=>⟨rfl,W'',by omega⟩
    refine wpS_bind (wpS_mono (fin _ ?_) ?_)
    ·exact Cf _ _ e
    ·rintro r st'' ⟨rfl,W'',h'⟩
     exact wpS_pure ⟨rfl,W'',h'⟩
  case post2 =>
   rintro c st' ⟨rfl,W',h⟩
   refine wpS_pure (q st' W'.perm W'.failed ?_)
   obtain⟨rs,p1,p2,p3⟩:=W'.ex
   have l:=p1.len.1
   rw [Array.length_toList] at l
   rw [p3,List.append_nil]
   match rs,p1,l,p2 with
   | [],_,_,p2=>simp at p2;omega
   | [r],p1,_,_ =>
    match hpe:(pendingOf st').toList,p1 with
    | [x],p1=>simpa using p1.2.2.2.1
   | _::_::_,_,l,_=>simp at l;omega
end
end Tim
namespace Tim
open PySem PyProof.Rows
theorem qF {vs:List Value} {ns:List Int} (hI:IntsAre vs ns):eG (pairsOf vs):=hI.intKeys
theorem zO {xs:Array Keyed} {k:Nat} (hk:k=xs.size) (h:fD xs.toList):SortedTo xs k:=by
 subst hk
 have:=gw (xs:=xs) (a:=0) (n:=xs.size) (by omega) (by rw [List.drop_zero,List.take_of_length_le (by simp)];exact h)
 exact fun i j h1 h2=>this i j (Nat.zero_le _) h1 (by omega)
section
variable {prog:Program} {w:World} {A:Around} {E:Value→Shared→Prop} {s:Shared}
theorem zH {a:Addr} {vs:List Value} {ns:List Int} {n:Nat} {P:Fin→Shared→Prop} (ho:s.heap.get? a=some (seqObj "list" vs.toArray n)) (hI:IntsAre vs ns) (hl:vs.length≤sizeLine)
  (h:∀(out:Array Value) (ns':List Int),IntsAre out.toList ns'→ns'.Perm ns→ns'.Pairwise (·≤·)→P (.done (.ret .none)) { s with heap:=sortedHeap s.heap a vs out }) :
  wpAny (model prog w) A (Builtin.«list.sort» ⟨[.ref a],[]⟩) P E s:=by
 by_cases yo:vs.length<64
 ·exact list_sort_tree ho hI yo h
 have sz:¬vs.toArray.size<2:=by rw [List.size_toArray];omega
 have lt:=Heap.lt_size ho
 rw [list_sort_plain]
 refine wpAny_bind (listItems_at ho rfl (wpAny_bind (listUpdate_at ho rfl ?_ (by simpa using hl) (by simp))))
 obtain⟨c,h1⟩:∃ c,(s.heap.update a (Obj.mapSeq fun _=>#[])).get? a=some (seqObj "list" #[] c):=⟨_,get?_update_seq ho _⟩
 refine wpAny_bind (seqEpoch_at h1 rfl ?_)
 refine wpAny_bind (wpAny_newTuple ?_ (by simpa using hl))
 refine wpAny_bind (wpAny_newList ?_ (by simp))
 refine wpAny_holding ?_
 have h2:(((s.heap.update a (Obj.mapSeq fun _=>#[])).push (seqObj "tuple" vs.toArray 0)).push (seqObj "list" #[] 0)).get? a=some (seqObj "list" #[] c):=by
  refine Eq.trans (Heap.get?_push_ne _ _ _ ?_) (Eq.trans (Heap.get?_push_ne _ _ _ ?_) h1)
  ·rw [size_push',Heap.size_update];exact Nat.ne_of_lt (Nat.lt_succ_of_lt lt)
  ·rw [Heap.size_update];exact Nat.ne_of_lt lt
 dsimp only
 rw [if_neg sz,if_neg sz]
 obtain⟨u,v,r,rfl⟩:∃ u v r,vs=u::v::r:=by
  match vs,yo with
  | u::v::r,_=>exact⟨u,v,r,rfl⟩
  | [_],yo=>simp at yo
  | [],yo=>simp at yo
 rw [keyKind_ints hI]
 refine wpAny_bind (wpAny_pure ?_)
 have run:=runs (prog:=prog) (w:=w) (A:=A) (E:=E) (s:={ s with heap:=((s.heap.update a (Obj.mapSeq fun _=>#[])).push (seqObj "tuple" (u::v::r).toArray 0)).push (seqObj "list" #[] 0) })
  (a₀:=pairsOf (u::v::r)) (st:=SortSt.mk' oneType' (pairsOf (u::v::r)) #[] 7 none)
  (Q:=fun _ t=>(arrOf t).Perm (pairsOf (u::v::r))∧failedOf t=none∧fD (arrOf t).toList) (qF hI) rfl rfl rfl rfl (by rw [pairsOf_size];simp) fun t p f q=>⟨p,f,q⟩
 refine wpAny_bind (wpAny_mono run ?_ fun _ _ e=>e)
 rintro⟨_,t⟩ s' ⟨rfl,p,f,q⟩
 obtain⟨ns',i1,i2,i3⟩:=sorted_out hI p (zO p.size_eq.symm q)
 refine wpAny_bind (seqEpoch_at h2 rfl ?_)
 refine wpAny_bind (listUpdate_at h2 rfl ?_ (by simp) ?_)
 ·dsimp only
  rw [f]
  simp only [bne_self_eq_false,Bool.false_eq_true,if_false]
  exact wpAny_pure (h _ ns' i1 i2 i3)
 ·rw [Array.size_map,p.size_eq,pairsOf_size]
  omega
theorem uU {l:Addr} {vs:List Value} {ns:List Int} {Q:Value→Shared→Prop} (hl:s.heap.IsList l vs.toArray) (hI:IntsAre vs ns) (hz:vs.length≤sizeLine)
  (h:∀(out:Array Value) (ns':List Int),IntsAre out.toList ns'→ns'.Perm ns→ns'.Pairwise (·≤·)→Q (.ref (s.heap.objs.size+1)) { s with heap:=sortedAll s.heap vs out }) :
  wpAny (model prog w) A (call (.builtin "sorted") [.ref l]) Q E s:=by
 have z1:((s.heap.push (seqObj "list" #[] 0)).update s.heap.objs.size (Obj.mapSeq (·++vs.toArray))).objs.size=s.heap.objs.size+1:=(Heap.size_update ..).trans (size_push' ..)
 refine Calls.call_function_entry kind_sorted plain_sorted entry_sorted (args_sorted1 _) ?_
 refine wpAny_bind (m:=checkCount "sorted" 1 1 _) (wpAny_pure (wpAny_bind (collect_list hl ?_ hz)))
 refine wpAny_bind (wpAny_newList ?_ hz)
 have z2:=Heap.get?_push_size ((s.heap.push (seqObj "list" #[] 0)).update s.heap.objs.size (Obj.mapSeq (·++vs.toArray))) (o:=seqObj "list" vs.toArray 0) rfl
 rw [z1] at z2
 show wpAny _ _ _ _ _ { s with heap:=((s.heap.push (seqObj "list" #[] 0)).update _ _).push (seqObj "list" vs.toArray 0) }
 simp only [z1]
 refine wpAny_bind (wpAny_holding (wpAny_call_entry slot_list_sort ⟨_,z2,rfl⟩ entry_list_sort (zH z2 hI hz fun out ns' a b c=>⟨_,rfl,wpAny_pure ⟨_,rfl,h out ns' a b c⟩⟩) (args_list_sort _)))
end
end Tim
namespace L2
open PySem PySem.Spec PyProof.Rows
theorem gR:∀{us:List Value} {ns:List Int},IntsAre us ns→Vals (ns.map V.int) us
 | _,_,.nil=>.nil
 | _,_,.cons n t h=>.cons ⟨t,rfl⟩ (gR h)
def xr (K:PySem.W.Frag):List V→Hp→VK→Prop:=fun xs H Q=>∃(a:Addr) (ns:List Int),xs=[.ref a]∧aZ K H a (ns.map V.int)∧∀(p:Addr) (ns':List Int),ns'.Perm ns→ns'.Pairwise (·≤·)→H p=none→Q (.ref p) (upd H p (.lst (ns'.map V.int)))
theorem mQ {X:Cx}:cZ X (.builtin "sorted") (xr X.K):=by
 intro pins s σ H xs us Q I r h
 obtain⟨a,ns,rfl,hq,q⟩:=h
 obtain⟨u,rfl,ru⟩:=vals1 r
 cases ru
 obtain⟨its,rv,p,hz⟩:=I.list hq
 have il:=intsAre_of rv
 have zl:its.length=(ns.map V.int).length:=rv.length.symm
 replace hz:its.length≤sizeLine:=by rw [zl];exact hz
 refine Tim.uU p.isList il hz fun out ns' ho hp hs=>?_
 obtain⟨e,he⟩:=sortedAll_at s.heap its out
 have I1:Inv X pins σ H { s with heap:=sortedAll s.heap its out }:=I.kept (t':=s.toks) fun b o x=>sortedAll_old x
 have fT:H (s.heap.objs.size+1)=none:=I.hok.fresh (Nat.le_succ _)
 have lo:ns'.length=its.length:=by have:=rv.length;rw [List.length_map] at this;rw [hp.length_eq];exact this
 refine⟨.ref (s.heap.objs.size+1),upd H (s.heap.objs.size+1) (.lst (ns'.map V.int)),?_,rfl,q _ ns' hp hs fT⟩
 exact I1.adopt (T:=s.heap.objs.size+1) (o:=.lst (ns'.map V.int)) (I.lB (Nat.le_succ _) fT) ⟨by rw [List.length_map,lo];exact hz,out.toList,e,gR ho,by rw [he]⟩
end L2
set_option maxHeartbeats 8000000
namespace K
open PySem PySem.Spec PyProof.Rows L2
def top (i:Nat):Stmt:=PySem.Challenge.pw_rootprime_k51_roots_of_great_primes.main.body.getD i (.Pass ⟨0,0,0,0⟩)
theorem cI {us:List Value} (h:us.length=1):∃ a,us=[a]:=match us,h with | [a],_=>⟨a,rfl⟩
theorem cL {us:List Value} (h:us.length=2):∃ a b,us=[a,b]:=match us,h with | [a,b],_=>⟨a,b,rfl⟩
theorem dQ {us:List Value} (h:us.length=3):∃ a b c,us=[a,b,c]:=match us,h with | [a,b,c],_=>⟨a,b,c,rfl⟩
theorem sk {us:List Value} (h:us.length=4):∃ a b c d,us=[a,b,c,d]:=match us,h with | [a,b,c,d],_=>⟨a,b,c,d,rfl⟩
theorem v8 {us:List Value} (h:us.length=5):∃ a b c d e,us=[a,b,c,d,e]:=match us,h with | [a,b,c,d,e],_=>⟨a,b,c,d,e,rfl⟩
end K
local macro_rules | `(tactic| k_data) => `(tactic| ((try dsimp only [L2.bz, L2.BH, L2.x4, L2.qr, L2.uY, L2.CP, L2.uZ, L2.tC, L2.BX, L2.rI, L2.xk, L2.rU, L2.DC, L2.x6, L2.uX, L2.cQ, L2.h7, L2.Ao, L2.BJ, L2.BF, L2.Dz, L2.zJ, L2.xY, L2.BB, L2.DA, L2.BG, L2.xT, L2.CG, L2.xZ, L2.tB, L2.BC, L2.xW, L2.ip, L2.ub, L2.mG, L2.tI, L2.xX, L2.vW, L2.Aa, L2.Ab, L2.vV, L2.AR, L2.DB, L2.BI, L2.x5, L2.nR, L2.tK, L2.Dq, L2.Dr, L2.Dx, L2.CC, L2.DN, L2.Ce, L2.xU, L2.xC, L2.xV, L2.lh, L2.vT, L2.vU, L2.AS, L2.vZ, L2.rH, L2.zL, L2.zK, L2.DO, L2.CH, L2.Ar, L2.vP, L2.oV, L2.mH, L2.tJ, L2.BE, L2.Bw, L2.jT, L2.BD, L2.nQ, L2.rG, L2.rF, L2.rE, List.getElem?_cons_zero, List.getElem?_cons_succ, List.set_cons_zero, List.set_cons_succ, List.nil_append, List.cons_append, L2.BY, L2.DK, L2.zW]); (try simp only [Option.some.injEq, exists_eq_left', exists_and_left, List.cons.injEq, L2.V.int.injEq, L2.V.bl.injEq, and_true, true_and, and_assoc, decide_eq_true_eq, List.append_nil, Int.reduceToNat, Int.reducePow, Int.reduceLT, Int.reduceLE, Int.reduceNeg, Int.zero_add, Nat.reducePow, Nat.reduceLT, Int.reduceAdd, Int.reduceSub, Int.reduceMul, L2.V.ref.injEq, L2.bK, L2.qw, exists_eq_left, exists_eq', exists_eq, exists_const, L2.nG, L2.sP, L2.sR, L2.sS, L2.sU, L2.sQ, L2.sV, reduceIte, reduceCtorEq, Bool.not_eq_true', decide_eq_false_iff_not, Int.reduceAbs, Bool.not_true, Bool.not_false, if_true, Bool.false_eq_true, if_false]); (try dsimp only [L2.bz, L2.BH, L2.x4, L2.qr, L2.uY, L2.CP, L2.uZ, L2.tC, L2.BX, L2.rI, L2.xk, L2.rU, L2.DC, L2.x6, L2.uX, L2.cQ, L2.h7, L2.Ao, L2.BJ, L2.BF, L2.Dz, L2.zJ, L2.xY, L2.BB, L2.DA, L2.BG, L2.xT, L2.CG, L2.xZ, L2.tB, L2.BC, L2.xW, L2.ip, L2.ub, L2.mG, L2.tI, L2.xX, L2.vW, L2.Aa, L2.Ab, L2.vV, L2.AR, L2.DB, L2.BI, L2.x5, L2.nR, L2.tK, L2.Dq, L2.Dr, L2.Dx, L2.CC, L2.DN, L2.Ce, L2.xU, L2.xC, L2.xV, L2.lh, L2.vT, L2.vU, L2.AS, L2.vZ, L2.rH, L2.zL, L2.zK, L2.DO, L2.CH, L2.Ar, L2.vP, L2.oV, L2.mH, L2.tJ, L2.BE, L2.Bw, L2.jT, L2.BD, L2.nQ, L2.rG, L2.rF, L2.rE, List.getElem?_cons_zero, List.getElem?_cons_succ, List.set_cons_zero, List.set_cons_succ, List.nil_append, List.cons_append, L2.BY, L2.DK, L2.zW]); (try simp only [Option.some.injEq, exists_eq_left', exists_and_left, List.cons.injEq, L2.V.int.injEq, L2.V.bl.injEq, and_true, true_and, and_assoc, decide_eq_true_eq, List.append_nil, Int.reduceToNat, Int.reducePow, Int.reduceLT, Int.reduceLE, Int.reduceNeg, Int.zero_add, Nat.reducePow, Nat.reduceLT, Int.reduceAdd, Int.reduceSub, Int.reduceMul, L2.V.ref.injEq, L2.bK, L2.qw, exists_eq_left, exists_eq', exists_eq, exists_const, L2.nG, L2.sP, L2.sR, L2.sS, L2.sU, L2.sQ, L2.sV, reduceIte, reduceCtorEq, Bool.not_eq_true', decide_eq_false_iff_not, Int.reduceAbs, Bool.not_true, Bool.not_false, if_true, Bool.false_eq_true, if_false])))
namespace K
open PySem PySem.Spec PyProof.Rows L2
section
variable {P:Program} {w:World} {K:PySem.W.Frag} {mg:Str→Option Value} {base:Heap}
theorem yn {i:Int} (h:(decide (i.natAbs<10^250))=true):Bd i:=Nat.lt_of_lt_of_le (of_decide_eq_true h) vn
def u6 (l:Addr) (i j:Int):HO:=.dK [(Sum.inr "cells",.ref l),(Sum.inr "spot",.int i),(Sum.inr "left",.int j)]
def Tp (p:Addr) (n:Nat) (H:Hp):Prop:=∃(l:Addr) (i j:Int) (ns:List Int),H p=some (u6 l i j)∧H l=some (.lst (ns.map V.int))∧ns.length≤63∧0≤i∧i≤n
def Off (p:Addr) (H H':Hp):Prop:=∀ b,b≠p→H' b=H b
def DG (p:Addr) (H H':Hp):Prop:=∀ b o,b≠p→H b=some o→H' b=some o
theorem Off.Cq {p:Addr} {H H':Hp} (h:Off p H H'):DG p H H':=fun b o n e=>by rw [h b n];exact e
theorem Off.trans {p:Addr} {H H1 H2:Hp} (h:Off p H H1) (h':Off p H1 H2):Off p H H2:=fun b n=>(h' b n).trans (h b n)
theorem Off.BN {p:Addr} {H:Hp} {o:HO}:Off p H (upd H p o):=fun b n=>au n
theorem Tp.same {p:Addr} {n:Nat} {H H':Hp} (h:Tp p n H) (s:aF H H'):Tp p n H':=by
 obtain⟨l,i,j,ns,a,b,c⟩:=h
 exact⟨l,i,j,ns,s _ _ a,s _ _ b,c⟩
theorem Tp.ne {p b:Addr} {n:Nat} {H:Hp} {o:HO} (h:Tp p n H) (e:H b=some o) (z:∀ kvs,o≠.dK kvs):b≠p:=by
 obtain⟨l,i,j,ns,a,_⟩:=h
 exact gH e a (z _)
theorem sA:∀{L:List V},(∀ x∈L,∃ c,x=V.int c)→∃ ns:List Int,L=ns.map V.int
 | [],_=>⟨[],rfl⟩
 | x::L,h=>by
  obtain⟨c,e⟩:=h x (List.mem_cons_self ..)
  obtain⟨ns,z⟩:=sA (L:=L) fun y hy=>h y (List.mem_cons_of_mem _ hy)
  exact⟨c::ns,by rw [e,z];rfl⟩
theorem vt {ns:List Int} {lo hi:Option Int}:∃ ns':List Int,gB (ns.map V.int) lo hi=ns'.map V.int∧ns'.length≤ns.length:=by
 obtain⟨ns',e⟩:=sA (L:=gB (ns.map V.int) lo hi) fun x hx=>by
  unfold gB at hx
  obtain⟨c,_,e⟩:=List.mem_map.mp (List.mem_of_mem_drop (List.mem_of_mem_take hx))
  exact⟨c,e.symm⟩
 refine⟨ns',e,?_⟩
 have:=fI (ns.map V.int) lo hi
 rw [e,List.length_map,List.length_map] at this
 exact this
def xO (K:PySem.W.Frag):Sp:=fun vs H Q _=>∃(a:Addr) (ns:List Int),vs=[.ref a]∧aZ K H a (ns.map V.int)∧ns.length≤63∧∀ p H',aF H H'→H p=none→Tp p 0 H'→Q (.ref p) H'
theorem iE:aA [("_law_script":Str)] [("_law_script":Str)] (ak (top 61)):=⟨rfl,rfl,rfl,by decide +kernel,rfl,by decide +kernel,by decide +kernel⟩
theorem zj (D:ax K mg "_law_tape" (top 61)):Callee P w K mg base aO 1 "_law_tape" [("_law_script":Str)] (xO K):=by
 refine aB D (fun _ _ _ _ _ _ us hl=>by obtain⟨_,rfl⟩:=cI hl;exact rfl) iE (fun vs H Q E h=>by obtain⟨a,b,rfl,_⟩:=h;rfl) (fun f cdv A outer s H vs Q E hr h=>?_)
 obtain⟨a,ns,rfl,hS,h63,q⟩:=h
 have nd:=iE.nd
 refine⟨_,(ai (aC (zp (kO bM (iA nJ (pv 0) jS (gu ah)) (kO bM ah (kO bM ah zz))) rfl rfl (by intro z;cases z) (by decide)))),?_⟩
 show h7 _ _ [some (.ref a)] H
 k_data
 intro p hp
 have s1:=ao (o:=.dK []) hp
 refine⟨a,_,rfl,hS.same s1,fun pl hpl=>⟨?_,[(Sum.inr "cells",.ref pl),(Sum.inr "spot",.int 0),(Sum.inr "left",.int 0)],rfl,by show 3≤15;decide,?_⟩⟩
 ·rw [au (a9 ag hpl),ag]
 ·obtain⟨ns',e1,e2⟩:=vt (ns:=ns) (lo:=none) (hi:=some 63)
  have nep:pl≠p:=fun z=>by rw [z,ag] at hpl;cases hpl
  rw [e1]
  exact q p _ ((s1.trans (ao hpl)).upd hp) hp ⟨pl,0,0,ns',ag,by rw [au nep,ag],by omega,by decide,by decide⟩
section
variable {H:Hp} {p l:Addr} {i j i' j':Int}
theorem nS (h:H p=some (u6 l i j)):eI H p (.str "left") (some (.int j)):=eI.k (k:=Sum.inr "left") h
theorem zN (h:H p=some (u6 l i j)):eI H p (.str "spot") (some (.int i)):=eI.k (k:=Sum.inr "spot") h
theorem ye (h:H p=some (u6 l i j)):eI H p (.str "cells") (some (.ref l)):=eI.k (k:=Sum.inr "cells") h
theorem qv (h:H p=some (u6 l i j)):lr H p (.str "left") (.int j') (upd H p (u6 l i j')):=.inl ⟨_,Sum.inr "left",h,rfl,by show 3<sizeLine;decide,rfl⟩
theorem yf (h:H p=some (u6 l i j)):lr H p (.str "spot") (.int i') (upd H p (u6 l i' j)):=.inl ⟨_,Sum.inr "spot",h,rfl,by show 3<sizeLine;decide,rfl⟩
end
def kZ:Sp:=fun vs H Q _=>∃(p:Addr) (m:Int) (n:Nat),vs=[.ref p,.int m]∧Tp p n H∧n≤10^60∧0<m∧m<10^200∧∀ r H',0≤r→r<m→Off p H H'→Tp p (n+1) H'→Q (.int r) H'
theorem iC:aA [("_law_tape_here":Str),("_law_many":Str),("_law_found":Str),("_law_spot":Str),("_law_cells":Str),("_law_cell":Str),("_law_seed":Str)] [("_law_tape_here":Str),("_law_many":Str)] (ak (top 62)):=⟨rfl,rfl,rfl,by decide +kernel,rfl,by decide +kernel,by decide +kernel⟩
theorem yY (D:ax K mg "_law_draw" (top 62)) (n_len:mg "len"=none):Callee P w K mg base aO 1 "_law_draw" [("_law_tape_here":Str),("_law_many":Str)] kZ:=by
 refine aB D (fun _ _ _ _ _ _ us hl=>by obtain⟨_,_,rfl⟩:=cL hl;exact rfl) iC (fun vs H Q E h=>by obtain⟨a,b,c,rfl,_⟩:=h;rfl) (fun f cdv A outer s H vs Q E hr h=>?_)
 obtain⟨p,m,n,rfl,⟨l,i,j,ns,hp,hl,h63,i0,i1⟩,hn,m0,m1,q⟩:=h
 have nd:=iC.nd
 refine⟨_,(ae (aP (aw cw (gp (dD hr) (pv 0) bM (fun _ _=>rfl)) ah (az _)) (ae (aq (i:=2) nd rfl (Or.inl rfl) (av aK (gp (dD hr) (pv 0) bM (fun _ _=>rfl)) (pv 1))) (ae (iB (dD hr) (pv 0) bM (av aU (gp (dD hr) (pv 0) bM (fun _ _=>rfl)) (pv 1)) rfl) (ai (aC (pv 2))))) aI) (ae (aq (i:=3) nd rfl (Or.inl rfl) (gp (dD hr) (pv 0) bM (fun _ _=>rfl))) (ae (iB (dD hr) (pv 0) bM (av bI (pv 3) ah) rfl) (ae (aq (i:=4) nd rfl (Or.inl rfl) (gp (dD hr) (pv 0) bM (fun _ _=>rfl))) (ae (aq (i:=5) nd rfl (Or.inl rfl) ah) (ae (c8 (aP (aw cw (aH bC rfl n_len PySem.boot_len (aa (pv 4) af)) ah (az _)) (ai (aq (i:=5) nd rfl (Or.inl rfl) (aV iu (pv 4) (av aK (pv 3) (aH bC rfl n_len PySem.boot_len (aa (pv 4) af))) (fun _ _=>rfl)))) aI)) (ae (aP (PW.pt (ny (aw cw (pv 5) ah (az _)) (ny (aw bO (av aK (pv 5) ah) ah (az _)) (nA (aw dR (pv 3) (aH bC rfl n_len PySem.boot_len (aa (pv 4) af)) (az _)))))) (ae (iB (dD hr) (pv 0) bM (av aU (av aU (pv 5) ah) (pv 1)) rfl) (ai (aC (av aK (av aU (pv 5) ah) (pv 1))))) aI) (ae (aq (i:=6) nd rfl (Or.inl rfl) (av aK (av aL (av bI (av bI (av bI (av aK (pv 5) ah) (av aL (av aL ah (pv 3)) (pv 3))) (av aL ah (pv 3))) ah) ah) ah)) (ai (aC (av aK (av aU (av aK (av aL (pv 6) (av bI (pv 6) ah)) ah) ah) (pv 1)))))))))))),?_⟩
 show bz _ _ _ [some (.ref p),some (.int m),none,none,none,none,none] H
 k_data
 have lp:l≠p:=gH hl hp (by intro z;cases z)
 have mb:Bd m:=Bd.of (by omega) (by omega)
 have em:=fun x:Int=>Int.emod_nonneg x (show m≠0 by omega)
 have el:=fun x:Int=>Int.emod_lt_of_pos x m0
 refine⟨_,nS hp,j,rfl,aR (fun c=>?_) (fun c=>?_)⟩
 ·exact⟨_,nS hp,j,rfl,m0,_,nS hp,j,rfl,m0,mb,_,qv hp,q _ _ (em _) (el _) Off.BN ⟨l,i,_,ns,ag,by rw [au lp];exact hl,h63,i0,by omega⟩⟩
 ·refine⟨_,zN hp,i,rfl,_,yf hp,_,ye ag,?_⟩
  have hp1:upd H p (u6 l (i+1) j) p=some (u6 l (i+1) j):=ag
  have hl1:upd H p (u6 l (i+1) j) l=some (.lst (ns.map V.int)):=by rw [au lp];exact hl
  have of1:Off p H (upd H p (u6 l (i+1) j)):=Off.BN
  generalize upd H p (u6 l (i+1) j)=H1 at *
  refine⟨fun σ' H'=>H'=H1∧∃ c,σ'=[some (.ref p),some (.int m),none,some (.int i),some (.ref l),some (.int c),none],?_,?_⟩
  ·k_data
   refine df (aZ.of hl1) ⟨_,rfl,?_⟩
   rw [List.length_map]
   refine aR (fun c1=>?_) (fun c1=>rfl)
   refine df (aZ.of hl1) ?_
   rw [List.length_map]
   have r0:=Int.emod_nonneg i (show (ns.length:Int)≠0 by omega)
   have r1:=Int.emod_lt_of_pos i c1
   refine⟨_,rfl,c1,si (aZ.of hl1) r0 (by rw [List.length_map];exact r1) fun v hv=>?_⟩
   obtain⟨x,_,rfl⟩:=List.mem_map.mp hv
   exact⟨rfl,x,rfl⟩
  ·rintro σ' H' ⟨rfl,c',rfl⟩
   k_data
   have ib:i≤10^60:=by omega
   have ii:7919*i*i≤7919*i*10^60:=Int.mul_le_mul_of_nonneg_left ib (by omega)
   have i2:0≤7919*i*i:=Int.mul_nonneg (by omega) i0
   have c0:=Int.emod_nonneg c' (show (2147483629:Int)≠0 by decide)
   have c1:=Int.emod_lt_of_pos c' (show (0:Int)<2147483629 by decide)
   have sd:∀ z:Int,0≤z%2147483647∧z%2147483647<2147483647:=fun z=>⟨Int.emod_nonneg z (by decide),Int.emod_lt_of_pos z (by decide)⟩
   have T1:Tp p (n+1) H':=⟨l,i+1,j,ns,hp1,hl1,h63,by omega,by omega⟩
   have fin:Bd 7919∧Bd i∧Bd (7919*i)∧Bd i∧Bd 48271∧Bd i∧Bd (c'%2147483629+7919*i*i+48271*i+1)∧Bd 69621∧Bd ((c'%2147483629+7919*i*i+48271*i+1)*69621%2147483647)∧Bd ((c'%2147483629+7919*i*i+48271*i+1)*69621%2147483647+16807)∧Bd 64∧0<m:=by
    have s1:=sd ((c'%2147483629+7919*i*i+48271*i+1)*69621)
    exact⟨yn (by decide),Bd.of (by omega) (by omega),Bd.of (by omega) (by omega),Bd.of (by omega) (by omega),yn (by decide),Bd.of (by omega) (by omega),Bd.of (by omega) (by omega),yn (by decide),Bd.of (by omega) (by omega),Bd.of (by omega) (by omega),yn (by decide),m0⟩
   obtain⟨f1,f2,f3,f4,f5,f6,f7,f8,f9,f10,f11,f12⟩:=fin
   have fq:∀ x,Q (V.int (x%m)) H':=fun x=>q _ _ (em _) (el _) of1 T1
   refine aR (fun c2=>aR (fun c3=>?_) (fun c3=>⟨f1,f2,f3,f4,f5,f6,f7,f8,f9,f10,f11,f12,fq _⟩)) (fun c2=>⟨f1,f2,f3,f4,f5,f6,f7,f8,f9,f10,f11,f12,fq _⟩)
   refine df (aZ.of hl1) ⟨_,rfl,aR (fun c4=>⟨yn (by decide),m0,mb,_,qv hp1,yn (by decide),m0,?_⟩) (fun c4=>⟨f1,f2,f3,f4,f5,f6,f7,f8,f9,f10,f11,f12,fq _⟩)⟩
   exact q _ _ (em _) (el _) (of1.trans Off.BN) ⟨l,i+1,_,ns,ag,by rw [au lp];exact hl1,h63,by omega,by omega⟩
end
end K
namespace K
open PySem PySem.Spec PyProof.Rows L2
section
variable {P:Program} {w:World} {K:PySem.W.Frag} {mg:Str→Option Value} {base:Heap}
def jg (a:Int):Prop := -(10^240)≤a∧a≤10^240
theorem jg.bd {a:Int} (h:jg a):Bd a:=Bd.of (by have:=h.1;omega) (by have:=h.2;omega)
def dA:Sp:=fun vs H Q _=>∃ a b:Int,vs=[.int a,.int b]∧jg a∧jg b∧∀ g u v p H',Gcd.Av a b g u v→aF H H'→H' p=some (.tup [.int g,.int u,.int v])→Q (.ref p) H'
theorem kS:aA [("a":Str),("b":Str),("g":Str),("u":Str),("v":Str),("next_g":Str),("next_u":Str),("next_v":Str),("times":Str)] [("a":Str),("b":Str)] (ak (top 16)):=⟨rfl,rfl,rfl,by decide +kernel,rfl,by decide +kernel,by decide +kernel⟩
structure DS where
 (g u v ng nu nv:Int)
 t:Option V
theorem qY (D:ax K mg "divisor" (top 16)) (n_abs:mg "abs"=none):Callee P w K mg base aO 1 "divisor" [("a":Str),("b":Str)] dA:=by
 refine aB D (fun _ _ _ _ _ _ us hl=>by obtain⟨_,_,rfl⟩:=cL hl;exact rfl) kS (fun vs H Q E h=>by obtain⟨a,b,rfl,_⟩:=h;rfl) (fun f cdv A outer s H vs Q E hr h=>?_)
 obtain⟨a,b,rfl,ha,hb,q⟩:=h
 have nd:=kS.nd
 refine⟨_,(ae (sL (i:=2) (j:=3) (k:=4) rfl nd rfl rfl rfl (by decide) (by decide) (by decide) rfl rfl rfl (aa (aH j6 rfl n_abs L2.boot_abs (aa (pv 0) af)) (aa ah (aa ah af))) rfl) (ae (sL (i:=5) (j:=6) (k:=7) rfl nd rfl rfl rfl (by decide) (by decide) (by decide) rfl rfl rfl (aa (aH j6 rfl n_abs L2.boot_abs (aa (pv 1) af)) (aa ah (aa ah af))) rfl) (ae (bf PassesOwn.never (aw cw (pv 5) ah (az _)) (ae (aq (i:=8) nd rfl (Or.inl rfl) (av aU (pv 2) (pv 5))) (ae (nq (i:=2) (j:=5) rfl nd rfl rfl (by decide) rfl rfl (aa (pv 5) (aa (av bY (pv 2) (av aL (pv 8) (pv 5))) af)) rfl) (ae (nq (i:=3) (j:=6) rfl nd rfl rfl (by decide) rfl rfl (aa (pv 6) (aa (av bY (pv 3) (av aL (pv 8) (pv 6))) af)) rfl) (ai (nq (i:=4) (j:=7) rfl nd rfl rfl (by decide) rfl rfl (aa (pv 7) (aa (av bY (pv 4) (av aL (pv 8) (pv 7))) af)) rfl)))))) (ai (aC (aM (aa (pv 2) (aa (eQ (aw dR (pv 0) ah (az _)) (mf jc (pv 3)) (pv 3)) (aa (eQ (aw dR (pv 1) ah (az _)) (mf jc (pv 4)) (pv 4)) af))))))))),?_⟩
 show bz _ _ _ [some (.int a),some (.int b),none,none,none,none,none,none,none] H
 k_data
 have hA:0≤(if a<0 then -a else a)∧(if a<0 then -a else a)≤10^240:=by have:=ha.1;have:=ha.2;split<;>omega
 have hB:0≤(if b<0 then -b else b)∧(if b<0 then -b else b)≤10^240:=by have:=hb.1;have:=hb.2;split<;>omega
 refine bh (α:=DS) (fun x=>[some (.int a),some (.int b),some (.int x.g),some (.int x.u),some (.int x.v),some (.int x.ng),some (.int x.nu),some (.int x.nv),x.t])
  (fun x H'=>H'=H∧Gcd.J (if a<0 then -a else a) (if b<0 then -b else b) x.g x.u x.v x.ng x.nu x.nv∧x.g≤10^240∧x.ng≤10^240) (fun x=>x.ng.toNat)
  ⟨_,1,0,_,0,1,none⟩ rfl ⟨rfl,Gcd.J.start hA.1 hB.1,hA.2,hB.2⟩ ?_
 rintro x H1 ⟨rfl,j,hg,hng⟩
 k_data
 refine aR (fun c=>?_) (fun c=>?_)
 ·refine⟨_,fun _ _ z=>z,?_⟩
  obtain⟨s1,s2,s3,s4⟩:=j.small hA.1 hB.1 hA.2 hB.2 (by omega)
  obtain⟨j',l,q0,ql⟩:=j.turn c
  have bg:jg x.ng:=⟨by omega,hng⟩
  have bq:jg (x.g/x.ng):=⟨by omega,by omega⟩
  refine⟨c,bg.bd,bq.bd,bg.bd,bq.bd,jg.bd s3,bq.bd,jg.bd s4,⟨x.ng,x.nu,x.nv,x.g-x.g/x.ng*x.ng,x.u-x.g/x.ng*x.nu,x.v-x.g/x.ng*x.nv,some (.int (x.g/x.ng))⟩,rfl,rfl,j',hng,by show (x.g-x.g/x.ng*x.ng)≤_;omega,by show (x.g-x.g/x.ng*x.ng).toNat<x.ng.toNat;omega⟩
 ·have e:x.ng=0:=by have:=j.n0;omega
  rw [e] at j
  have z:=j.done
  refine aR (fun ca=>?_) (fun ca=>?_)<;>simp only [ca,if_true,if_false] at z ⊢<;>refine aR (fun cb=>?_) (fun cb=>?_)<;>simp only [cb,if_true,if_false] at z ⊢ <;>
   exact⟨by show 3≤sizeLine;decide,fun p hp=>q _ _ _ p _ z (ao hp) ag⟩
end
end K
namespace K
open PySem PySem.Spec PyProof.Rows L2
structure Gd (n a g:Int):Prop where
 pos:0<g
 dn:g∣n
 da:g∣a
 gr:∀ d:Int,d∣n→d∣a→d∣g
theorem Gd.one {n a g g':Int} (h:Gd n a g) (h':Gd n a g'):g=g' :=
 Int.le_antisymm (Int.le_of_dvd h'.pos (h'.gr g h.dn h.da)) (Int.le_of_dvd h.pos (h.gr g' h'.dn h'.da))
theorem oK {n a g:Int} (dn:g∣n):g∣a%n↔g∣a:=by
 have e:=Int.mul_ediv_add_emod a n
 constructor
 ·intro h
  rw [← e]
  exact Int.dvd_add (Int.dvd_mul_of_dvd_left dn) h
 ·intro h
  have:a%n=a-n*(a/n):=by omega
  rw [this]
  exact Int.dvd_sub h (Int.dvd_mul_of_dvd_left dn)
theorem Gd.of {n a g u v:Int} (hn:0<n) (z:Gcd.Av (a%n) n g u v):Gd n a g:=by
 refine⟨?_,z.db,(oK z.db).mp z.da,fun d h1 h2=>?_⟩
 ·have:=z.g0
  rcases (by omega:g=0∨0<g) with e | e
  ·have:=z.db
   rw [e] at this
   have:=Int.zero_dvd.mp this
   omega
  ·exact e
 ·rw [← z.lin]
  exact Int.dvd_add (Int.dvd_mul_of_dvd_right ((oK h1).mpr h2)) (Int.dvd_mul_of_dvd_right h1)
theorem AV {n a u v:Int} (hn:0<n) (z:Gcd.Av (a%n) n 1 u v):n∣u%n*a-1:=by
 have e:=z.lin
 have e1:=Int.mul_ediv_add_emod a n
 have e2:=Int.mul_ediv_add_emod u n
 refine⟨u*(a/n)-v-u/n*a,?_⟩
 generalize a%n=x at *
 generalize u%n=y at *
 generalize a/n=s at *
 generalize u/n=t at *
 grind
section
variable {P:Program} {w:World} {K:PySem.W.Frag} {mg:Str→Option Value} {base:Heap}
def dB (C:Addr):Sp:=fun vs H Q E=>∃ n a:Int,vs=[.int n,.int a]∧0<n∧n≤10^240∧∀ g,Gd n a g →
 (g=1→∀ r H',0≤r→r<n→n∣r*a-1→aF H H'→Q (.int r) H') ∧
 (1<g→∀ x dx H',aF H H'→H x=none→H' x=some (XO x C (some dx))→H' dx=some (.xd [("divisor",.int g)])→E (.ref C) (some x) H')
theorem kT:aA [("n":Str),("a":Str),("g":Str),("u":Str),("v":Str)] [("n":Str),("a":Str)] (ak (top 17)):=⟨rfl,rfl,rfl,by decide +kernel,rfl,by decide +kernel,by decide +kernel⟩
theorem qZ {C:Addr} (D:ax K mg "inverse" (top 17)) (c_divisor:Callee P w K mg base aO 1 "divisor" ["a","b"] dA) (x_NoInverse:mN P w K mg base "NoInverse" C "divisor"):Callee P w K mg base (c6 P w) 3 "inverse" [("n":Str),("a":Str)] (dB C):=by
 refine bH D (fun _ _ _ _ _ _ us hl=>by obtain⟨_,_,rfl⟩:=cL hl;exact rfl) kT (fun vs H Q E h=>by obtain⟨a,b,rfl,_⟩:=h;rfl) (fun f cdv A outer s H vs Q E hr h=>?_)
 obtain⟨n,a,rfl,hn,hn1,q⟩:=h
 have nd:=kT.nd
 refine⟨_,(ae (dH (aj c_divisor (hr.mono (by decide)) rfl aG (aa (av aK (pv 1) (pv 0)) (aa (pv 0) af))) (cu (n:=3) rfl (aD (ay (i:=2) nd rfl (Or.inl rfl) (.inr rfl)) (aD (ay (i:=3) nd rfl (Or.inl rfl) (.inr rfl)) (aD (ay (i:=4) nd rfl (Or.inl rfl) (.inr rfl)) aW))))) (ae (aP (aw cw (pv 2) ah (az _)) (ai (bZ (i7 x_NoInverse (hr.mono (by decide)) rfl (aa (pv 2) af)))) aI) (gF.l9 (ai (aC (av aK (pv 3) (pv 0))))))),?_⟩
 show bz _ _ _ [some (.int n),some (.int a),none,none,none] H
 k_data
 have r0:=Int.emod_nonneg a (show n≠0 by omega)
 have r1:=Int.emod_lt_of_pos a hn
 refine⟨hn,a%n,n,rfl,⟨by omega,by omega⟩,⟨by omega,by omega⟩,fun g u v p H1 z hs hh=>?_⟩
 have G:=Gd.of hn z
 obtain⟨q1,q2⟩:=q g G
 refine⟨p,_,rfl,bD.of hh,rfl,?_⟩
 k_data
 refine aR (fun c=>?_) (fun c=>?_)
 ·intro x dx hx hdx ne
  have ne':dx≠x:=ne
  refine⟨C,some dx,ag,x_NoInverse.cls,?_,?_⟩
  ·cases e:H x with
   | none=>rfl
   | some o=>rw [hs _ _ e] at hx;cases hx
  ·refine q2 c x dx _ ?_ ?_ ag ?_
   ·intro b o e
    have e1:=hs _ _ e
    have bx:b≠x:=fun y=>by rw [y,hx] at e1;cases e1
    have bd:b≠dx:=fun y=>by rw [y,hdx] at e1;cases e1
    rw [au bx,au bx,au bd,au bx]
    exact e1
   ·cases e:H x with
    | none=>rfl
    | some o=>rw [hs _ _ e] at hx;cases hx
   ·rw [au ne',au ne',ag]
 ·have g1:g=1:=by have:=G.pos;omega
  subst g1
  exact⟨hn,q1 rfl _ _ (Int.emod_nonneg _ (by omega)) (Int.emod_lt_of_pos _ hn) (AV hn z) hs⟩
end
end K
namespace K
open PySem PySem.Spec PyProof.Rows L2
section
variable {P:Program} {w:World} {K:PySem.W.Frag} {mg:Str→Option Value} {base:Heap}
def cF (C:Addr):Sp:=fun vs H Q E=>∃ n a e:Int,vs=[.int n,.int a,.int e]∧0<n∧n≤10^120 ∧
 (0≤e→∀ H',aF H H'→Q (.int (a^e.toNat%n)) H') ∧
 (e<0→∀ g,Gd n a g →
  (g=1→∀ b H',0≤b→b<n→n∣b*a-1→aF H H'→Q (.int (b^(-e).toNat%n)) H') ∧
  (1<g→∀ x dx H',aF H H'→H x=none→H' x=some (XO x C (some dx))→H' dx=some (.xd [("divisor",.int g)])→E (.ref C) (some x) H'))
theorem pX:aA [("n":Str),("a":Str),("e":Str),("base":Str),("left":Str),("rest":Str)] [("n":Str),("a":Str),("e":Str)] (ak (top 23)):=⟨rfl,rfl,rfl,by decide +kernel,rfl,by decide +kernel,by decide +kernel⟩
theorem wD {C:Addr} (D:ax K mg "power" (top 23)) (c_inverse:Callee P w K mg base (c6 P w) 3 "inverse" ["n","a"] (dB C)) (n_abs:mg "abs"=none):Callee P w K mg base (c6 P w) 4 "power" [("n":Str),("a":Str),("e":Str)] (cF C):=by
 refine bH D (fun _ _ _ _ _ _ us hl=>by obtain⟨_,_,_,rfl⟩:=dQ hl;exact rfl) pX (fun vs H Q E h=>by obtain⟨a,b,c,rfl,_⟩:=h;rfl) (fun f cdv A outer s H vs Q E hr h=>?_)
 obtain⟨n,a,e,rfl,hn,hn1,q1,q2⟩:=h
 have nd:=pX.nd
 refine⟨_,(ae (aq (i:=3) nd rfl (Or.inl rfl) (av aK (pv 1) (pv 0))) (ae (c8 (aP (aw dR (pv 2) ah (az _)) (ai (aq (i:=3) nd rfl (Or.inl rfl) (aj c_inverse (hr.mono (by decide)) rfl kI (aa (pv 0) (aa (pv 1) af))))) aI)) (gF.l9 (ae (aq (i:=4) nd rfl (Or.inl rfl) (aH j6 rfl n_abs L2.boot_abs (aa (pv 2) af))) (ae (aq (i:=5) nd rfl (Or.inl rfl) (av aK ah (pv 0))) (ae (bf PassesOwn.never (aw cw (pv 4) ah (az _)) (ae (c8 (aP (aw bO (av aK (pv 4) ah) ah (az _)) (ai (aq (i:=5) nd rfl (Or.inl rfl) (av aK (av aL (pv 5) (pv 3)) (pv 0)))) aI)) (ae (aq (i:=3) nd rfl (Or.inl rfl) (av aK (av aL (pv 3) (pv 3)) (pv 0))) (ai (dI (i:=4) nd rfl (Or.inl rfl) ah (fJ kr)))))) (ai (aC (pv 5))))))))),?_⟩
 show bz _ _ _ [some (.int n),some (.int a),some (.int e),none,none,none] H
 k_data
 refine⟨hn,fun σ' H'=>aF H H'∧∃ b:Int,σ'=[some (.int n),some (.int a),some (.int e),some (.int b),none,none]∧0≤b∧b<n∧Q (.int (b^e.natAbs%n)) H',?_,?_⟩
 ·k_data
  refine aR (fun c=>?_) (fun c=>?_)
  ·refine⟨n,a,rfl,hn,by omega,fun g G=>⟨fun e1 r H' r0 r1 r2 hs=>?_,fun g1 x dx H' hs hx hX hd=>?_⟩⟩
   ·have:=(q2 c g G).1 e1 r H' r0 r1 r2 hs
    rw [show (-e).toNat=e.natAbs by omega] at this
    exact⟨hs,r,rfl,r0,r1,this⟩
   ·exact (q2 c g G).2 g1 x dx H' hs hx hX hd
  ·have:=q1 (by omega) H (aF.refl _)
   rw [show e.toNat=e.natAbs by omega,← Pw.kN] at this
   exact⟨aF.refl _,Int.emod_nonneg _ (by omega),Int.emod_lt_of_pos _ hn,this⟩
 ·rintro σ' H' ⟨hs,b,rfl,hb0,hb1,q⟩
  k_data
  refine⟨hn,?_⟩
  have ee:(if e<0 then -e else e)=(e.natAbs:Int):=by split<;>omega
  rw [ee]
  refine bh (α:=Int × Nat × Int) (fun x=>[some (.int n),some (.int a),some (.int e),some (.int x.1),some (.int x.2.1),some (.int x.2.2)]) (fun x H1=>H1=H'∧0≤x.1∧x.1<n∧0≤x.2.2∧x.2.2<n∧x.2.2*x.1^x.2.1%n=b^e.natAbs%n) (fun x=>x.2.1) (b,e.natAbs,1%n) rfl ⟨rfl,hb0,hb1,Int.emod_nonneg _ (by omega),Int.emod_lt_of_pos _ hn,?_⟩ ?_
  ·show 1%n*b^e.natAbs%n=_
   rw [Pw.Ae,Int.one_mul]
  rintro⟨b',l,r⟩ H1 ⟨rfl,h1,h2,h3,h4,h5⟩
  replace h1:0≤b':=h1
  replace h2:b'<n:=h2
  replace h3:0≤r:=h3
  replace h4:r<n:=h4
  replace h5:r*b'^l%n=b^e.natAbs%n:=h5
  k_data
  refine aR (fun c=>?_) (fun c=>?_)
  ·refine⟨_,fun _ _ z=>z,fun σ' H2=>H2=H1∧σ'=[some (.int n),some (.int a),some (.int e),some (.int b'),some (.int l),some (.int (if l%2=1 then r*b'%n else r))],?_,?_⟩
   ·k_data
    refine aR (fun c=>?_) (fun c=>?_)
    ·exact⟨Bd.of (by omega) (by omega),Bd.of (by omega) (by omega),hn,by rw [if_pos (by omega)]⟩
    ·rw [if_neg (by omega)]
   rintro σ' H2 ⟨rfl,rfl⟩
   k_data
   have r0:0≤(if l%2=1 then r*b'%n else r)∧(if l%2=1 then r*b'%n else r)<n:=by
    split
    ·exact⟨Int.emod_nonneg _ (by omega),Int.emod_lt_of_pos _ hn⟩
    ·exact⟨h3,h4⟩
   refine⟨Bd.of (by omega) (by omega),Bd.of (by omega) (by omega),hn,yn (by decide),(b'*b'%n,l/2,if l%2=1 then r*b'%n else r),rfl,(by show (l:Int)/2=((l/2:Nat):Int);omega),rfl,Int.emod_nonneg _ (by omega),Int.emod_lt_of_pos _ hn,r0.1,r0.2,?_,?_⟩
   ·show (if l%2=1 then r*b'%n else r)*(b'*b'%n)^(l/2)%n=_
    rw [Pw.step]
    exact h5
   ·show l/2<l
    omega
  ·have l0:l=0:=by omega
   subst l0
   rw [Int.pow_zero,Int.mul_one] at h5
   have h6:r%n=r:=Int.emod_eq_of_lt h3 h4
   rw [← h5,h6] at q
   exact q
end
end K
namespace K
open PySem PySem.Spec PyProof.Rows L2
section
variable {P:Program} {w:World} {K:PySem.W.Frag} {mg:Str→Option Value} {base:Heap}
def rD:Sp:=fun vs H Q _=>∃ n k:Int,vs=[.int n,.int k]∧2≤n∧n≤10^120∧k≤10^120∧Ld.Inv n k∧∀ r,Ld.h8 n r→Q (.int r) H
theorem cR:aA [("n":Str),("start":Str),("number":Str)] [("n":Str),("start":Str)] (ak (top 12)):=⟨rfl,rfl,rfl,by decide +kernel,rfl,by decide +kernel,by decide +kernel⟩
theorem y4 (D:ax K mg "least_divisor_from" (top 12)):Callee P w K mg base aO 1 "least_divisor_from" [("n":Str),("start":Str)] rD:=by
 refine aB D (fun _ _ _ _ _ _ us hl=>by obtain⟨_,_,rfl⟩:=cL hl;exact rfl) cR (fun vs H Q E h=>by obtain⟨a,b,rfl,_⟩:=h;rfl) (fun f cdv A outer s H vs Q E hr h=>?_)
 obtain⟨n,k,rfl,hn,hn1,hk1,hk,q⟩:=h
 have nd:=cR.nd
 refine⟨_,(ae (aq (i:=2) nd rfl (Or.inl rfl) (pv 1)) (ae (bf PassesOwn.never (aw wL (av aL (pv 2) (pv 2)) (pv 0) (az _)) (ae (aP (aw bO (av aK (pv 0) (pv 2)) ah (az _)) (ai (aC (pv 2))) aI) (ai (dI (i:=2) nd rfl (Or.inl rfl) (eQ (aw bO (pv 2) ah (az _)) ah ah) (fJ gh))))) (ai (aC (pv 0))))),?_⟩
 show bz _ _ _ [some (.int n),some (.int k),none] H
 k_data
 refine bh (α:=Int) (fun x=>[some (.int n),some (.int k),some (.int x)]) (fun x H1=>H1=H∧Ld.Inv n x∧x≤10^120+2) (fun x=>(n+2-x).toNat) k rfl ⟨rfl,hk,by omega⟩ ?_
 rintro x H1 ⟨rfl,hx,hx1⟩
 have x2:=hx.two
 k_data
 refine⟨Bd.of (by omega) (by omega),Bd.of (by omega) (by omega),?_⟩
 refine aR (fun c=>?_) (fun c=>?_)
 ·have xn:x≤n:=by
   have:=Int.mul_le_mul_of_nonneg_left (show 1≤x by omega) (show 0≤x by omega)
   omega
  have st:=fun z=>hx.step (k:=x) z
  refine⟨fun σ' H'=>H'=H1∧∃ y,y=(x+if x=2 then 1 else 2)∧¬x∣n∧σ'=[some (V.int n),some (V.int k),some (V.int y)],?_,by omega,?_⟩
  ·rintro σ' H' ⟨rfl,y,hy,nd',rfl⟩
   refine⟨y,rfl,rfl,by rw [hy];exact st nd',?_,?_⟩
   ·split at hy<;>omega
   ·split at hy<;>omega
  refine aR (fun c2=>?_) (fun c2=>?_)
  ·exact q x (hx.found (Int.dvd_of_emod_eq_zero c2))
  have nd':¬x∣n:=fun z=>c2 (Int.emod_eq_zero_of_dvd z)
  refine aR (fun c3=>?_) (fun c3=>?_)
  ·exact⟨rfl,_,by rw [if_pos c3],nd',rfl⟩
  ·exact⟨rfl,_,by rw [if_neg c3],nd',rfl⟩
 ·exact q n (hx.done hn (by omega))
def nM (c1 c2:Addr):Sp:=fun vs H Q E=>∃ n:Int,vs=[.int n]∧(n<2→BQ c1 H E)∧(10^9<n→ym c2 "part" (.int n) H E)∧(2≤n→n≤10^9→∀ r,Ld.h8 n r→Q (.int r) H)
theorem eX:aA [("n":Str)] [("n":Str)] (ak (top 11)):=⟨rfl,rfl,rfl,by decide +kernel,rfl,by decide +kernel,by decide +kernel⟩
theorem wz {c1 c2:Addr} (D:ax K mg "least_divisor" (top 11)) (c_least_divisor_from:Callee P w K mg base aO 1 "least_divisor_from" ["n","start"] rD) (x_NoNumber:qD K mg "NoNumber" c1) (x_TooFar:mN P w K mg base "TooFar" c2 "part")
  (g_GREATEST:∃ t,mg "GREATEST"=some (.int 1000000000 t)):Callee P w K mg base (c6 P w) 3 "least_divisor" [("n":Str)] (nM c1 c2):=by
 refine bH D (fun _ _ _ _ _ _ us hl=>by obtain⟨_,rfl⟩:=cI hl;exact rfl) eX (fun vs H Q E h=>by obtain⟨a,rfl,_⟩:=h;rfl) (fun f cdv A outer s H vs Q E hr h=>?_)
 obtain⟨n,rfl,q1,q2,q3⟩:=h
 obtain⟨tk,g_GREATEST⟩:=g_GREATEST
 have nd:=eX.nd
 refine⟨_,(ae (aP (aw dR (pv 0) ah (az _)) (ai (bZ (kK x_NoNumber rfl))) aI) (ae (aP (aw cw (pv 0) (jR (v:=.int 1000000000) rfl g_GREATEST ⟨_,rfl⟩) (az _)) (ai (bZ (i7 x_TooFar (hr.mono (by decide)) rfl (aa (pv 0) af)))) aI) (gF.l9 (ai (aC (aj c_least_divisor_from (hr.mono (by decide)) rfl aG (aa (pv 0) (aa ah af)))))))),?_⟩
 show bz _ _ _ [some (.int n)] H
 k_data
 refine aR (fun c=>?_) (fun c=>?_)
 ·exact fun x hx=>dy x_NoNumber.cls (aF.refl _) hx (q1 c)
 refine aR (fun c'=>?_) (fun c'=>?_)
 ·exact fun x dx hx hdx ne=>gf x_TooFar.cls (aF.refl _) hx hdx ne (q2 (by omega))
 exact⟨n,2,rfl,by omega,by omega,by omega,⟨by omega,.inl rfl,fun d d0 d1=>by omega⟩,q3 (by omega) (by omega)⟩
end
end K
namespace K
open PySem PySem.Spec PyProof.Rows L2
section
variable {P:Program} {w:World} {K:PySem.W.Frag} {mg:Str→Option Value} {base:Heap}
def jG (p:Int × Int):PyData:=.tuple [.int p.1,.int p.2]
def k9 (K:PySem.W.Frag) (c1 c2:Addr):Sp:=fun vs H Q E=>∃ n:Int,vs=[.int n]∧(n<1→BQ c1 H E)∧(10^9<n→ym c2 "part" (.int n) H E)∧(1≤n→n≤10^9→∀ ps us p H',Num.Part n ps→ps.length≤29→aF H H'→H p=none→H' p=some (.lst us)→aQ K H' (ps.map jG) us→Q (.ref p) H')
theorem mn:aA [("n":Str),("parting":Str),("left":Str),("prime":Str),("many":Str)] [("n":Str)] (ak (top 13)):=⟨rfl,rfl,rfl,by decide +kernel,rfl,by decide +kernel,by decide +kernel⟩
theorem uw {c1 c2:Addr} (D:ax K mg "parted" (top 13)) (c_least_divisor_from:Callee P w K mg base aO 1 "least_divisor_from" ["n","start"] rD) (x_NoNumber:qD K mg "NoNumber" c1) (x_TooFar:mN P w K mg base "TooFar" c2 "part")
  (g_GREATEST:∃ t,mg "GREATEST"=some (.int 1000000000 t)):Callee P w K mg base (c6 P w) 3 "parted" [("n":Str)] (k9 K c1 c2):=by
 refine bH D (fun _ _ _ _ _ _ us hl=>by obtain⟨_,rfl⟩:=cI hl;exact rfl) mn (fun vs H Q E h=>by obtain⟨a,rfl,_⟩:=h;rfl) (fun f cdv A outer s H vs Q E hr h=>?_)
 obtain⟨n,rfl,q1,q2,q3⟩:=h
 obtain⟨tk,g_GREATEST⟩:=g_GREATEST
 have nd:=mn.nd
 refine⟨_,(ae (aP (aw dR (pv 0) ah (az _)) (ai (bZ (kK x_NoNumber rfl))) aI) (ae (aP (aw cw (pv 0) (jR (v:=.int 1000000000) rfl g_GREATEST ⟨_,rfl⟩) (az _)) (ai (bZ (i7 x_TooFar (hr.mono (by decide)) rfl (aa (pv 0) af)))) aI) (gF.l9 (ae (aq (i:=1) nd rfl (Or.inl rfl) (dG af)) (ae (aq (i:=2) nd rfl (Or.inl rfl) (pv 0)) (ae (aq (i:=3) nd rfl (Or.inl rfl) ah) (ae (bf PassesOwn.never (aw cw (pv 2) ah (az _)) (ae (aq (i:=3) nd rfl (Or.inl rfl) (aj c_least_divisor_from (hr.mono (by decide)) rfl aG (aa (pv 2) (aa (pv 3) af)))) (ae (aq (i:=4) nd rfl (Or.inl rfl) ah) (ae (bf PassesOwn.never (aw bO (av aK (pv 2) (pv 3)) ah (az _)) (ae (dI (i:=2) nd rfl (Or.inl rfl) (pv 3) (fJ kr)) (ai (dI (i:=4) nd rfl (Or.inl rfl) ah (fJ gh))))) (ai (dW (sG PySem.F.plainAttrs_list PySem.F.slot_list_append PySem.F.type_list_append gj (pv 1) (aa (aM (aa (pv 3) (aa (pv 4) af))) af)))))))) (ai (aC (pv 1)))))))))),?_⟩
 show bz _ _ _ [some (.int n),none,none,none,none] H
 k_data
 refine aR (fun c=>?_) (fun c=>?_)
 ·exact fun x hx=>dy x_NoNumber.cls (aF.refl _) hx (q1 c)
 refine aR (fun c'=>?_) (fun c'=>?_)
 ·exact fun x dx hx hdx ne=>gf x_TooFar.cls (aF.refl _) hx hdx ne (q2 (by omega))
 refine⟨by decide,fun pp hpp=>?_⟩
 have n1:n≤10^9:=by omega
 refine bh (α:=Int × Int × Option V) (fun x=>[some (.int n),some (.ref pp),some (.int x.1),some (.int x.2.1),x.2.2]) (fun x H1=>aF H H1∧∃(ps:List (Int × Int)) (us:List V),H1 pp=some (.lst us)∧aQ K H1 (ps.map jG) us∧Num.Way n ps x.1 x.2.1) (fun x=>x.1.toNat) (n,2,none) rfl ⟨ao hpp,[],[],ag,rfl,.start (by omega)⟩ ?_
 rintro⟨left,prime,o⟩ H1 ⟨hs,ps,us,epp,hd,W⟩
 replace W:Num.Way n ps left prime:=W
 have l1:=W.pos
 have ln:left≤n:=by
  have z:=W.two
  have p0:=Num.bG (show (0:Int)<2 by decide) ps.length
  have:=Int.mul_le_mul_of_nonneg_right (show (1:Int)≤2^ps.length by omega) (show 0≤left by omega)
  omega
 k_data
 refine aR (fun c3=>?_) (fun c3=>?_)
 ·have pl:prime≤10^120:=by
   rcases (by omega:prime≤left∨left<prime) with z | z
   ·omega
   ·exact absurd (Int.dvd_refl left) (W.inv.no left (by omega) z)
  refine⟨_,fun _ _ z=>z,left,prime,rfl,by omega,by omega,pl,W.inv,fun r hL=>?_⟩
  have r2:=hL.two
  have rl:=hL.le (by omega)
  refine bh (α:=Int × Nat) (fun x=>[some (.int n),some (.ref pp),some (.int x.1),some (.int r),some (.int (x.2:Int))]) (fun x H2=>H2=H1∧left=r^x.2*x.1∧1≤x.1∧x.1≤left) (fun x=>x.1.toNat) (left,0) rfl ⟨rfl,by rw [Int.pow_zero,Int.one_mul],by omega,Int.le_refl _⟩ ?_
  rintro⟨lf,k⟩ H2 ⟨rfl,e1,e2,e3⟩
  replace e1:left=r^k*lf:=e1
  replace e2:1≤lf:=e2
  replace e3:lf≤left:=e3
  k_data
  refine⟨by omega,?_⟩
  refine aR (fun c4=>?_) (fun c4=>?_)
  ·obtain⟨q,hq⟩:=Int.dvd_of_emod_eq_zero c4
   have ed:lf/r=q:=by rw [hq];exact Int.mul_ediv_cancel_left _ (by omega)
   have q1':1≤q:=by
    rcases (by omega:q≤0∨1≤q) with z | z
    ·have:=Int.mul_nonpos_of_nonneg_of_nonpos (show 0≤r by omega) z
     omega
    ·exact z
   have ql:q<lf:=by
    rw [hq]
    have:=Int.mul_le_mul_of_nonneg_right r2 (show 0≤q by omega)
    omega
   refine⟨_,fun _ _ z=>z,by omega,Bd.of (by omega) (by omega),(q,k+1),?_,rfl,?_,q1',?_,?_⟩
   ·rw [ed];rfl
   ·rw [e1,hq,Int.pow_succ,Int.mul_assoc]
   ·show q≤left
    omega
   ·show q.toNat<lf.toNat
    omega
  ·have ng:¬r∣lf:=fun z=>c4 (Int.emod_eq_zero_of_dvd z)
   have k1:1≤k:=by
    cases k with
    | zero=>rw [Int.pow_zero,Int.one_mul] at e1;exact absurd (e1▸hL.dv) ng
    | succ k=>omega
   have W2:=W.step n1 c3 hL e1 e2 k1 ng
   have len:=W.len n1
   have ul:us.length=ps.length:=by rw [hd.length,List.length_map]
   have lt:lf<left:=by
    obtain⟨k',rfl⟩:∃ k',k=k'+1:=⟨k-1,by omega⟩
    have p0:=Num.bG (show 0<r by omega) k'
    have h1:r≤r^(k'+1):=by
     rw [Int.pow_succ]
     have:=Int.mul_le_mul_of_nonneg_right (show 1≤r^k' by omega) (show 0≤r by omega)
     omega
    have:=Int.mul_le_mul_of_nonneg_right (show 2≤r^(k'+1) by omega) (show 0≤lf by omega)
    omega
   refine⟨.inl ⟨rfl,_,aZ.of epp⟩,by show 2≤sizeLine;decide,fun pt hpt=>?_⟩
   have s2:=ao (o:=.tup [V.int r,V.int (k:Int)]) hpt
   have npt:pp≠pt:=fun z=>by rw [← z,epp] at hpt;cases hpt
   have el:=s2 _ _ epp
   have et:upd H2 pt (.tup [V.int r,V.int (k:Int)]) pt=some (.tup [V.int r,V.int (k:Int)]):=ag
   have hd2:=aQ.same s2 _ hd
   have S2:=hs.trans s2
   generalize upd H2 pt _=H3 at *
   refine⟨pp,us,.ref pt,rfl,rfl,el,Nat.lt_of_le_of_lt (show us.length≤29 by omega) (by decide),(lf,r,some (.int (k:Int))),rfl,rfl,rfl,S2.upd hpp,⟨ps++[(r,(k:Int))],us++[.ref pt],ag,?_,W2⟩,?_⟩
   ·rw [List.map_append]
    refine aQ.append (aQ.but el (fun b o ne h=>by rw [au ne];exact h) _ (iy (fun _=>rfl) ps) hd2) (.one (dv.tup (xs:=[V.int r,V.int (k:Int)]) ?_ ⟨_,_,rfl,rfl,.one rfl⟩))
    rw [au (Ne.symm npt)]
    exact et
   ·show lf.toNat<left.toNat
    omega
 ·have z:left=1:=by omega
  subst z
  exact q3 (by omega) n1 ps us pp H1 W.done (W.len n1) hs hpp epp hd
end
end K
namespace L2
open PySem PySem.Spec PyProof.Rows
theorem cj {X:Cx} (K:PySem.W.Frag) (h:X.K=K):CK X (Br K):=h▸bB
theorem dU {X:Cx} {pos:Pos} {es:List Expr} {k:Nat} {t:zU} {n:Nat} (K:PySem.W.Frag) (e:X.K=K) (hc:X.calm=true) (h:B6 X es t)
  (hn:(assignEach es X.env).length=n:=by rfl) (hst:(assignEach es X.env).findIdx? (·.1)=none:=by rfl):PG X (.Tuple es k pos) (oU K n t):=e▸cu hc h hn hst
end L2
namespace K
open PySem PySem.Spec PyProof.Rows L2
section
variable {P:Program} {w:World} {K:PySem.W.Frag} {mg:Str→Option Value} {base:Heap}
theorem aJ {X:Cx}:Passes (c6 P w) X E0:=by
 intro pins σ H1 s1 e s' I hq
 obtain⟨x,C,T,dd,H',_,_,_,_,_,_,_,_,_,_,z⟩:=hq
 exact z.elim
theorem cf {H:Hp} {q:Addr} {xs:List V} {k:Int} {v:V} {Q:VK} (t:bD K H q xs) (e:vc xs k=some v) (h:Q v H):Br K (.ref q) (.int k) H Q:=⟨q,xs,k,v,rfl,rfl,t,e,h⟩
theorem lu {x:V} {r:List V}:vc (x::r) 0=some x:=by
 unfold vc Ac
 simp
def DX (row:PyData) (q:Int):Prop:=∃ ds es,row=.tuple (.tuple (.int q::ds)::es)
def CU (rows:List PyData) (qs:List Int):Prop:=rows.length=qs.length∧∀(i:Nat) (row:PyData),rows[i]?=some row→∃ q,qs[i]?=some q∧DX row q
def fm (K:PySem.W.Frag):Sp:=fun vs H Q _=>∃ v rows qs,vs=[v]∧dv K H (.tuple rows) v∧CU rows qs∧rows.length≤10^6∧∀ p H',aF H H'→H p=none→H' p=some (.lst (qs.map V.int))→Q (.ref p) H'
theorem iG:aA [("parts":Str)] [("parts":Str)] (ak (top 20)):=⟨rfl,rfl,rfl,by decide +kernel,rfl,by decide +kernel,by decide +kernel⟩
theorem pI (D:ax K mg "primes_in" (top 20)):Callee P w K mg base aO 1 "primes_in" [("parts":Str)] (fm K):=by
 refine aB D (fun _ _ _ _ _ _ us hl=>by obtain⟨_,rfl⟩:=cI hl;exact rfl) iG (fun vs H Q E h=>by obtain⟨a,_,_,rfl,_⟩:=h;rfl) (fun f cdv A outer s H vs Q E hr h=>?_)
 obtain⟨v,rows,qs,rfl,hd,⟨hl,hq⟩,h6,q⟩:=h
 have nd:=iG.nd
 refine⟨_,(ai (aC (fO rfl (cJ (N':=["row"]) (js:=[none]) rfl rfl (by decide +kernel) (by decide +kernel) (by repeat (first | exact True.intro | refine⟨rfl,?_⟩)) (by repeat (first | exact True.intro | refine⟨rfl,?_⟩ | refine⟨True.intro,?_⟩)) (by repeat (first | exact True.intro | refine⟨⟨rfl,rfl,.inl rfl,.inl rfl⟩,?_⟩))) (kL (pv 0)) (fun _ _ _ _=>(ay (i:=0) (show List.Nodup [("row":Str)] from by decide +kernel) rfl (Or.inl rfl) (.inr rfl))) (fun _ _ _ _=>bQ) (fun _ _ _ _=>(aV (cj K rfl) (aV (cj K rfl) (pv 0) ah (fun _ _=>rfl)) ah (fun _ _=>rfl)))))),?_⟩
 show h7 _ _ [some v] H
 obtain⟨p,xs,rfl,hS,ht⟩:=hd
 k_data
 have xl:=ht.length
 refine⟨⟨_,hS⟩,?_⟩
 refine gb (xs:=xs) (fun i zs H3=>H3=H∧zs=(qs.take i).map V.int) ⟨rfl,rfl⟩ (Nat.le_trans (by omega) (show 10^6≤sizeLine by decide)) (fun i zs H3 hi ⟨e1,e2⟩=>⟨by rw [e1];exact hS,by rw [e2];simp;omega⟩) ?_ ?_
 ·rintro i x zs H3 hx ⟨rfl,rfl⟩
  obtain⟨d,hd,hv⟩:=ht.get hx
  obtain⟨q',hq',ds,es,rfl⟩:=hq i d hd
  obtain⟨p1,x1,rfl,t1,u,r1,rfl,hv2,_⟩:=hv
  obtain⟨p2,x2,rfl,t2,u',r2,rfl,hv3,_⟩:=hv2
  cases hv3
  show cQ 0 _ [none] _ _
  k_data
  refine⟨True.intro,cf t1 lu (cf t2 lu ⟨rfl,?_⟩)⟩
  rw [List.take_add_one,hq',List.map_append]
  rfl
 ·rintro zs H3 p3 ⟨rfl,rfl⟩ hp3
  rw [show xs.length=qs.length by omega,List.take_length]
  exact q p3 _ (ao hp3) hp3 ag
def C2 (n a e:Int) (qs:List Int):Prop:=a^e.toNat%n=1∧∀ q∈qs,a^(e/q).toNat%n≠1
def mB (K:PySem.W.Frag):Sp:=fun vs H Q _=>∃(n a e:Int) (p:Addr) (qs:List Int),vs=[.int n,.int a,.int e,.ref p]∧0<n∧n≤10^120∧0≤e∧e≤10^120∧aZ K H p (qs.map V.int)∧(∀ q∈qs,0<q∧q≤10^120)∧qs.length≤10^6∧∀ b H',(b=true↔C2 n a e qs)→aF H H'→Q (.bl b) H'
theorem jt:aA [("n":Str),("a":Str),("e":Str),("primes":Str)] [("n":Str),("a":Str),("e":Str),("primes":Str)] (ak (top 24)):=⟨rfl,rfl,rfl,by decide +kernel,rfl,by decide +kernel,by decide +kernel⟩
theorem rb {C:Addr} (D:ax K mg "is_least" (top 24)) (c_power:Callee P w K mg base (c6 P w) 4 "power" ["n","a","e"] (cF C)) (n_all:mg "all"=none):Callee P w K mg base aO 5 "is_least" [("n":Str),("a":Str),("e":Str),("primes":Str)] (mB K):=by
 refine aB D (fun _ _ _ _ _ _ us hl=>by obtain⟨_,_,_,_,rfl⟩:=sk hl;exact rfl) jt (fun vs H Q E h=>by obtain⟨_,_,_,_,_,rfl,_⟩:=h;rfl) (fun f cdv A outer s H vs Q E hr h=>?_)
 obtain⟨n,a,e,p,qs,rfl,hn,hn1,he,he1,hS,hq,hl,q⟩:=h
 have nd:=jt.nd
 refine⟨_,(ai (aC (ni (dh bO (aj c_power (hr.mono (by decide)) rfl aJ (aa (pv 0) (aa (pv 1) (aa (pv 2) af)))) ah (az _)) (nj (aH (ou rfl) rfl n_all L2.boot_all (aa (fO rfl (cJ (N':=["prime","n","a","e"]) (js:=[none,some 0,some 1,some 2]) rfl rfl (by decide +kernel) (by decide +kernel) (by repeat (first | exact True.intro | refine⟨rfl,?_⟩)) (by repeat (first | exact True.intro | refine⟨rfl,?_⟩ | refine⟨True.intro,?_⟩)) (by repeat (first | exact True.intro | refine⟨⟨rfl,rfl,.inl rfl,.inl rfl⟩,?_⟩))) (cp (pv 3)) (fun _ _ _ _=>(ay (i:=0) (show List.Nodup [("prime":Str),("n":Str),("a":Str),("e":Str)] from by decide +kernel) rfl (Or.inl rfl) (.inr rfl))) (fun _ _ _ _=>bQ) (fun _ _ _ _=>(dh dS (aj c_power (hr.mono (by decide)) rfl aJ (aa (pv 1) (aa (pv 2) (aa (av aU (pv 3) (pv 0)) af)))) ah (az _)))) af)))))),?_⟩
 show h7 _ _ [some (.int n),some (.int a),some (.int e),some (.ref p)] H
 k_data
 refine⟨n,a,e,rfl,hn,hn1,fun _ H1 s1=>?_,fun z=>absurd z (by omega)⟩
 have hS1:=hS.same s1
 k_data
 refine aR (fun c=>?_) (fun c=>?_)
 ·refine⟨⟨_,hS1⟩,?_⟩
  refine bW (xs:=qs.map V.int) (fun i zs H3=>aF H H3∧zs=((qs.take i).map fun q=>decide (a^(e/q).toNat%n≠1)).map V.bl) ⟨s1,rfl⟩ (by rw [List.length_map];exact Nat.le_trans hl (show 10^6≤sizeLine by decide)) (fun i zs H3 hi ⟨e1,e2⟩=>⟨hS.same e1,by rw [e2];simp;omega⟩) ?_ ?_
  ·rintro i x zs H3 hx ⟨s3,rfl⟩
   rw [List.getElem?_map] at hx
   obtain⟨y,hy,rfl⟩:=Option.map_eq_some_iff.mp hx
   have my:=hq y (List.mem_of_getElem? hy)
   show cQ 0 _ [none,some (.int n),some (.int a),some (.int e)] _ _
   k_data
   refine⟨⟨rfl,rfl,rfl,True.intro⟩,my.1,Bd.of (by omega) (by omega),n,a,e/y,rfl,hn,hn1,fun _ H4 s4=>⟨nG,?_⟩,fun z=>absurd (Int.ediv_nonneg he (show 0≤y by omega)) (by omega)⟩
   refine⟨s3.trans s4,?_⟩
   rw [List.take_add_one,hy,List.map_append,List.map_append]
   simp
  ·rintro zs H3 p3 ⟨s3,rfl⟩ hp3
   rw [List.length_map,List.take_length]
   refine vm (bs:=qs.map fun q=>decide (a^(e/q).toNat%n≠1)) (aZ.of ag) ?_
   refine q _ _ ?_ (s3.trans (ao hp3))
   rw [List.all_eq_true]
   constructor
   ·intro h
    refine⟨c,fun y hy=>?_⟩
    have:=h _ (List.mem_map.mpr ⟨y,hy,rfl⟩)
    simpa using this
   ·intro h b hb
    obtain⟨y,hy,rfl⟩:=List.mem_map.mp hb
    simpa using h.2 y hy
 ·exact q false _ ⟨fun z=>(by cases z),fun z=>absurd z.1 c⟩ s1
theorem eC {n x:Int} (hn:2≤n):x%n=1↔Num.Al n x 1:=by
 constructor
 ·intro h
  refine⟨x/n,?_⟩
  have:=Int.emod_add_mul_ediv x n
  omega
 ·rintro⟨k,hk⟩
  rw [show x=1+n*k by omega,Int.add_mul_emod_self_left]
  exact Int.emod_eq_of_lt (by omega) (by omega)
theorem yR {n a e:Int} {ps:List (Int × Int)} (hn:2≤n) (h:Num.Part e ps) (he:1≤e):C2 n a e (ps.map (·.1))↔Num.Ord n a e.toNat:=by
 rw [← Num.wM h he]
 unfold C2
 rw [eC hn]
 constructor
 ·exact fun⟨h1,h2⟩=>⟨h1,fun q hq z=>h2 q hq ((eC hn).mpr z)⟩
 ·exact fun⟨h1,h2⟩=>⟨h1,fun q hq z=>h2 q hq ((eC hn).mp z)⟩
theorem fL (P:Int→Prop) {g:Int} (h1:1≤g) (h:P g):∃ m,1≤m∧m≤g∧P m∧∀ a,1≤a→a<m→¬P a:=by
 have:∀(k:Nat) (g:Int),g.toNat=k→1≤g→P g→∃ m,1≤m∧m≤g∧P m∧∀ a,1≤a→a<m→¬P a:=by
  intro k
  induction k using Nat.strongRecOn with
  | ind k ih =>
   intro g hk h1 hg
   by_cases c:∃ a,1≤a∧a<g∧P a
   ·obtain⟨a,a1,a2,a3⟩:=c
    obtain⟨m,m1,m2,m3,m4⟩:=ih a.toNat (by omega) a rfl a1 a3
    exact⟨m,m1,by omega,m3,m4⟩
   ·exact⟨g,h1,Int.le_refl _,hg,fun a a1 a2 a3=>c ⟨a,a1,a2,a3⟩⟩
 exact this _ g rfl h1 h
theorem Cj {p:Int} (hp:Num.Pm p):∃ g,Num.LF p g:=by
 obtain⟨g,g1,g2,g3⟩:=Num.yL hp
 obtain⟨m,m1,m2,m3,m4⟩:=fL (fun a=>Num.Ord p a (p-1).toNat) g1 g3
 exact⟨m,m1,by omega,m3,m4⟩
def fX (K:PySem.W.Frag):Sp:=fun vs H Q _=>∃(n:Int) (p:Addr) (ps:List (Int × Int)),vs=[.int n,.ref p]∧Num.Pm n∧n≤10^9∧Num.Part (n-1) ps∧ps.length≤29∧aZ K H p (ps.map fun x=>V.int x.1)∧∀ g H',Num.LF n g→aF H H'→Q (.int g) H'
theorem sF {n:Int} {ps:List (Int × Int)} (h:Num.Part n ps) (hn:1≤n):∀ q∈ps.map (·.1),2≤q∧q≤n:=fun q hq=>by
 obtain⟨x,hx,rfl⟩:=List.mem_map.mp hq
 obtain⟨o1,o2,_⟩:=h.ok x hx
 have:=Num.eJ hx o2
 rw [h.prod] at this
 exact⟨o1.two,Int.le_of_dvd (by omega) this⟩
theorem gM:aA [("p":Str),("primes":Str),("full":Str)] [("p":Str),("primes":Str)] (ak (top 59)):=⟨rfl,rfl,rfl,by decide +kernel,rfl,by decide +kernel,by decide +kernel⟩
theorem m8 (D:ax K mg "least_full" (top 59)) (c_is_least:Callee P w K mg base aO 5 "is_least" ["n","a","e","primes"] (mB K)):Callee P w K mg base aO 6 "least_full" [("p":Str),("primes":Str)] (fX K):=by
 refine aB D (fun _ _ _ _ _ _ us hl=>by obtain⟨_,_,rfl⟩:=cL hl;exact rfl) gM (fun vs H Q E h=>by obtain⟨_,_,_,rfl,_⟩:=h;rfl) (fun f cdv A outer s H vs Q E hr h=>?_)
 obtain⟨n,p,ps,rfl,hp,hn,hP,hl,hS,q⟩:=h
 have n2:=hp.two
 obtain⟨g,G⟩:=Cj hp
 have g1:=G.one
 have g2:=G.lt
 have nd:=gM.nd
 refine⟨_,(ae (aq (i:=2) nd rfl (Or.inl rfl) ah) (ae (bf PassesOwn.never (fj (bN (aj c_is_least (hr.mono (by decide)) rfl aG (aa (pv 0) (aa (pv 2) (aa (av bY (pv 0) ah) (aa (pv 1) af))))) (fun _=>rfl))) (ai (dI (i:=2) nd rfl (Or.inl rfl) ah (fJ gh)))) (ai (aC (pv 2))))),?_⟩
 show bz _ _ _ [some (.int n),some (.ref p),none] H
 k_data
 refine bh (α:=Int) (fun x=>[some (.int n),some (.ref p),some (.int x)]) (fun x H1=>aF H H1∧1≤x∧x≤g) (fun x=>(g-x).toNat) 1 rfl ⟨aF.refl _,Int.le_refl _,g1⟩ ?_
 rintro x H1 ⟨s1,x1,x2⟩
 replace x1:1≤x:=x1
 replace x2:x≤g:=x2
 k_data
 refine⟨n,x,n-1,p,ps.map (·.1),rfl,by omega,by omega,by omega,by omega,?_,fun y hy=>?_,?_,fun b H2 hb s2=>?_⟩
 ·rw [List.map_map];exact hS.same s1
 ·have:=sF hP (by omega) y hy
  omega
 ·rw [List.length_map];exact Nat.le_trans hl (by decide)
 rw [yR n2 hP (by omega)] at hb
 refine⟨b,bK.mpr rfl,?_⟩
 cases b
 ·have nx:¬Num.Ord n x (n-1).toNat:=fun z=>by have:=hb.mpr z;cases this
  have ne:x≠g:=fun z=>nx (z▸G.ord)
  refine⟨_,fun _ _ z=>z,x+1,rfl,s1.trans s2,by omega,by omega,by omega⟩
 ·have hx:=hb.mp rfl
  have xg:x=g:=by
   rcases (by omega:x=g∨x<g) with z | z
   ·exact z
   ·exact absurd hx (G.no x x1 z)
  rw [xg]
  exact q g H2 G (s1.trans s2)
end
end K
namespace K
open PySem PySem.Spec PyProof.Rows L2
section
variable {P:Program} {w:World} {K:PySem.W.Frag} {mg:Str→Option Value} {base:Heap}
theorem pV {ps:List (Int × Int)} {p:Int × Int} {ds ds':Nat→PyData} (h:∀ j,j<ps.length→ds' j=ds j):Num.rowsOf (ps++[p]) ds'=Num.rowsOf ps ds++[.tuple [ds' ps.length,.int p.2]]:=by
 unfold Num.rowsOf
 rw [List.length_append,List.length_singleton,List.range_succ,List.map_append]
 congr 1
 ·refine List.map_congr_left fun j hj=>?_
  have:=List.mem_range.mp hj
  rw [h j this,List.getD_eq_getElem?_getD,List.getD_eq_getElem?_getD,List.getElem?_append_left this]
 ·simp
theorem vR {ps:List (Int × Int)} {ds:Nat→PyData} (h:∀ i q k,ps[i]?=some (q,k)→Num.iV q (ds i)):CU (Num.rowsOf ps ds) (ps.map (·.1)):=by
 refine⟨by rw [Num.bJ,List.length_map],fun i row hi=>?_⟩
 have hl:=(List.getElem?_eq_some_iff.mp hi).1
 rw [Num.bJ] at hl
 have hg:=List.getElem?_eq_getElem hl
 rw [Num.hJ hg] at hi
 obtain⟨g,rows,e⟩:=(h i _ _ hg).head
 exact⟨ps[i].1,by rw [List.getElem?_map,hg];rfl,[.int g,.tuple rows],[.int ps[i].2],by rw [← Option.some.inj hi,e];rfl⟩
theorem iW {H:Hp} {q k:Int} {v:V} (h:dv K H (jG (q,k)) v):∃ p,v=.ref p∧bD K H p [.int q,.int k]:=by
 obtain⟨p,xs,rfl,h1,x,r,rfl,d1,y,r',rfl,d2,h4⟩:=h
 cases h4
 cases d1
 cases d2
 exact⟨p,rfl,h1⟩
def gv (K:PySem.W.Frag) (L:Nat):Sp:=fun vs H Q _=>∃ n:Int,vs=[.int n]∧Num.Pm n∧n≤10^9∧Num.Ht L n∧∀ d v H',Num.iV n d→aF H H'→dv K H' d v→Q v H'
def ja (K:PySem.W.Frag) (L:Nat):Sp:=fun vs H Q _=>∃ n:Int,vs=[.int n]∧1≤n∧n≤10^9∧(∀ q,Num.Pm q→q∣n→Num.Ht L q)∧∀ ps ds v H',Num.Part n ps→ps.length≤29→(∀ i q k,ps[i]?=some (q,k)→Num.iV q (ds i))→aF H H'→dv K H' (.tuple (Num.rowsOf ps ds)) v→Q v H'
theorem dN:aA [("n":Str),("least":Str),("parts":Str)] [("n":Str)] (ak (top 57)):=⟨rfl,rfl,rfl,by decide +kernel,rfl,by decide +kernel,by decide +kernel⟩
theorem uv {L:Nat} {c1 c2 c3:Addr} (D:ax K mg "prime_paper" (top 57)) (c_least_divisor:Callee P w K mg base (c6 P w) 3 "least_divisor" ["n"] (nM c1 c2)) (c_parting_paper:Callee P w K mg base aO (2*L+8) "parting_paper" ["n"] (ja K L)) (c_least_full:Callee P w K mg base aO 6 "least_full" ["p","primes"] (fX K)) (c_primes_in:Callee P w K mg base aO 1 "primes_in" ["parts"] (fm K)) (x_NoPrime:mN P w K mg base "NoPrime" c3 "divisor"):Callee P w K mg base (c6 P w) (2*L+9) "prime_paper" [("n":Str)] (gv K (L+1)):=by
 refine bH D (fun _ _ _ _ _ _ us hl=>by obtain⟨_,rfl⟩:=cI hl;exact rfl) dN (fun vs H Q E h=>by obtain⟨_,rfl,_⟩:=h;rfl) (fun f cdv A outer s H vs Q E hr h=>?_)
 obtain⟨n,rfl,hp,hn,hH,q⟩:=h
 have n2:=hp.two
 have nd:=dN.nd
 refine⟨_,(ae (aq (i:=1) nd rfl (Or.inl rfl) (aj c_least_divisor (hr.mono (by omega)) rfl aJ (aa (pv 0) af))) (ae (aP (aw dR (pv 1) (pv 0) (az _)) (ai (bZ (i7 x_NoPrime (hr.mono (by omega)) rfl (aa (pv 1) af)))) aI) (gF.l9 (ae (aq (i:=2) nd rfl (Or.inl rfl) (aj c_parting_paper (hr.mono (by omega)) rfl aG (aa (av bY (pv 0) ah) af))) (ai (aC (aM (aa (pv 0) (aa (aj c_least_full (hr.mono (by omega)) rfl aG (aa (pv 0) (aa (aj c_primes_in (hr.mono (by omega)) rfl aG (aa (pv 2) af)) af))) (aa (pv 2) af)))))))))),?_⟩
 show bz _ _ _ [some (.int n),none,none] H
 k_data
 refine⟨n,rfl,fun z=>absurd z (by omega),fun z=>absurd z (by omega),fun _ _ r hL=>⟨r,rfl,?_⟩⟩
 have rn:r=n:=by
  have:=hL.le (by omega)
  rcases (by omega:r<n∨r=n) with z | z
  ·exact absurd hL.dv (hp.no r hL.two z)
  ·exact z
 rw [if_neg (by omega)]
 refine⟨n-1,rfl,by omega,by omega,hH,fun ps ds v H1 hP hl hds s1 hv=>?_⟩
 refine⟨v,Num.rowsOf ps ds,ps.map (·.1),rfl,hv,vR hds,by rw [Num.bJ];exact Nat.le_trans hl (by decide),fun p H2 s2 f2 h2=>?_⟩
 rw [List.map_map] at h2
 refine⟨n,p,ps,rfl,hp,hn,hP,hl,aZ.of h2,fun g H3 hg s3=>⟨by show 3≤sizeLine;decide,fun p3 hp3=>?_⟩⟩
 have s4:=ao (o:=.tup [V.int n,V.int g,v]) hp3
 exact q _ _ _ (.mk n g ps ds hp hn hg hP hl hds) (((s1.trans s2).trans s3).trans s4) (dv.tup ag ⟨_,_,rfl,rfl,_,_,rfl,rfl,.one (dv.same ((s2.trans s3).trans s4) _ hv)⟩)
theorem eY:aA [("n":Str)] [("n":Str)] (ak (top 58)):=⟨rfl,rfl,rfl,by decide +kernel,rfl,by decide +kernel,by decide +kernel⟩
theorem jk {L:Nat} {c1 c2:Addr} (D:ax K mg "parting_paper" (top 58)) (c_parted:Callee P w K mg base (c6 P w) 3 "parted" ["n"] (k9 K c1 c2)) (c_prime_paper:Callee P w K mg base (c6 P w) (2*L+7) "prime_paper" ["n"] (gv K L)) (n_tuple:mg "tuple"=none):Callee P w K mg base aO (2*L+8) "parting_paper" [("n":Str)] (ja K L):=by
 refine aB D (fun _ _ _ _ _ _ us hl=>by obtain⟨_,rfl⟩:=cI hl;exact rfl) eY (fun vs H Q E h=>by obtain⟨_,rfl,_⟩:=h;rfl) (fun f cdv A outer s H vs Q E hr h=>?_)
 obtain⟨n,rfl,n1,n9,hH,q⟩:=h
 have nd:=eY.nd
 refine⟨_,(ai (aC (dz cW rfl n_tuple L2.boot_tuple (aa (fO rfl (cJ (N':=["prime","many"]) (js:=[none,none]) rfl rfl (by decide +kernel) (by decide +kernel) (by repeat (first | exact True.intro | refine⟨rfl,?_⟩)) (by repeat (first | exact True.intro | refine⟨rfl,?_⟩ | refine⟨True.intro,?_⟩)) (by repeat (first | exact True.intro | refine⟨⟨rfl,rfl,.inl rfl,.inl rfl⟩,?_⟩))) (cp (aj c_parted (hr.mono (by omega)) rfl aJ (aa (pv 0) af))) (fun _ _ _ _=>(dU K rfl (n:=2) rfl (aD (ay (i:=0) (show List.Nodup [("prime":Str),("many":Str)] from by decide +kernel) rfl (Or.inl rfl) (.inr rfl)) (aD (ay (i:=1) (show List.Nodup [("prime":Str),("many":Str)] from by decide +kernel) rfl (Or.inl rfl) (.inr rfl)) aW)))) (fun _ _ _ _=>bQ) (fun _ _ _ _=>(aM (aa (aj c_prime_paper (hr.mono (by omega)) rfl aJ (aa (pv 0) af)) (aa (pv 1) af))))) af)))),?_⟩
 show h7 _ _ [some (.int n)] H
 k_data
 refine⟨n,rfl,fun z=>absurd z (by omega),fun z=>absurd z (by omega),fun _ _ ps us p H1 hP hl s1 f1 h1 hd=>⟨p,rfl,⟨_,aZ.of h1⟩,?_⟩⟩
 have ul:us.length=ps.length:=by rw [hd.length,List.length_map]
 refine bW (xs:=us) (fun i zs H3=>aF H1 H3∧∃ ds,(∀ j q k,(ps.take i)[j]?=some (q,k)→Num.iV q (ds j))∧aQ K H3 (Num.rowsOf (ps.take i) ds) zs) ⟨aF.refl _,fun _=>.none,fun j q k z=>by simp at z,rfl⟩ (by rw [ul];exact Nat.le_trans hl (by decide)) (fun i zs H3 hi ⟨e1,ds,e2,e3⟩=>⟨aZ.of (e1 _ _ h1),by rw [e3.length,Num.bJ,List.length_take];omega⟩) ?_ ?_
 ·rintro i x zs H3 hx ⟨s3,ds,hds,hz⟩
  obtain⟨d,hd',hv⟩:=hd.get hx
  rw [List.getElem?_map] at hd'
  obtain⟨⟨q',k'⟩,hy,rfl⟩:=Option.map_eq_some_iff.mp hd'
  obtain⟨pt,rfl,tt⟩:=iW hv
  have hok:=hP.ok _ (List.mem_of_getElem? hy)
  have hdv:q'∣n:=by
   have:=Num.eJ (List.mem_of_getElem? hy) hok.2.1
   rwa [hP.prod] at this
  have ql:q'≤n:=Int.le_of_dvd (by omega) hdv
  show oU K 2 _ _ [none,none] _ _
  refine⟨pt,_,rfl,tt.same s3,rfl,?_⟩
  k_data
  refine⟨True.intro,q',rfl,hok.1,by omega,hH q' hok.1 hdv,fun d v H4 hp4 s4 hv4=>⟨by show 2≤sizeLine;decide,fun p5 hp5=>?_⟩⟩
  have s5:=ao (o:=.tup [v,V.int k']) hp5
  have tk:ps.take (i+1)=ps.take i++[(q',k')]:=by rw [List.take_add_one,hy];rfl
  have il:i<ps.length:=(List.getElem?_eq_some_iff.mp hy).1
  have tl:(ps.take i).length=i:=by rw [List.length_take];omega
  refine⟨(s3.trans s4).trans s5,fun j=>if j=i then d else ds j,fun j q k hj=>?_,?_⟩
  ·rw [tk] at hj
   rcases (by omega:j<i∨j=i∨i<j) with z | z | z
   ·rw [List.getElem?_append_left (by omega)] at hj
    show Num.iV q (if j=i then d else ds j)
    rw [if_neg (by omega)]
    exact hds j q k hj
   ·subst z
    rw [List.getElem?_append_right (by omega),tl,Nat.sub_self] at hj
    show Num.iV q (if j=j then d else ds j)
    rw [if_pos rfl]
    cases hj
    exact hp4
   ·rw [List.getElem?_eq_none (by simp;omega)] at hj
    cases hj
  ·rw [tk,pV (ds:=ds) (fun j hj=>if_neg (by omega)),tl,if_pos rfl]
   exact aQ.append (aQ.same (s4.trans s5) _ hz) (.one (dv.tup ag ⟨_,_,rfl,dv.same s5 _ hv4,.one rfl⟩))
 ·rintro zs H3 p3 ⟨s3,ds,hds,hz⟩ hp3
  rw [ul,List.take_length] at hds hz
  have s4:=ao (o:=.lst zs) hp3
  refine⟨p3,rfl,zs,.inl ⟨aZ.of ag,fun l hl'=>?_⟩⟩
  generalize upd H3 p3 _=H4 at *
  have s5:=ao (o:=.tup zs) hl'
  exact q ps ds _ _ hP hl hds (((s1.trans s3).trans s4).trans s5) (dv.tup ag (aQ.same (s4.trans s5) _ hz))
theorem ma {L:Nat} (D:ax K mg "prime_paper" (top 57)):Callee P w K mg base (c6 P w) 7 "prime_paper" [("n":Str)] (gv K 0):=by
 refine bH D (fun _ _ _ _ _ _ us hl=>by obtain⟨_,rfl⟩:=cI hl;exact rfl) dN (fun vs H Q E h=>by obtain⟨_,rfl,_⟩:=h;rfl) (fun f cdv A outer s H vs Q E hr h=>?_)
 obtain⟨n,rfl,hp,hn,hH,q⟩:=h
 exact hH.elim
theorem me {c1 c2 c3:Addr} (D1:ax K mg "prime_paper" (top 57)) (D2:ax K mg "parting_paper" (top 58)) (c_least_divisor:Callee P w K mg base (c6 P w) 3 "least_divisor" ["n"] (nM c1 c2)) (c_parted:Callee P w K mg base (c6 P w) 3 "parted" ["n"] (k9 K c1 c2)) (c_least_full:Callee P w K mg base aO 6 "least_full" ["p","primes"] (fX K)) (c_primes_in:Callee P w K mg base aO 1 "primes_in" ["parts"] (fm K)) (x_NoPrime:mN P w K mg base "NoPrime" c3 "divisor") (n_tuple:mg "tuple"=none):∀ L:Nat,Callee P w K mg base (c6 P w) (2*L+7) "prime_paper" ["n"] (gv K L)∧Callee P w K mg base aO (2*L+8) "parting_paper" ["n"] (ja K L)
 | 0=>⟨ma (L:=0) D1,jk (L:=0) D2 c_parted (ma (L:=0) D1) n_tuple⟩
 | L+1=>by
  have h:=me D1 D2 c_least_divisor c_parted c_least_full c_primes_in x_NoPrime n_tuple L
  have a:=uv D1 c_least_divisor h.2 c_least_full c_primes_in x_NoPrime
  have a':Callee P w K mg base (c6 P w) (2*(L+1)+7) "prime_paper" ["n"] (gv K (L+1)):=a.mono (by omega)
  exact⟨a',jk D2 c_parted a' n_tuple⟩
def qc (K:PySem.W.Frag):Sp:=fun vs H Q _=>∃ n:Int,vs=[.int n]∧Num.Pm n∧n≤10^9∧∀ d v H',Num.iV n d→aF H H'→dv K H' d v→Q v H'
theorem Bk (h:Callee P w K mg base (c6 P w) (2*30+7) "prime_paper" ["n"] (gv K 30)):Callee P w K mg base (c6 P w) 67 "prime_paper" ["n"] (qc K) :=
 Callee.imp h fun vs H Q E z=>by
  obtain⟨n,h1,h2,h3,q⟩:=z
  exact⟨n,h1,h2,h3,Num.AQ h2 h3,q⟩
end
end K
namespace K
open PySem PySem.Spec PyProof.Rows L2
section
variable {P:Program} {w:World} {K:PySem.W.Frag} {mg:Str→Option Value} {base:Heap}
theorem jQ {n:Int} {d:PyData} (h:Num.iV n d):∃ g ps ds,d=.tuple [.int n,.int g,.tuple (Num.rowsOf ps ds)]∧Num.LF n g∧Num.Part (n-1) ps∧ps.length≤29∧∀ i q k,ps[i]?=some (q,k)→Num.iV q (ds i):=by
 cases h with
 | mk _ g ps ds h1 h2 h3 h4 h5 h6=>exact⟨g,ps,ds,rfl,h3,h4,h5,h6⟩
theorem iz {n:Int} {d:PyData} (h:Num.iV n d):Num.Pm n∧n≤10^9:=by
 cases h with
 | mk _ _ _ _ a b=>exact⟨a,b⟩
theorem qK {H:Hp} {d1 d2 d3:PyData} {v:V} (h:dv K H (.tuple [d1,d2,d3]) v):∃ p x1 x2 x3,v=.ref p∧bD K H p [x1,x2,x3]∧dv K H d1 x1∧dv K H d2 x2∧dv K H d3 x3:=by
 obtain⟨p,xs,rfl,h1,x1,r1,rfl,e1,x2,r2,rfl,e2,x3,r3,rfl,e3,z⟩:=h
 cases z
 exact⟨p,x1,x2,x3,rfl,h1,e1,e2,e3⟩
end
end K
namespace K
open PySem PySem.Spec PyProof.Rows L2
section
variable {P:Program} {w:World} {K:PySem.W.Frag} {mg:Str→Option Value} {base:Heap}
def DW (row:PyData) (y:Int × Int):Prop:=∃ ds,row=.tuple [.tuple (.int y.1::ds),.int y.2]
def yt (rows:List PyData) (ps:List (Int × Int)):Prop:=rows.length=ps.length∧∀(i:Nat) (row:PyData),rows[i]?=some row→∃ y,ps[i]?=some y∧DW row y
def nN (K:PySem.W.Frag):Sp:=fun vs H Q _=>∃(v:V) (rows:List PyData) (ps:List (Int × Int)),vs=[v]∧dv K H (.tuple rows) v∧yt rows ps∧rows.length≤10^6∧∀ p us H',aF H H'→H p=none→H' p=some (.lst us)→aQ K H' (ps.map jG) us→Q (.ref p) H'
theorem vQ {H:Hp} {rows:List PyData} {ps:List (Int × Int)} {xs:List V} (hd:aQ K H rows xs) (h:yt rows ps) {i:Nat} {x:V} (hx:xs[i]?=some x):∃ q k pt pq r,ps[i]?=some (q,k)∧x=.ref pt∧bD K H pt [.ref pq,.int k]∧bD K H pq (.int q::r):=by
 obtain⟨d,hd',hv⟩:=hd.get hx
 obtain⟨⟨q,k⟩,hy,ds,rfl⟩:=h.2 i d hd'
 obtain⟨pt,ys,rfl,h1,x1,r1,rfl,e1,x2,r2,rfl,e2,z⟩:=hv
 cases z
 obtain⟨pq,zs,rfl,h2,y1,r3,rfl,f1,f2⟩:=e1
 cases f1
 cases e2
 exact⟨q,k,pt,pq,r3,hy,rfl,h1,h2⟩
theorem bS:aA [("parts":Str)] [("parts":Str)] (ak (top 21)):=⟨rfl,rfl,rfl,by decide +kernel,rfl,by decide +kernel,by decide +kernel⟩
theorem pH (D:ax K mg "parting_in" (top 21)):Callee P w K mg base aO 1 "parting_in" [("parts":Str)] (nN K):=by
 refine aB D (fun _ _ _ _ _ _ us hl=>by obtain⟨_,rfl⟩:=cI hl;exact rfl) bS (fun vs H Q E h=>by obtain⟨a,_,_,rfl,_⟩:=h;rfl) (fun f cdv A outer s H vs Q E hr h=>?_)
 obtain⟨v,rows,ps,rfl,hd,hh,h6,q⟩:=h
 have nd:=bS.nd
 refine⟨_,(ai (aC (fO rfl (cJ (N':=["row"]) (js:=[none]) rfl rfl (by decide +kernel) (by decide +kernel) (by repeat (first | exact True.intro | refine⟨rfl,?_⟩)) (by repeat (first | exact True.intro | refine⟨rfl,?_⟩ | refine⟨True.intro,?_⟩)) (by repeat (first | exact True.intro | refine⟨⟨rfl,rfl,.inl rfl,.inl rfl⟩,?_⟩))) (kL (pv 0)) (fun _ _ _ _=>(ay (i:=0) (show List.Nodup [("row":Str)] from by decide +kernel) rfl (Or.inl rfl) (.inr rfl))) (fun _ _ _ _=>bQ) (fun _ _ _ _=>(aM (aa (aV (cj K rfl) (aV (cj K rfl) (pv 0) ah (fun _ _=>rfl)) ah (fun _ _=>rfl)) (aa (aV (cj K rfl) (pv 0) ah (fun _ _=>rfl)) af))))))),?_⟩
 show h7 _ _ [some v] H
 obtain⟨p,xs,rfl,hS,ht⟩:=hd
 have xl:=ht.length
 have rl:=hh.1
 k_data
 refine⟨⟨_,hS⟩,?_⟩
 refine gb (xs:=xs) (fun i zs H3=>aF H H3∧aQ K H3 ((ps.take i).map jG) zs) ⟨aF.refl _,rfl⟩ (Nat.le_trans (by omega) (show 10^6≤sizeLine by decide)) (fun i zs H3 hi ⟨e1,e2⟩=>⟨hS.same e1,by rw [e2.length,List.length_map,List.length_take];omega⟩) ?_ ?_
 ·rintro i x zs H3 hx ⟨s3,hz⟩
  obtain⟨q',k',pt,pq,r,hy,rfl,t1,t2⟩:=vQ ht hh hx
  show cQ 0 _ [none] _ _
  k_data
  refine⟨True.intro,cf (t1.same s3) lu (cf (t2.same s3) lu (cf (t1.same s3) rfl ⟨by show 2≤sizeLine;decide,fun p4 hp4=>?_⟩))⟩
  have s4:=ao (o:=.tup [V.int q',V.int k']) hp4
  refine⟨s3.trans s4,?_⟩
  rw [List.take_add_one,hy,List.map_append]
  exact aQ.append (aQ.same s4 _ hz) (.one (dv.tup ag ⟨_,_,rfl,rfl,.one rfl⟩))
 ·rintro zs H3 p3 ⟨s3,hz⟩ hp3
  rw [show xs.length=ps.length by omega,List.take_length] at hz
  exact q p3 zs _ (s3.trans (ao hp3)) (s3.free hp3) ag (aQ.same (ao hp3) _ hz)
def xH:Sp:=fun vs H Q _=>∃ n q:Int,vs=[.int n,.int q]∧0≤n∧n≤10^50∧2≤q∧q≤10^50∧∀ t:Nat,n≤q^(t+1)→Q (.int t) H
theorem gN:aA [("n":Str),("prime":Str),("times":Str),("product":Str)] [("n":Str),("prime":Str)] (ak (top 27)):=⟨rfl,rfl,rfl,by decide +kernel,rfl,by decide +kernel,by decide +kernel⟩
theorem y9 (D:ax K mg "most_times" (top 27)):Callee P w K mg base aO 1 "most_times" [("n":Str),("prime":Str)] xH:=by
 refine aB D (fun _ _ _ _ _ _ us hl=>by obtain⟨_,_,rfl⟩:=cL hl;exact rfl) gN (fun vs H Q E h=>by obtain⟨_,_,rfl,_⟩:=h;rfl) (fun f cdv A outer s H vs Q E hr h=>?_)
 obtain⟨n,q',rfl,n0,n9,q2,q9,q⟩:=h
 have nd:=gN.nd
 refine⟨_,(ae (aq (i:=2) nd rfl (Or.inl rfl) ah) (ae (aq (i:=3) nd rfl (Or.inl rfl) (pv 1)) (ae (bf PassesOwn.never (aw dR (pv 3) (pv 0) (az _)) (ae (dI (i:=3) nd rfl (Or.inl rfl) (pv 1) (fJ oX)) (ai (dI (i:=2) nd rfl (Or.inl rfl) ah (fJ gh))))) (ai (aC (pv 2)))))),?_⟩
 show bz _ _ _ [some (.int n),some (.int q'),none,none] H
 k_data
 refine bh (α:=Nat) (fun t=>[some (.int n),some (.int q'),some (.int (t:Int)),some (.int (q'^(t+1)))]) (fun t H1=>H1=H∧(t=0∨q'^t<n)) (fun t=>(n-q'^(t+1)).toNat) 0 (by rw [Int.pow_succ,Int.pow_zero,Int.one_mul];rfl) ⟨rfl,.inl rfl⟩ ?_
 rintro t H1 ⟨rfl,ht⟩
 replace ht:t=0∨q'^t<n:=ht
 have p0:0<q'^(t+1):=Num.bG (by omega) _
 k_data
 refine aR (fun c=>?_) (fun c=>?_)
 ·have up:q'^(t+1)*2≤q'^(t+1)*q':=Int.mul_le_mul_of_nonneg_left q2 (by omega)
  refine⟨_,fun _ _ z=>z,Bd.of (by omega) (by omega),Bd.of (by omega) (by omega),t+1,?_,rfl,.inr c,?_⟩
  ·rw [Int.pow_succ q' (t+1)];rfl
  ·show (n-q'^(t+1+1)).toNat<(n-q'^(t+1)).toNat
   rw [Int.pow_succ q' (t+1)]
   omega
 ·exact q t (by omega)
def iK (K:PySem.W.Frag):Sp:=fun vs H Q _=>∃(n a:Int) (p:Addr) (us:List V) (ps:List (Int × Int)),vs=[.int n,.int a,.ref p]∧0<n∧n≤10^60∧0≤a∧a<n∧H p=some (.lst us)∧aQ K H (ps.map jG) us∧(∀ y∈ps,2≤y.1∧0≤y.2∧y.2≤10^6)∧∀ H',aF H H'→Q (.int (a^Num.eN ps%n)) H'
theorem jL (ps:List (Int × Int)) (q k:Int):Num.eN (ps++[(q,k)])=Num.eN ps*q.toNat^k.toNat:=by
 rw [Num.cH]
 show Num.eN ps*(q.toNat^k.toNat*1)=_
 rw [Nat.mul_one]
theorem vI:∀{ps:List (Int × Int)},(∀ y∈ps,2≤y.1)→Num.eN ps≠0
 | [],_=>by decide
 | p::r,h=>by
  have:=h p (List.mem_cons_self ..)
  exact Nat.mul_ne_zero (Nat.ne_of_gt (Nat.pow_pos (by omega))) (vI fun y z=>h y (List.mem_cons_of_mem _ z))
theorem pow_step {n a q:Int} {M j:Nat} (n0:0<n):(a^(M*q.toNat^j)%n)^q.toNat%n=a^(M*q.toNat^(j+1))%n:=by
 rw [Num.Al.iff.mp ((Num.Al.rest n (a^(M*q.toNat^j))).pow q.toNat),Num.bp,Nat.pow_succ,Nat.mul_assoc]
theorem mv:aA [("n":Str),("a":Str),("parting":Str),("rest":Str),("prime":Str),("many":Str),("turn":Str)] [("n":Str),("a":Str),("parting":Str)] (ak (top 28)):=⟨rfl,rfl,rfl,by decide +kernel,rfl,by decide +kernel,by decide +kernel⟩
theorem uy {C:Addr} (D:ax K mg "raised" (top 28)) (c_power:Callee P w K mg base (c6 P w) 4 "power" ["n","a","e"] (cF C)) (n_range:mg "range"=none):Callee P w K mg base aO 5 "raised" [("n":Str),("a":Str),("parting":Str)] (iK K):=by
 refine aB D (fun _ _ _ _ _ _ us hl=>by obtain⟨_,_,_,rfl⟩:=dQ hl;exact rfl) mv (fun vs H Q E h=>by obtain⟨_,_,_,_,_,rfl,_⟩:=h;rfl) (fun f cdv A outer s H vs Q E hr h=>?_)
 obtain⟨n,a,p,us,ps,rfl,n0,n9,a0,a1,hp,hd,hok,q⟩:=h
 have nd:=mv.nd
 refine⟨_,(ae (aq (i:=3) nd rfl (Or.inl rfl) (pv 1)) (ae (cV PassesOwn.never rfl (cp (pv 2)) (cu (n:=2) rfl (aD (ay (i:=4) nd rfl (Or.inl rfl) (.inr rfl)) (aD (ay (i:=5) nd rfl (Or.inl rfl) (.inr rfl)) aW))) (ai (cV PassesOwn.never rfl (eR rfl n_range (aa (pv 5) af)) (ay (i:=6) nd rfl (Or.inl rfl) (.inr rfl)) (ai (aq (i:=3) nd rfl (Or.inl rfl) (aj c_power (hr.mono (by decide)) rfl aJ (aa (pv 0) (aa (pv 3) (aa (pv 4) af))))))))) (ai (aC (pv 3))))),?_⟩
 show bz _ _ _ [some (.int n),some (.int a),some (.ref p),none,none,none,none] H
 have ul:us.length=ps.length:=by rw [hd.length,List.length_map]
 k_data
 refine⟨⟨_,aZ.of hp⟩,?_⟩
 refine eO (xs:=us) (fun i σ' H'=>aF H H'∧∃ o4 o5 o6,σ'=[some (.int n),some (.int a),some (.ref p),some (.int (a^Num.eN (ps.take i)%n)),o4,o5,o6]) ⟨aF.refl _,none,none,none,?_⟩ (fun i σ' H' _ h=>aZ.of (h.1 _ _ hp)) ?_ ?_
 ·show _=[_,_,_,some (V.int (a^1%n)),none,none,none]
  rw [Int.pow_one,Int.emod_eq_of_lt a0 a1]
 ·rintro i x σ' H' hx ⟨s',o4,o5,o6,rfl⟩
  obtain⟨d,hd',hv⟩:=hd.get hx
  rw [List.getElem?_map] at hd'
  obtain⟨⟨q',k'⟩,hy,rfl⟩:=Option.map_eq_some_iff.mp hd'
  obtain⟨q2,k0,k6⟩:=hok _ (List.mem_of_getElem? hy)
  replace q2:2≤q':=q2
  replace k0:0≤k':=k0
  replace k6:k'≤10^6:=k6
  obtain⟨pt,rfl,tt⟩:=iW hv
  refine⟨pt,_,rfl,tt.same s',rfl,?_⟩
  k_data
  refine⟨by omega,by omega,?_⟩
  refine dF (fun j σ2 H2=>aF H H2∧∃ o6,σ2=[some (.int n),some (.int a),some (.ref p),some (.int (a^(Num.eN (ps.take i)*q'.toNat^j)%n)),some (.int q'),some (.int k'),o6]) ⟨s',o6,by rw [Nat.pow_zero,Nat.mul_one]⟩ ?_ ?_
  ·rintro j σ2 H2 hj ⟨s2,o6,rfl⟩
   k_data
   refine⟨n,_,q',rfl,n0,by omega,fun _ H3 s3=>⟨s2.trans s3,?_⟩,fun z=>absurd z (by omega)⟩
   rw [pow_step n0]
  ·rintro σ2 H2 ⟨s2,o6,rfl⟩
   refine⟨s2,some (.int q'),some (.int k'),o6,?_⟩
   rw [List.take_add_one,hy]
   show _=[_,_,_,some (V.int (a^Num.eN (ps.take i++[(q',k')])%n)),_,_,_]
   rw [jL]
 ·rintro σ' H' ⟨s',o4,o5,o6,rfl⟩
  rw [ul,List.take_length]
  k_data
  exact q H' s'
def nO:Sp:=fun vs H Q _=>∃(n a q:Int) (k:Nat),vs=[.int n,.int a,.int q]∧2≤n∧n≤10^60∧0≤a∧a<n∧2≤q∧a^q.toNat^k%n=1∧∀(t:Nat) H',t≤k→a^q.toNat^t%n=1→(∀ j,j<t→a^q.toNat^j%n≠1)→aF H H'→Q (.int t) H'
theorem fB:aA [("n":Str),("a":Str),("prime":Str),("times":Str),("rest":Str)] [("n":Str),("a":Str),("prime":Str)] (ak (top 30)):=⟨rfl,rfl,rfl,by decide +kernel,rfl,by decide +kernel,by decide +kernel⟩
theorem wH {C:Addr} (D:ax K mg "times_to_one" (top 30)) (c_power:Callee P w K mg base (c6 P w) 4 "power" ["n","a","e"] (cF C)):Callee P w K mg base aO 5 "times_to_one" [("n":Str),("a":Str),("prime":Str)] nO:=by
 refine aB D (fun _ _ _ _ _ _ us hl=>by obtain⟨_,_,_,rfl⟩:=dQ hl;exact rfl) fB (fun vs H Q E h=>by obtain⟨_,_,_,_,rfl,_⟩:=h;rfl) (fun f cdv A outer s H vs Q E hr h=>?_)
 obtain⟨n,a,q',k,rfl,n2,n9,a0,a1,q2,hk,q⟩:=h
 have nd:=fB.nd
 refine⟨_,(ae (aq (i:=3) nd rfl (Or.inl rfl) ah) (ae (aq (i:=4) nd rfl (Or.inl rfl) (pv 1)) (ae (bf PassesOwn.never (aw dS (pv 4) ah (az _)) (ae (aq (i:=4) nd rfl (Or.inl rfl) (aj c_power (hr.mono (by decide)) rfl aJ (aa (pv 0) (aa (pv 4) (aa (pv 2) af))))) (ai (dI (i:=3) nd rfl (Or.inl rfl) ah (fJ gh))))) (ai (aC (pv 3)))))),?_⟩
 show bz _ _ _ [some (.int n),some (.int a),some (.int q'),none,none] H
 k_data
 refine bh (α:=Nat) (fun t=>[some (.int n),some (.int a),some (.int q'),some (.int (t:Int)),some (.int (a^q'.toNat^t%n))]) (fun t H1=>aF H H1∧t≤k∧∀ j,j<t→a^q'.toNat^j%n≠1) (fun t=>k-t) 0 (by rw [Nat.pow_zero,Int.pow_one,Int.emod_eq_of_lt a0 a1];rfl) ⟨aF.refl _,Nat.zero_le _,fun j hj=>absurd hj (Nat.not_lt_zero _)⟩ ?_
 rintro t H1 ⟨s1,tk,no⟩
 replace tk:t≤k:=tk
 replace no:∀ j,j<t→a^q'.toNat^j%n≠1:=no
 k_data
 refine aR (fun c=>?_) (fun c=>?_)
 ·have tk':t≠k:=fun z=>c (z▸hk)
  refine⟨_,fun _ _ z=>z,n,_,q',rfl,by omega,by omega,fun _ H2 s2=>⟨t+1,?_,s1.trans s2,by omega,fun j hj=>?_,?_⟩,fun z=>absurd z (by omega)⟩
  ·have:=pow_step (n:=n) (a:=a) (M:=1) (q:=q') (j:=t) (by omega)
   rw [Nat.one_mul,Nat.one_mul] at this
   rw [this]
   rfl
  ·rcases (by omega:j<t∨j=t) with z | z
   ·exact no j z
   ·rw [z];exact c
  ·show k-(t+1)<k-t
   omega
 ·exact q t H1 tk (by simpa using c) no s1
def jU (K:PySem.W.Frag):Sp:=fun vs H Q _=>∃(p:Addr) (us:List V) (ps:List (Int × Int)),vs=[.ref p]∧H p=some (.lst us)∧aQ K H (ps.map jG) us∧(∀ y∈ps,2≤y.1∧0≤y.2∧y.2≤10^6)∧Num.eN ps≤10^100∧∀ H',aF H H'→Q (.int (Num.eN ps)) H'
theorem vH {ps:List (Int × Int)} (h:∀ y∈ps,2≤y.1) {i:Nat} {q k:Int} (hy:ps[i]?=some (q,k)) {j:Nat} (hj:j≤k.toNat):Num.eN (ps.take i)*q.toNat^j≤Num.eN ps∧q.toNat≤Num.eN (ps.take i)*q.toNat^k.toNat*Num.eN (ps.drop (i+1))*q.toNat:=by
 have pos:∀ l:List (Int × Int),(∀ y∈l,2≤y.1)→0<Num.eN l:=by
  intro l
  induction l with
  | nil=>intro _;exact Nat.one_pos
  | cons p r ih =>
   intro hl
   have:=hl p (List.mem_cons_self ..)
   exact Nat.mul_pos (Nat.pow_pos (by omega)) (ih fun y z=>hl y (List.mem_cons_of_mem _ z))
 have q2:2≤q:=h _ (List.mem_of_getElem? hy)
 have e:ps=ps.take i++[(q,k)]++ps.drop (i+1):=by
  have h1:ps.take (i+1)=ps.take i++[(q,k)]:=by rw [List.take_add_one,hy];rfl
  rw [← h1,List.take_append_drop]
 have p1:=pos (ps.take i) fun y z=>h y (List.mem_of_mem_take z)
 have p2:=pos (ps.drop (i+1)) fun y z=>h y (List.mem_of_mem_drop z)
 have e2:Num.eN ps=Num.eN (ps.take i)*q.toNat^k.toNat*Num.eN (ps.drop (i+1)):=by
  have:Num.eN ps=Num.eN (ps.take i++[(q,k)]++ps.drop (i+1)):=congrArg _ e
  rw [this,Num.cH,jL]
 have p3:0<q.toNat^k.toNat:=Nat.pow_pos (by omega)
 constructor
 ·rw [e2]
  refine Nat.le_trans (Nat.mul_le_mul_left _ (Nat.pow_le_pow_right (by omega) hj)) ?_
  exact Nat.le_mul_of_pos_right _ p2
 ·exact Nat.le_mul_of_pos_left _ (Nat.mul_pos (Nat.mul_pos p1 p3) p2)
theorem jx:aA [("parting":Str),("whole":Str),("prime":Str),("many":Str),("turn":Str)] [("parting":Str)] (ak (top 14)):=⟨rfl,rfl,rfl,by decide +kernel,rfl,by decide +kernel,by decide +kernel⟩
theorem wJ (D:ax K mg "whole_of" (top 14)) (n_range:mg "range"=none):Callee P w K mg base aO 1 "whole_of" [("parting":Str)] (jU K):=by
 refine aB D (fun _ _ _ _ _ _ us hl=>by obtain⟨_,rfl⟩:=cI hl;exact rfl) jx (fun vs H Q E h=>by obtain⟨_,_,_,rfl,_⟩:=h;rfl) (fun f cdv A outer s H vs Q E hr h=>?_)
 obtain⟨p,us,ps,rfl,hp,hd,hok,h100,q⟩:=h
 have nd:=jx.nd
 refine⟨_,(ae (aq (i:=1) nd rfl (Or.inl rfl) ah) (ae (cV PassesOwn.never rfl (cp (pv 0)) (cu (n:=2) rfl (aD (ay (i:=2) nd rfl (Or.inl rfl) (.inr rfl)) (aD (ay (i:=3) nd rfl (Or.inl rfl) (.inr rfl)) aW))) (ai (cV PassesOwn.never rfl (eR rfl n_range (aa (pv 3) af)) (ay (i:=4) nd rfl (Or.inl rfl) (.inr rfl)) (ai (dI (i:=1) nd rfl (Or.inl rfl) (pv 2) (fJ oX)))))) (ai (aC (pv 1))))),?_⟩
 show bz _ _ _ [some (.ref p),none,none,none,none] H
 have ul:us.length=ps.length:=by rw [hd.length,List.length_map]
 k_data
 refine⟨⟨_,aZ.of hp⟩,?_⟩
 refine eO (xs:=us) (fun i σ' H'=>aF H H'∧∃ o4 o5 o6,σ'=[some (.ref p),some (.int (Num.eN (ps.take i))),o4,o5,o6]) ⟨aF.refl _,none,none,none,rfl⟩ (fun i σ' H' _ h=>aZ.of (h.1 _ _ hp)) ?_ ?_
 ·rintro i x σ' H' hx ⟨s',o4,o5,o6,rfl⟩
  obtain⟨d,hd',hv⟩:=hd.get hx
  rw [List.getElem?_map] at hd'
  obtain⟨⟨q',k'⟩,hy,rfl⟩:=Option.map_eq_some_iff.mp hd'
  obtain⟨q2,k0,k6⟩:=hok _ (List.mem_of_getElem? hy)
  replace q2:2≤q':=q2
  replace k0:0≤k':=k0
  replace k6:k'≤10^6:=k6
  obtain⟨pt,rfl,tt⟩:=iW hv
  refine⟨pt,_,rfl,tt.same s',rfl,?_⟩
  k_data
  refine⟨by omega,by omega,?_⟩
  refine dF (fun j σ2 H2=>H2=H'∧∃ o6,σ2=[some (.ref p),some (.int ((Num.eN (ps.take i)*q'.toNat^j:Nat):Int)),some (.int q'),some (.int k'),o6]) ⟨rfl,o6,by rw [Nat.pow_zero,Nat.mul_one]⟩ ?_ ?_
  ·rintro j σ2 H2 hj ⟨rfl,o6,rfl⟩
   have g1:=(vH (fun y z=>(hok y z).1) hy (j:=j) (by omega)).1
   have g2:=(vH (fun y z=>(hok y z).1) hy (j:=1) (by omega)).1
   have qb:q'.toNat≤10^100:=by
    rw [Nat.pow_one] at g2
    have:0<Num.eN (ps.take i):=by
     rcases Nat.eq_zero_or_pos (Num.eN (ps.take i)) with z | z
     ·exact absurd z (vI fun y z=>(hok y (List.mem_of_mem_take z)).1)
     ·exact z
    have:=Nat.le_mul_of_pos_left q'.toNat this
    omega
   k_data
   refine⟨Bd.of (by omega) (by omega),Bd.of (by omega) (by omega),?_⟩
   rw [Nat.pow_succ,← Nat.mul_assoc,Int.natCast_mul _ q'.toNat,show (q'.toNat:Int)=q' by omega]
  ·rintro σ2 H2 ⟨rfl,o6,rfl⟩
   refine⟨s',some (.int q'),some (.int k'),o6,?_⟩
   rw [List.take_add_one,hy]
   show _=[_,some (V.int (Num.eN (ps.take i++[(q',k')]):Nat)),_,_,_]
   rw [jL]
 ·rintro σ' H' ⟨s',o4,o5,o6,rfl⟩
  rw [ul,List.take_length]
  k_data
  exact q H' s'
end
end K
namespace K
open PySem PySem.Spec PyProof.Rows L2
section
variable {P:Program} {w:World} {K:PySem.W.Frag} {mg:Str→Option Value} {base:Heap}
theorem aQ.As {H:Hp}:∀(m:Nat) {ds:List PyData} {us:List V},aQ K H ds us→aQ K H (ds.take m) (us.take m)∧aQ K H (ds.drop m) (us.drop m)
 | 0,ds,us,h=>⟨by simp only [List.take_zero];exact rfl,by simpa using h⟩
 | m+1,[],us,h=>by cases h;exact⟨rfl,rfl⟩
 | m+1,d::ds,us,h=>by
  obtain⟨x,r,rfl,h1,h2⟩:=h
  have ih:=As m h2
  exact⟨⟨x,_,rfl,h1,ih.1⟩,ih.2⟩
theorem vw {us:List V} {m:Nat} (h:m≤us.length):gB us none (some (m:Int))=us.take m:=by
 unfold gB
 have e1:HT.cP us.length 0 none=0:=rfl
 have e2:HT.cP us.length us.length (some (m:Int))=m:=by
  simp only [HT.cP]
  split<;>omega
 rw [e1,e2,List.drop_zero,Nat.sub_zero]
theorem vq {us:List V} {m:Nat} (h:m≤us.length):gB us (some (m:Int)) none=us.drop m:=by
 unfold gB
 have e1:HT.cP us.length us.length none=us.length:=rfl
 have e2:HT.cP us.length 0 (some (m:Int))=m:=by
  simp only [HT.cP]
  split<;>omega
 rw [e1,e2]
 exact List.take_of_length_le (by rw [List.length_drop];omega)
def iL (K:PySem.W.Frag) (L:Nat):Sp:=fun vs H Q _=>∃(n a:Int) (p:Addr) (us:List V) (ps:List (Int × Int)),vs=[.int n,.int a,.ref p]∧(1≤L∧ps.length≤2^(L-1))∧ps.length≤10^6∧2≤n∧n≤10^60∧0≤a∧a<n∧H p=some (.lst us)∧aQ K H (ps.map jG) us∧(∀ y∈ps,Num.Pm y.1∧0≤y.2∧y.2≤10^6)∧ps.Pairwise (fun x y=>y.1≠x.1)∧a^Num.eN ps%n=1 ∧
 ∀ pt ts H',Num.TO n a ps ts→aF H H'→H pt=none→H' pt=some (.lst (ts.map V.int))→Q (.ref pt) H'
theorem cM:aA [("n":Str),("a":Str),("parting":Str),("half":Str),("ahead":Str),("behind":Str)] [("n":Str),("a":Str),("parting":Str)] (ak (top 29)):=⟨rfl,rfl,rfl,by decide +kernel,rfl,by decide +kernel,by decide +kernel⟩
theorem uD (D:ax K mg "times_in_order" (top 29)):Callee P w K mg base aO 6 "times_in_order" [("n":Str),("a":Str),("parting":Str)] (iL K 0):=by
 refine aB D (fun _ _ _ _ _ _ us hl=>by obtain⟨_,_,_,rfl⟩:=dQ hl;exact rfl) cM (fun vs H Q E h=>by obtain⟨_,_,_,_,_,rfl,_⟩:=h;rfl) (fun f cdv A outer s H vs Q E hr h=>?_)
 obtain⟨n,a,p,us,ps,rfl,hL,_⟩:=h
 exact absurd hL.1 (by decide)
theorem uE {L:Nat} (D:ax K mg "times_in_order" (top 29)) (c_raised:Callee P w K mg base aO 5 "raised" ["n","a","parting"] (iK K)) (c_times_to_one:Callee P w K mg base aO 5 "times_to_one" ["n","a","prime"] nO) (c_times_in_order:Callee P w K mg base aO (L+6) "times_in_order" ["n","a","parting"] (iL K L)) (n_len:mg "len"=none):Callee P w K mg base aO (L+7) "times_in_order" [("n":Str),("a":Str),("parting":Str)] (iL K (L+1)):=by
 refine aB D (fun _ _ _ _ _ _ us hl=>by obtain⟨_,_,_,rfl⟩:=dQ hl;exact rfl) cM (fun vs H Q E h=>by obtain⟨_,_,_,_,_,rfl,_⟩:=h;rfl) (fun f cdv A outer s H vs Q E hr h=>?_)
 obtain⟨n,a,p,us,ps,rfl,hL,h6,n2,n9,a0,a1,hp,hd,hok,pw,h1,q⟩:=h
 have nd:=cM.nd
 refine⟨_,(ae (aP (aw bO (aH bC rfl n_len PySem.boot_len (aa (pv 2) af)) ah (az _)) (ai (aC (dG af))) aI) (ae (aP (aw bO (aH bC rfl n_len PySem.boot_len (aa (pv 2) af)) ah (az _)) (ai (aC (dG (aa (aj c_times_to_one (hr.mono (by omega)) rfl aG (aa (pv 0) (aa (pv 1) (aa (aV bB (aV iu (pv 2) ah (fun _ _=>rfl)) ah (fun _ _=>rfl)) af)))) af)))) aI) (ae (aq (i:=3) nd rfl (Or.inl rfl) (av aU (aH bC rfl n_len PySem.boot_len (aa (pv 2) af)) ah)) (ae (aq (i:=4) nd rfl (Or.inl rfl) (iA nJ (pv 2) jS (gu (pv 3)))) (ae (aq (i:=5) nd rfl (Or.inl rfl) (iA nJ (pv 2) (gu (pv 3)) jS)) (ai (aC (av Bh (aj c_times_in_order (hr.mono (by omega)) rfl aG (aa (pv 0) (aa (aj c_raised (hr.mono (by omega)) rfl aG (aa (pv 0) (aa (pv 1) (aa (pv 5) af)))) (aa (pv 4) af)))) (aj c_times_in_order (hr.mono (by omega)) rfl aG (aa (pv 0) (aa (aj c_raised (hr.mono (by omega)) rfl aG (aa (pv 0) (aa (pv 1) (aa (pv 4) af)))) (aa (pv 5) af)))))))))))),?_⟩
 show bz _ _ _ [some (.int n),some (.int a),some (.ref p),none,none,none] H
 have ul:us.length=ps.length:=by rw [hd.length,List.length_map]
 k_data
 refine df (aZ.of hp) ⟨rfl,?_⟩
 refine aR (fun c=>?_) (fun c=>?_)
 ·have e0:ps=[]:=List.eq_nil_of_length_eq_zero (by injection c;omega)
  subst e0
  refine⟨by show 0≤sizeLine;decide,fun p1 hp1=>q p1 [] _ (.none ?_) (ao hp1) hp1 ag⟩
  have:a^1%n=1:=h1
  rw [Int.pow_one] at this
  exact Num.Al.iff.mpr (by rw [this];exact (Int.emod_eq_of_lt (by omega) (by omega)).symm)
 refine df (aZ.of hp) ⟨rfl,?_⟩
 refine aR (fun c1=>?_) (fun c1=>?_)
 ·have l1:ps.length=1:=by injection c1;omega
  obtain⟨⟨q',k'⟩,rfl⟩:∃ y,ps=[y]:=by
   cases ps with
   | nil=>cases l1
   | cons y r=>cases r with
    | nil=>exact⟨y,rfl⟩
    | cons _ _=>simp at l1
  obtain⟨pq,k0,k6⟩:=hok (q',k') (List.mem_singleton.mpr rfl)
  replace pq:Num.Pm q':=pq
  obtain⟨u,r,rfl,hv,z⟩:=hd
  cases z
  obtain⟨pt,rfl,tt⟩:=iW hv
  refine si (aZ.of hp) (by omega) (by show (0:Int)<1;decide) fun v hv=>?_
  have ev:v=V.ref pt:=List.mem_singleton.mp hv
  subst ev
  have h1':a^q'.toNat^k'.toNat%n=1:=by
   have:a^(q'.toNat^k'.toNat*1)%n=1:=h1
   rwa [Nat.mul_one] at this
  refine cf tt lu ⟨n,a,q',k'.toNat,rfl,n2,n9,a0,a1,pq.two,h1',fun t H1 _ t1 t2 s1=>⟨by show 1≤sizeLine;decide,fun p2 hp2=>?_⟩⟩
  refine q p2 [(t:Int)] _ (.one pq ((eC n2).mp t1) fun j hj z=>t2 j hj ((eC n2).mpr z)) (s1.trans (ao hp2)) (s1.free hp2) ag
 have l2:2≤ps.length:=by
  have h0:us.length≠0:=fun z=>c (by rw [z];rfl)
  have h1:us.length≠1:=fun z=>c1 (by rw [z];rfl)
  omega
 refine df (aZ.of hp) ⟨_,rfl,Bd.of (by omega) (by omega),?_⟩
 obtain⟨m,em,m1,m2⟩:∃ m:Nat,(us.length:Int)/2=m∧1≤m∧m=ps.length/2:=⟨us.length/2,by omega,by omega,by omega⟩
 rw [em]
 refine⟨p,us,rfl,aZ.of hp,fun pa hpa=>?_⟩
 rw [vw (by omega)]
 have s1:=ao (o:=.lst (us.take m)) hpa
 have ea:upd H pa (.lst (us.take m)) pa=some (.lst (us.take m)):=ag
 generalize upd H pa _=H1 at *
 refine⟨p,us,rfl,aZ.of (s1 _ _ hp),fun pb hpb=>?_⟩
 rw [vq (by omega)]
 have s2:=ao (o:=.lst (us.drop m)) hpb
 have eb:upd H1 pb (.lst (us.drop m)) pb=some (.lst (us.drop m)):=ag
 generalize upd H1 pb _=H2 at *
 have S2:=s1.trans s2
 have hT:=aQ.As m (aQ.same S2 _ hd)
 rw [← List.map_take,← List.map_drop] at hT
 have okA:∀ y∈ps.take m,Num.Pm y.1∧0≤y.2∧y.2≤10^6:=fun y z=>hok y (List.mem_of_mem_take z)
 have okB:∀ y∈ps.drop m,Num.Pm y.1∧0≤y.2∧y.2≤10^6:=fun y z=>hok y (List.mem_of_mem_drop z)
 have ne:∀ x∈ps.take m,∀ y∈ps.drop m,y.1≠x.1:=by
  rw [← List.take_append_drop m ps,List.pairwise_append] at pw
  exact pw.2.2
 have pwA:(ps.take m).Pairwise (fun x y=>y.1≠x.1):=pw.sublist (List.take_sublist ..)
 have pwB:(ps.drop m).Pairwise (fun x y=>y.1≠x.1):=pw.sublist (List.drop_sublist ..)
 have h1A:Num.Al n (a^(Num.eN (ps.take m)*Num.eN (ps.drop m))) 1:=by
  rw [← Num.cH,List.take_append_drop]
  exact (eC n2).mp h1
 have lA:(ps.take m).length≤2^(L-1)∧(ps.drop m).length≤2^(L-1)∧1≤L:=by
  have hL2:ps.length≤2^L:=hL.2
  have L1:1≤L:=by
   rcases Nat.eq_zero_or_pos L with z | z
   ·subst z;simp at hL2;omega
   ·exact z
  obtain⟨L',rfl⟩:∃ L',L=L'+1:=⟨L-1,by omega⟩
  rw [Nat.pow_succ] at hL2
  rw [List.length_take,List.length_drop]
  refine⟨?_,?_,by omega⟩<;>(simp only [Nat.add_sub_cancel];omega)
 have md:∀ e:Nat,0≤a^e%n∧a^e%n<n:=fun e=>⟨Int.emod_nonneg _ (by omega),Int.emod_lt_of_pos _ (by omega)⟩
 have p1:∀ e E:Nat,Num.Al n (a^(e*E)) 1→(a^e%n)^E%n=1:=fun e E z=>by
  rw [Num.Al.iff.mp ((Num.Al.rest n (a^e)).pow E),Num.bp]
  exact (eC n2).mpr z
 refine⟨n,a,pb,_,ps.drop m,rfl,by omega,n9,a0,a1,eb,hT.2,fun y z=>⟨(okB y z).1.two,(okB y z).2⟩,fun H3 s3=>?_⟩
 refine⟨n,_,pa,_,ps.take m,rfl,⟨lA.2.2,lA.1⟩,by rw [List.length_take];omega,n2,n9,(md _).1,(md _).2,s3 _ _ (s2 _ _ ea),aQ.same s3 _ hT.1,okA,pwA,p1 _ _ (by rw [Nat.mul_comm];exact h1A),fun pt ts H4 hTO s4 f4 e4=>?_⟩
 have S4:=s3.trans s4
 refine⟨n,a,pa,_,ps.take m,rfl,by omega,n9,a0,a1,S4 _ _ (s2 _ _ ea),aQ.same S4 _ hT.1,fun y z=>⟨(okA y z).1.two,(okA y z).2⟩,fun H5 s5=>?_⟩
 refine⟨n,_,pb,_,ps.drop m,rfl,⟨lA.2.2,lA.2.1⟩,by rw [List.length_drop];omega,n2,n9,(md _).1,(md _).2,s5 _ _ (S4 _ _ eb),aQ.same (S4.trans s5) _ hT.2,okB,pwB,p1 _ _ h1A,fun pt2 ts2 H6 hTO2 s6 f6 e6=>?_⟩
 have tl:(ts.map V.int).length+(ts2.map V.int).length≤10^6:=by
  rw [List.length_map,List.length_map,hTO.len,hTO2.len,List.length_take,List.length_drop]
  omega
 refine⟨pt,pt2,_,_,rfl,rfl,s6 _ _ (s5 _ _ e4),e6,Nat.le_trans tl (by decide),fun pl hpl=>?_⟩
 have S6:=((S2.trans S4).trans s5).trans s6
 have:=Num.TO.two (fun y z=>(okA y z).1) (fun y z=>(okB y z).1) ne (by rw [Num.cH];exact h1A) (hTO.al (Num.Al.rest n _)) (hTO2.al (Num.Al.rest n _))
 rw [List.take_append_drop] at this
 refine q pl (ts++ts2) _ this (S6.trans (ao hpl)) (S6.free hpl) ?_
 rw [List.map_append]
 exact ag
theorem pL (D:ax K mg "times_in_order" (top 29)) (c_raised:Callee P w K mg base aO 5 "raised" ["n","a","parting"] (iK K)) (c_times_to_one:Callee P w K mg base aO 5 "times_to_one" ["n","a","prime"] nO) (n_len:mg "len"=none):∀ L:Nat,Callee P w K mg base aO (L+6) "times_in_order" ["n","a","parting"] (iL K L)
 | 0=>uD D
 | L+1=>uE D c_raised c_times_to_one (pL D c_raised c_times_to_one n_len L) n_len
end
end K
namespace K
open PySem PySem.Spec PyProof.Rows L2
section
variable {P:Program} {w:World} {K:PySem.W.Frag} {mg:Str→Option Value} {base:Heap}
def tE (K:PySem.W.Frag):Sp:=fun vs H Q _=>∃(p:Addr) (xs:List V) (rows:List PyData) (ps:List (Int × Int)),vs=[.ref p]∧H p=some (.lst xs)∧aQ K H rows xs∧yt rows ps∧rows.length≤10^6∧∀ p us H',aF H H'→H p=none→H' p=some (.lst us)→aQ K H' (ps.map jG) us→Q (.ref p) H'
theorem wC (D:ax K mg "parting_in" (top 21)):Callee P w K mg base aO 1 "parting_in" [("parts":Str)] (tE K):=by
 refine aB D (fun _ _ _ _ _ _ us hl=>by obtain⟨_,rfl⟩:=cI hl;exact rfl) bS (fun vs H Q E h=>by obtain⟨a,_,_,_,rfl,_⟩:=h;rfl) (fun f cdv A outer s H vs Q E hr h=>?_)
 obtain⟨p,xs,rows,ps,rfl,hS,ht,hh,h6,q⟩:=h
 have nd:=bS.nd
 refine⟨_,(ai (aC (fO rfl (cJ (N':=["row"]) (js:=[none]) rfl rfl (by decide +kernel) (by decide +kernel) (by repeat (first | exact True.intro | refine⟨rfl,?_⟩)) (by repeat (first | exact True.intro | refine⟨rfl,?_⟩ | refine⟨True.intro,?_⟩)) (by repeat (first | exact True.intro | refine⟨⟨rfl,rfl,.inl rfl,.inl rfl⟩,?_⟩))) (cp (pv 0)) (fun _ _ _ _=>(ay (i:=0) (show List.Nodup [("row":Str)] from by decide +kernel) rfl (Or.inl rfl) (.inr rfl))) (fun _ _ _ _=>bQ) (fun _ _ _ _=>(aM (aa (aV (cj K rfl) (aV (cj K rfl) (pv 0) ah (fun _ _=>rfl)) ah (fun _ _=>rfl)) (aa (aV (cj K rfl) (pv 0) ah (fun _ _=>rfl)) af))))))),?_⟩
 show h7 _ _ [some (.ref p)] H
 have xl:=ht.length
 have rl:=hh.1
 k_data
 refine⟨⟨_,aZ.of hS⟩,?_⟩
 refine bW (xs:=xs) (fun i zs H3=>aF H H3∧aQ K H3 ((ps.take i).map jG) zs) ⟨aF.refl _,rfl⟩ (Nat.le_trans (by omega) (show 10^6≤sizeLine by decide)) (fun i zs H3 hi ⟨e1,e2⟩=>⟨aZ.of (e1 _ _ hS),by rw [e2.length,List.length_map,List.length_take];omega⟩) ?_ ?_
 ·rintro i x zs H3 hx ⟨s3,hz⟩
  obtain⟨q',k',pt,pq,r,hy,rfl,t1,t2⟩:=vQ ht hh hx
  show cQ 0 _ [none] _ _
  k_data
  refine⟨True.intro,cf (t1.same s3) lu (cf (t2.same s3) lu (cf (t1.same s3) rfl ⟨by show 2≤sizeLine;decide,fun p4 hp4=>?_⟩))⟩
  have s4:=ao (o:=.tup [V.int q',V.int k']) hp4
  refine⟨s3.trans s4,?_⟩
  rw [List.take_add_one,hy,List.map_append]
  exact aQ.append (aQ.same s4 _ hz) (.one (dv.tup ag ⟨_,_,rfl,rfl,.one rfl⟩))
 ·rintro zs H3 p3 ⟨s3,hz⟩ hp3
  rw [show xs.length=ps.length by omega,List.take_length] at hz
  exact q p3 zs _ (s3.trans (ao hp3)) (s3.free hp3) ag (aQ.same (ao hp3) _ hz)
def gW (p a e:Int) (y:PyData × Int × Int):PyData:=.tuple [y.1,.int y.2.2,.int (a^(e/y.2.1).toNat%p)]
def kf (ps:List (Int × Int)) (ds:Nat→PyData) (ts:List Int) (i:Nat):Option (PyData × Int × Int):=match ps[i]?,ts[i]? with
 | some y,some t=>if 0<t then some (ds i,y.1,t) else none
 | _,_=>none
def bU (ps:List (Int × Int)) (ds:Nat→PyData) (ts:List Int) (n:Nat):List (PyData × Int × Int):=(List.range n).filterMap (kf ps ds ts)
def c7 (ps:List (Int × Int)) (ds:Nat→PyData) (ts:List Int):List (PyData × Int × Int):=bU ps ds ts ps.length
theorem fK {ps:List (Int × Int)} {ds:Nat→PyData} {ts:List Int} {i:Nat} {q k t:Int} (hp:ps[i]?=some (q,k)) (ht:ts[i]?=some t):bU ps ds ts (i+1)=bU ps ds ts i++(if 0<t then [(ds i,q,t)] else []):=by
 unfold bU
 rw [List.range_succ,List.filterMap_append]
 congr 1
 have:kf ps ds ts i=if 0<t then some (ds i,q,t) else none:=by unfold kf;rw [hp,ht]
 by_cases c:0<t
 ·rw [if_pos c] at this ⊢
  simp [this]
 ·rw [if_neg c] at this ⊢
  simp [this]
theorem gT {ps:List (Int × Int)} {ds:Nat→PyData} {ts:List Int} {n:Nat} {y:PyData × Int × Int} (h:y∈bU ps ds ts n):∃ i k,ps[i]?=some (y.2.1,k)∧ts[i]?=some y.2.2∧0<y.2.2∧y.1=ds i:=by
 unfold bU at h
 obtain⟨i,_,e⟩:=List.mem_filterMap.mp h
 unfold kf at e
 cases hp:ps[i]? with
 | none=>rw [hp] at e;cases e
 | some z =>
  cases ht:ts[i]? with
  | none=>rw [hp,ht] at e;cases e
  | some t =>
   rw [hp,ht] at e
   by_cases c:0<t
   ·have e':(if 0<t then some (ds i,z.1,t) else none)=some y:=e
    rw [if_pos c] at e'
    cases e'
    exact⟨i,z.2,hp,ht,c,rfl⟩
   ·have e':(if 0<t then some (ds i,z.1,t) else none)=some y:=e
    rw [if_neg c] at e'
    cases e'
theorem kz {ps:List (Int × Int)} {ds:Nat→PyData} {ts:List Int} {n:Nat}:(bU ps ds ts n).length≤n:=by
 unfold bU
 exact Nat.le_trans (List.length_filterMap_le ..) (by rw [List.length_range];exact Nat.le_refl _)
def kp (y:PyData × Int × Int):Int × Int:=(y.2.1,y.2.2)
def kD (y:PyData × Int × Int):PyData:=.tuple [y.1,.int y.2.2]
theorem i4 {ps:List (Int × Int)} {ds:Nat→PyData} {ts:List Int} (hl:ts.length=ps.length) (h0:∀ t∈ts,0≤t):∀ n,n≤ps.length→Num.eN ((bU ps ds ts n).map kp)=Num.eN (((ps.map (·.1)).zip ts).take n)
 | 0,_=>rfl
 | n+1,h=>by
  have ih:=i4 (ds:=ds) hl h0 n (by omega)
  have hp:ps[n]?=some (ps[n].1,ps[n].2):=List.getElem?_eq_getElem (by omega)
  have ht:ts[n]?=some ts[n]:=List.getElem?_eq_getElem (by omega)
  have hz:((ps.map (·.1)).zip ts)[n]?=some (ps[n].1,ts[n]):=by
   rw [List.getElem?_zip_eq_some]
   exact⟨by rw [List.getElem?_map,hp];rfl,ht⟩
  rw [fK hp ht,List.take_add_one,hz,List.map_append,Num.cH,ih]
  show _=Num.eN (((ps.map (·.1)).zip ts).take n++[(ps[n].1,ts[n])])
  rw [jL]
  have t0:=h0 ts[n] (List.getElem_mem _)
  by_cases c:0<ts[n]
  ·rw [if_pos c]
   show _*(ps[n].1.toNat^ts[n].toNat*1)=_
   rw [Nat.mul_one]
  ·rw [if_neg c,show ts[n].toNat=0 by omega,Nat.pow_zero]
   rfl
theorem z8 {ps:List (Int × Int)} {ds:Nat→PyData} (h:∀ i q k,ps[i]?=some (q,k)→Num.iV q (ds i)):yt (Num.rowsOf ps ds) ps:=by
 refine⟨Num.bJ,fun i row hr=>?_⟩
 have hi:=(List.getElem?_eq_some_iff.mp hr).1
 rw [Num.bJ] at hi
 have hg:ps[i]?=some (ps[i].1,ps[i].2):=List.getElem?_eq_getElem hi
 rw [Num.hJ hg] at hr
 cases hr
 obtain⟨g,rows,e⟩:=(h i _ _ hg).head
 exact⟨_,hg,_,by rw [e]⟩
theorem zD {H:Hp} {ps:List (Int × Int)} {ds:Nat→PyData} {xs:List V} (hd:aQ K H (Num.rowsOf ps ds) xs) {i:Nat} {x:V} (hx:xs[i]?=some x):∃ q k pt u,ps[i]?=some (q,k)∧x=.ref pt∧bD K H pt [u,.int k]∧dv K H (ds i) u:=by
 obtain⟨d,hd',hv⟩:=hd.get hx
 have hi:=(List.getElem?_eq_some_iff.mp hd').1
 rw [Num.bJ] at hi
 have hg:=List.getElem?_eq_getElem hi
 rw [Num.hJ hg] at hd'
 cases hd'
 obtain⟨pt,ys,rfl,h1,x1,r1,rfl,e1,x2,r2,rfl,e2,z⟩:=hv
 cases z
 cases e2
 exact⟨ps[i].1,ps[i].2,pt,x1,hg,rfl,h1,e1⟩
def xN (K:PySem.W.Frag):Sp:=fun vs H Q _=>∃(v:V) (p a g:Int) (ps:List (Int × Int)) (ds:Nat→PyData),vs=[.int p,.int a,v]∧dv K H (.tuple (Num.rowsOf ps ds)) v∧Num.iV p (.tuple [.int p,.int g,.tuple (Num.rowsOf ps ds)])∧Num.Part (p-1) ps∧ps.length≤29∧(∀ i q k,ps[i]?=some (q,k)→Num.iV q (ds i))∧¬p∣a ∧ -(10^60)≤a∧a≤10^60 ∧
 ∀(e:Int) (ts:List Int) (u:V) (H':Hp),1≤e→e<p→Num.Ord p a e.toNat→Num.TO p a ps ts→aF H H'→dv K H' (.tuple [.int e,.tuple ((c7 ps ds ts).map (gW p a e))]) u→Q u H'
theorem gO:aA [("n":Str),("a":Str),("parts":Str),("parting":Str),("times":Str),("kept":Str),("e":Str)] [("n":Str),("a":Str),("parts":Str)] (ak (top 26)):=⟨rfl,rfl,rfl,by decide +kernel,rfl,by decide +kernel,by decide +kernel⟩
theorem m9 {C:Addr} (D:ax K mg "order_from" (top 26)) (c_parting_in:Callee P w K mg base aO 1 "parting_in" ["parts"] (nN K)) (c_parting_inL:Callee P w K mg base aO 1 "parting_in" ["parts"] (tE K)) (c_most_times:Callee P w K mg base aO 1 "most_times" ["n","prime"] xH) (c_raised:Callee P w K mg base aO 5 "raised" ["n","a","parting"] (iK K)) (c_times_in_order:Callee P w K mg base aO 12 "times_in_order" ["n","a","parting"] (iL K 6)) (c_whole_of:Callee P w K mg base aO 1 "whole_of" ["parting"] (jU K)) (c_power:Callee P w K mg base (c6 P w) 4 "power" ["n","a","e"] (cF C)) (n_min:mg "min"=none) (n_zip:mg "zip"=none) (n_tuple:mg "tuple"=none):Callee P w K mg base aO 13 "order_from" [("n":Str),("a":Str),("parts":Str)] (xN K):=by
 refine aB D (fun _ _ _ _ _ _ us hl=>by obtain⟨_,_,_,rfl⟩:=dQ hl;exact rfl) gO (fun vs H Q E h=>by obtain⟨_,_,_,_,_,_,rfl,_⟩:=h;rfl) (fun f cdv A outer s H vs Q E hr h=>?_)
 obtain⟨v,p,a,g,ps,ds,rfl,hd,hp,hP,hl29,hds,na,a0,a1,q⟩:=h
 obtain⟨pm,p9⟩:=iz hp
 have p2:=pm.two
 have nd:=gO.nd
 refine⟨_,(ae (nt (i0:=3) nd rfl (Or.inl rfl) rfl (cJ (N':=["prime","many","n"]) (js:=[none,none,some 0]) rfl rfl (by decide +kernel) (by decide +kernel) (by repeat (first | exact True.intro | refine⟨rfl,?_⟩)) (by repeat (first | exact True.intro | refine⟨rfl,?_⟩ | refine⟨True.intro,?_⟩)) (by repeat (first | exact True.intro | refine⟨⟨rfl,rfl,.inl rfl,.inl rfl⟩,?_⟩))) (cp (aj c_parting_in (hr.mono (by decide)) rfl aG (aa (pv 2) af))) (fun _ _ _ _=>(dU K rfl (n:=2) rfl (aD (ay (i:=0) (show List.Nodup [("prime":Str),("many":Str),("n":Str)] from by decide +kernel) rfl (Or.inl rfl) (.inr rfl)) (aD (ay (i:=1) (show List.Nodup [("prime":Str),("many":Str),("n":Str)] from by decide +kernel) rfl (Or.inl rfl) (.inr rfl)) aW)))) (fun _ _ _ _=>bQ) (fun _ _ _ _=>(aM (aa (pv 0) (aa (aH (tT rfl) rfl n_min L2.boot_min (aa (pv 1) (aa (aj c_most_times (hr.mono (by decide)) rfl aG (aa (pv 2) (aa (pv 0) af))) af))) af)))) (by rfl) (by first | exact .inl rfl | exact .inr rfl)) (ae (aP (aw dS (aj c_raised (hr.mono (by decide)) rfl aG (aa (pv 0) (aa (av aK (pv 1) (pv 0)) (aa (pv 3) af)))) ah (az _)) xf aI) (gF.l9 (ae (aq (i:=4) nd rfl (Or.inl rfl) (aj c_times_in_order (hr.mono (by decide)) rfl aG (aa (pv 0) (aa (av aK (pv 1) (pv 0)) (aa (pv 3) af))))) (ae (nt (i0:=5) nd rfl (Or.inl rfl) rfl (cJ (N':=["row","many"]) (js:=[none,none]) rfl rfl (by decide +kernel) (by decide +kernel) (by repeat (first | exact True.intro | refine⟨rfl,?_⟩)) (by repeat (first | exact True.intro | refine⟨rfl,?_⟩ | refine⟨True.intro,?_⟩)) (by repeat (first | exact True.intro | refine⟨⟨rfl,rfl,.inl rfl,.inl rfl⟩,?_⟩))) (Bn .t .l rfl n_zip (aa (pv 2) (aa (pv 4) af))) (fun _ _ _ _=>(dU K rfl (n:=2) rfl (aD (ay (i:=0) (show List.Nodup [("row":Str),("many":Str)] from by decide +kernel) rfl (Or.inl rfl) (.inr rfl)) (aD (ay (i:=1) (show List.Nodup [("row":Str),("many":Str)] from by decide +kernel) rfl (Or.inl rfl) (.inr rfl)) aW)))) (fun _ _ _ _=>(pQ (aw cw (pv 1) ah (az _)))) (fun _ _ _ _=>(aM (aa (aV (cj K rfl) (pv 0) ah (fun _ _=>rfl)) (aa (pv 1) af)))) (by rfl) (by first | exact .inl rfl | exact .inr rfl)) (ae (aq (i:=6) nd rfl (Or.inr rfl) (aj c_whole_of (hr.mono (by decide)) rfl aG (aa (aj c_parting_inL (hr.mono (by decide)) rfl aG (aa (pv 5) af)) af))) (ai (aC (aM (aa (pv 6) (aa (dz cW rfl n_tuple L2.boot_tuple (aa (fO rfl (cJ (N':=["paper","many","n","a","e"]) (js:=[none,none,some 0,some 1,some 6]) rfl rfl (by decide +kernel) (by decide +kernel) (by repeat (first | exact True.intro | refine⟨rfl,?_⟩)) (by repeat (first | exact True.intro | refine⟨rfl,?_⟩ | refine⟨True.intro,?_⟩)) (by repeat (first | exact True.intro | refine⟨⟨rfl,rfl,.inl rfl,.inl rfl⟩,?_⟩))) (cp (pv 5)) (fun _ _ _ _=>(dU K rfl (n:=2) rfl (aD (ay (i:=0) (show List.Nodup [("paper":Str),("many":Str),("n":Str),("a":Str),("e":Str)] from by decide +kernel) rfl (Or.inl rfl) (.inr rfl)) (aD (ay (i:=1) (show List.Nodup [("paper":Str),("many":Str),("n":Str),("a":Str),("e":Str)] from by decide +kernel) rfl (Or.inl rfl) (.inr rfl)) aW)))) (fun _ _ _ _=>bQ) (fun _ _ _ _=>(aM (aa (pv 0) (aa (pv 1) (aa (aj c_power (hr.mono (by decide)) rfl aJ (aa (pv 2) (aa (pv 3) (aa (av aU (pv 4) (aV (cj K rfl) (pv 0) ah (fun _ _=>rfl))) af)))) af)))))) af)) af))))))))))),?_⟩
 show bz _ _ _ [some (.int p),some (.int a),some v,none,none,none,none] H
 obtain⟨pr,xs,rfl,hSr,hdr⟩:=hd
 have xl:xs.length=ps.length:=by rw [hdr.length,Num.bJ]
 have eE:Num.eN ps=(p-1).toNat:=by
  have:=Num.fe ps fun y z=>(hP.ok y z).1
  rw [hP.prod] at this
  omega
 have big:∀{zs:List (Int × Int)},(∀ y∈zs,2≤y.1)→Num.eN zs≤(p-1).toNat→∀{i:Nat} {q k:Int},zs[i]?=some (q,k)→q.toNat^k.toNat≤(p-1).toNat∧k≤29:=by
  intro zs h2 hz i q k hy
  have g1:=(vH h2 hy (j:=k.toNat) (Nat.le_refl _)).1
  have e0:Num.eN (zs.take i)≠0:=vI fun y z=>h2 y (List.mem_of_mem_take z)
  have g2:q.toNat^k.toNat≤(p-1).toNat:=Nat.le_trans (Nat.le_mul_of_pos_left _ (Nat.pos_of_ne_zero e0)) (Nat.le_trans g1 hz)
  have q2:2≤q:=h2 _ (List.mem_of_getElem? hy)
  have g3:(2:Int)^k.toNat≤q^k.toNat:=Num.two_pow_le q2 _
  have g4:q^k.toNat=((q.toNat^k.toNat:Nat):Int):=by rw [Int.natCast_pow,show (q.toNat:Int)=q by omega]
  have g5:k.toNat≤29:=Num.two_le (by omega)
  exact⟨g2,by omega⟩
 have okP:∀ y∈ps,Num.Pm y.1∧0≤y.2∧y.2≤10^6:=fun y hy=>by
  obtain⟨o1,o2,_⟩:=hP.ok y hy
  obtain⟨i,hi⟩:=List.mem_iff_getElem?.mp hy
  have:=(big (fun y z=>(hP.ok y z).1.two) (Nat.le_of_eq eE) hi).2
  exact⟨o1,by omega,by omega⟩
 have pwP:ps.Pairwise (fun x y=>y.1≠x.1):=hP.rise.imp fun h=>by omega
 k_data
 refine⟨.ref pr,_,ps,rfl,⟨pr,xs,rfl,hSr,hdr⟩,z8 hds,by rw [Num.bJ];omega,fun p1 us1 H1 s1 f1 e1 d1=>?_⟩
 refine⟨p1,rfl,⟨_,aZ.of e1⟩,?_⟩
 have ul:us1.length=ps.length:=by rw [d1.length,List.length_map]
 refine bW (xs:=us1) (fun i zs H3=>aF H1 H3∧aQ K H3 ((ps.take i).map jG) zs) ⟨aF.refl _,rfl⟩ (by rw [ul];exact Nat.le_trans hl29 (by decide)) (fun i zs H3 hi ⟨z1,z2⟩=>⟨aZ.of (z1 _ _ e1),by rw [z2.length,List.length_map,List.length_take];omega⟩) ?_ ?_
 ·rintro i x zs H3 hx ⟨s3,hz⟩
  obtain⟨d,hd',hv⟩:=d1.get hx
  rw [List.getElem?_map] at hd'
  obtain⟨⟨q',k'⟩,hy,rfl⟩:=Option.map_eq_some_iff.mp hd'
  obtain⟨pq,k0,k6⟩:=okP _ (List.mem_of_getElem? hy)
  replace pq:Num.Pm q':=pq
  replace k0:0≤k':=k0
  have q2:=pq.two
  obtain⟨pt,rfl,tt⟩:=iW hv
  have qb:=(big (fun y z=>(okP y z).1.two) (Nat.le_of_eq eE) hy).1
  have q9:q'≤10^9:=by
   have:=(sF hP (by omega) q' (List.mem_map.mpr ⟨_,List.mem_of_getElem? hy,rfl⟩)).2
   omega
  show oU K 2 _ _ [none,none,some (.int p)] _ _
  refine⟨pt,_,rfl,tt.same s3,rfl,?_⟩
  k_data
  refine⟨⟨rfl,True.intro⟩,p,q',rfl,by omega,by omega,q2,by omega,fun t ht=>⟨(t:Int),rfl,by show 2≤sizeLine;decide,fun p4 hp4=>?_⟩⟩
  have em:(if (t:Int)<k' then (t:Int) else k')=k':=by
   rw [if_neg]
   intro z
   have g4:q'^(t+1)=((q'.toNat^(t+1):Nat):Int):=by rw [Int.natCast_pow,show (q'.toNat:Int)=q' by omega]
   have g5:q'.toNat^(t+1)≤q'.toNat^k'.toNat:=Nat.pow_le_pow_right (by omega) (by omega)
   omega
  rw [em]
  have s4:=ao (o:=.tup [V.int q',V.int k']) hp4
  refine⟨s3.trans s4,?_⟩
  rw [List.take_add_one,hy,List.map_append]
  exact aQ.append (aQ.same s4 _ hz) (.one (dv.tup ag ⟨_,_,rfl,rfl,.one rfl⟩))
 ·rintro zs H3 p3 ⟨s3,hz⟩ hp3
  rw [ul,List.take_length] at hz
  have s4:=ao (o:=.lst zs) hp3
  have e4:upd H3 p3 (.lst zs) p3=some (.lst zs):=ag
  generalize upd H3 p3 _=H4 at *
  have S4:=(s1.trans s3).trans s4
  have d4:=aQ.same s4 _ hz
  have r0:=Int.emod_nonneg a (show p≠0 by omega)
  have r1:=Int.emod_lt_of_pos a (show 0<p by omega)
  have one:(a%p)^Num.eN ps%p=1:=by
   rw [eE]
   exact (eC p2).mpr (((Num.Al.rest p a).pow _).trans (Num.qO pm na))
  refine⟨by omega,p,a%p,p3,zs,ps,rfl,by omega,by omega,r0,r1,e4,d4,fun y z=>⟨(okP y z).1.two,(okP y z).2⟩,fun H5 s5=>⟨rfl,?_⟩⟩
  rw [one,if_neg (by intro z;exact z rfl)]
  refine⟨by omega,p,a%p,p3,zs,ps,rfl,⟨by decide,by show ps.length≤32;omega⟩,by omega,p2,by omega,r0,r1,s5 _ _ e4,aQ.same s5 _ d4,okP,pwP,one,fun p6 ts H6 hTO s6 f6 e6=>?_⟩
  have hTO':=hTO.al (Num.Al.rest p a)
  have S6:=(S4.trans s5).trans s6
  have tl:ts.length=ps.length:=hTO.len
  have eZ:Num.eN ((bU ps ds ts ps.length).map kp)=Num.eN ((ps.map (·.1)).zip ts):=by
   rw [i4 tl hTO.nn _ (Nat.le_refl _),List.take_of_length_le]
   rw [List.length_zip,List.length_map]
   omega
  have oE:=hTO'.ord
  rw [← eZ] at oE
  have eP:0<Num.eN ((bU ps ds ts ps.length).map kp)∧Num.eN ((bU ps ds ts ps.length).map kp)≤(p-1).toNat:=by
   refine⟨oE.pos,Nat.le_of_dvd (by omega) (oE.dv _ (Num.qO pm na))⟩
  k_data
  refine⟨⟨xs,hSr.same S6⟩,⟨_,aZ.of e6⟩,?_⟩
  refine lP (xs:=xs) (ys:=ts.map V.int) (fun i zs H7=>aF H6 H7∧aQ K H7 ((bU ps ds ts i).map kD) zs) ⟨aF.refl _,rfl⟩ (by rw [List.length_map,tl,xl]) (by rw [xl];exact Nat.le_trans hl29 (by decide)) (fun i zs H7 hi ⟨z1,z2⟩=>⟨hSr.same (S6.trans z1),aZ.of (z1 _ _ e6),by rw [z2.length,List.length_map];exact kz⟩) ?_ ?_
  ·rintro i x y zs H7 p7 hx hy ⟨s7,hz7⟩ hp7
   obtain⟨q',k',pt,u,hpi,rfl,t1,t2⟩:=zD hdr hx
   rw [List.getElem?_map] at hy
   obtain⟨t,ht,rfl⟩:=Option.map_eq_some_iff.mp hy
   have s8:=ao (o:=.tup [V.ref pt,V.int t]) hp7
   show oU K 2 _ _ [none,none] _ _
   refine⟨p7,_,rfl,bD.of ag,rfl,?_⟩
   generalize upd H7 p7 _=H8 at *
   have S8:=(S6.trans s7).trans s8
   rw [fK hpi ht]
   k_data
   refine⟨True.intro,aR (fun c=>?_) (fun c=>?_)⟩
   ·rw [if_pos c]
    refine cf (t1.same S8) lu ⟨by show 2≤sizeLine;decide,fun p9 hp9=>?_⟩
    have s9:=ao (o:=.tup [u,V.int t]) hp9
    refine⟨(s7.trans s8).trans s9,?_⟩
    rw [List.map_append]
    exact aQ.append (aQ.same (s8.trans s9) _ hz7) (.one (dv.tup ag ⟨_,_,rfl,dv.same (S8.trans s9) _ t2,.one rfl⟩))
   ·rw [if_neg c,List.append_nil]
    exact⟨s7.trans s8,aQ.same s8 _ hz7⟩
  ·rintro zs H7 p7 ⟨s7,hz7⟩ hp7
   rw [xl] at hz7
   have s8:=ao (o:=.lst zs) hp7
   have e8:upd H7 p7 (.lst zs) p7=some (.lst zs):=ag
   generalize upd H7 p7 _=H8 at *
   have S8:=(S6.trans s7).trans s8
   have d8:=aQ.same s8 _ hz7
   have kl:(bU ps ds ts ps.length).length≤29:=Nat.le_trans kz hl29
   have kmem:∀ y∈bU ps ds ts ps.length,Num.Pm y.2.1∧0<y.2.2∧y.2.2≤29∧Num.iV y.2.1 y.1:=fun y hy=>by
    obtain⟨i,k,h1,h2,h3,h4⟩:=gT hy
    have hz:((ps.map (·.1)).zip ts)[i]?=some (y.2.1,y.2.2):=by
     rw [List.getElem?_zip_eq_some]
     exact⟨by rw [List.getElem?_map,h1];rfl,h2⟩
    have h5:=(big (zs:=(ps.map (·.1)).zip ts) (fun z hz=>by
     have:=(List.of_mem_zip (show (z.1,z.2)∈_ from hz)).1
     obtain⟨w',hw',e⟩:=List.mem_map.mp this
     rw [← e]
     exact (okP w' hw').1.two) (by rw [← eZ];exact eP.2) hz).2
    exact⟨(okP _ (List.mem_of_getElem? h1)).1,h3,h5,by rw [h4];exact hds i _ _ h1⟩
   obtain⟨ks,hks⟩:∃ ks,bU ps ds ts ps.length=ks:=⟨_,rfl⟩
   rw [hks] at eZ oE eP kl kmem d8
   have zl:zs.length=ks.length:=by rw [d8.length,List.length_map]
   refine⟨p7,zs,ks.map kD,ks.map kp,rfl,e8,d8,⟨by rw [List.length_map,List.length_map],fun i row hr=>?_⟩,by rw [List.length_map];omega,fun p9 us9 H9 s9 f9 e9 d9=>?_⟩
   ·rw [List.getElem?_map] at hr
    obtain⟨y,hy,rfl⟩:=Option.map_eq_some_iff.mp hr
    obtain⟨g',rows',e'⟩:=(kmem y (List.mem_of_getElem? hy)).2.2.2.head
    exact⟨kp y,by rw [List.getElem?_map,hy];rfl,_,by show PyData.tuple [y.1,.int y.2.2]=_;rw [e'];rfl⟩
   refine⟨p9,us9,_,rfl,e9,d9,fun y hy=>?_,by omega,fun H10 s10=>?_⟩
   ·obtain⟨z,hz,rfl⟩:=List.mem_map.mp hy
    obtain⟨m1,m2,m3,_⟩:=kmem z hz
    exact⟨m1.two,by show 0≤z.2.2;omega,by show z.2.2≤10^6;omega⟩
   have S10:=s9.trans s10
   refine⟨p7,rfl,⟨_,aZ.of (S10 _ _ e8)⟩,?_⟩
   have eb:(1:Int)≤(Num.eN (ks.map kp):Int)∧(Num.eN (ks.map kp):Int)<p:=by omega
   have oE':Num.Ord p a ((Num.eN (ks.map kp):Int)).toNat:=by rw [Int.toNat_natCast];exact oE
   generalize (Num.eN (ks.map kp):Int)=e at *
   refine bW (xs:=zs) (fun i rs H11=>aF H10 H11∧aQ K H11 ((ks.take i).map (gW p a e)) rs) ⟨aF.refl _,rfl⟩ (by rw [zl];exact Nat.le_trans kl (by decide)) (fun i rs H11 hi ⟨z1,z2⟩=>⟨aZ.of (z1 _ _ (S10 _ _ e8)),by rw [z2.length,List.length_map,List.length_take];omega⟩) ?_ ?_
   ·rintro i x rs H11 hx ⟨s11,hr⟩
    obtain⟨d,hd',hv⟩:=(aQ.same (S10.trans s11) _ d8).get hx
    rw [List.getElem?_map] at hd'
    obtain⟨y,hy,rfl⟩:=Option.map_eq_some_iff.mp hd'
    obtain⟨m1,m2,m3,m4⟩:=kmem y (List.mem_of_getElem? hy)
    obtain⟨pt,ys,rfl,h1,x1,r1,rfl,e1',x2,r2,rfl,e2',z⟩:=hv
    cases z
    cases e2'
    have e1d:=e1'
    obtain⟨g',rows',e'⟩:=m4.head
    rw [e'] at e1'
    obtain⟨pq,zs',rfl,h2,y1,r3,rfl,f1',f2⟩:=e1'
    cases f1'
    have q2:=m1.two
    have q9:=(iz m4).2
    show oU K 2 _ _ [none,none,some (.int p),some (.int a),some (.int e)] _ _
    refine⟨pt,_,rfl,h1,rfl,?_⟩
    k_data
    refine⟨⟨rfl,rfl,rfl,True.intro⟩,cf h2 lu ⟨y.2.1,rfl,by omega,Bd.of (by omega) (by omega),p,a,e/y.2.1,rfl,by omega,by omega,fun _ H12 s12=>⟨by show 3≤sizeLine;decide,fun p13 hp13=>?_⟩,fun z=>absurd z (by have:=Int.ediv_nonneg (show 0≤e by omega) (show 0≤y.2.1 by omega);omega)⟩⟩
    have s13:=ao (o:=.tup [V.ref pq,V.int y.2.2,V.int (a^(e/y.2.1).toNat%p)]) hp13
    refine⟨(s11.trans s12).trans s13,?_⟩
    rw [List.take_add_one,hy,List.map_append]
    exact aQ.append (aQ.same (s12.trans s13) _ hr) (.one (dv.tup ag ⟨_,_,rfl,dv.same (s12.trans s13) _ e1d,_,_,rfl,rfl,.one rfl⟩))
   ·rintro rs H11 p11 ⟨s11,hr⟩ hp11
    rw [zl,List.take_length] at hr
    have s12:=ao (o:=.lst rs) hp11
    refine⟨p11,rfl,rs,.inl ⟨aZ.of ag,fun l hl'=>⟨by show 2≤sizeLine;decide,fun p13 hp13=>?_⟩⟩⟩
    generalize upd H11 p11 _=H12 at *
    have s13:=ao (o:=.tup rs) hl'
    have e13:upd H12 l (.tup rs) l=some (.tup rs):=ag
    generalize upd H12 l _=H13 at *
    have s14:=ao (o:=.tup [V.int e,V.ref l]) hp13
    have ek:c7 ps ds ts=ks:=hks
    refine q e ts _ _ eb.1 eb.2 oE' hTO' (((((S8.trans S10).trans s11).trans s12).trans s13).trans s14) ?_
    rw [ek]
    exact dv.tup ag ⟨_,_,rfl,rfl,.one (dv.tup (s14 _ _ e13) (aQ.same ((s12.trans s13).trans s14) _ hr))⟩
end
end K
namespace K
open PySem PySem.Spec PyProof.Rows L2
section
variable {P:Program} {w:World} {K:PySem.W.Frag} {mg:Str→Option Value} {base:Heap}
def AE (p a:Int) (rows:PyData) (r:PyData):Prop:=∃(e:Int) (ps:List (Int × Int)) (ds:Nat→PyData) (ts:List Int),rows=.tuple (Num.rowsOf ps ds)∧Num.Part (p-1) ps∧ps.length≤29∧(∀ i q k,ps[i]?=some (q,k)→Num.iV q (ds i))∧1≤e∧e<p∧Num.Ord p a e.toNat∧Num.TO p a ps ts∧r=.tuple [.int e,.tuple ((c7 ps ds ts).map (gW p a e))]
def tw (K:PySem.W.Frag) (C:Addr):Sp:=fun vs H Q E=>∃(v:V) (p a g:Int) (rows:PyData),vs=[v,.int a]∧dv K H (.tuple [.int p,.int g,rows]) v∧Num.iV p (.tuple [.int p,.int g,rows]) ∧ -(10^60)≤a∧a≤10^60∧(p∣a→BQ C H E) ∧
 (¬p∣a→∀ r u H',AE p a rows r→aF H H'→dv K H' r u→Q u H')
theorem pW:aA [("paper":Str),("a":Str),("p":Str),("full":Str),("parts":Str)] [("paper":Str),("a":Str)] (ak (top 31)):=⟨rfl,rfl,rfl,by decide +kernel,rfl,by decide +kernel,by decide +kernel⟩
theorem wA {C:Addr} (D:ax K mg "order" (top 31)) (c_order_from:Callee P w K mg base aO 13 "order_from" ["n","a","parts"] (xN K)) (x_Nought:qD K mg "Nought" C):Callee P w K mg base (c6 P w) 14 "order" [("paper":Str),("a":Str)] (tw K C):=by
 refine bH D (fun _ _ _ _ _ _ us hl=>by obtain⟨_,_,rfl⟩:=cL hl;exact rfl) pW (fun vs H Q E h=>by obtain⟨_,_,_,_,_,rfl,_⟩:=h;rfl) (fun f cdv A outer s H vs Q E hr h=>?_)
 obtain⟨v,p,a,g,rows,rfl,hd,hp,a0,a1,q1,q2⟩:=h
 obtain⟨pm,p9⟩:=iz hp
 have p2:=pm.two
 have nd:=pW.nd
 refine⟨_,(ae (dH (pv 0) (cu (n:=3) rfl (aD (ay (i:=2) nd rfl (Or.inl rfl) (.inr rfl)) (aD (ay (i:=3) nd rfl (Or.inl rfl) (.inr rfl)) (aD (ay (i:=4) nd rfl (Or.inl rfl) (.inr rfl)) aW))))) (ae (aP (aw bO (av aK (pv 1) (pv 2)) ah (az _)) (ai (bZ (kK x_Nought rfl))) aI) (gF.l9 (ai (aC (aj c_order_from (hr.mono (by decide)) rfl aG (aa (pv 2) (aa (pv 1) (aa (pv 4) af))))))))),?_⟩
 show bz _ _ _ [some v,some (.int a),none,none,none] H
 obtain⟨g',ps,ds,eq,hg,hP,hl29,hds⟩:=jQ hp
 cases eq
 obtain⟨pp,y1,y2,vr,rfl,tS,e0,eg,dr⟩:=qK hd
 cases e0
 cases eg
 k_data
 refine⟨pp,_,rfl,tS,rfl,?_⟩
 k_data
 refine⟨by omega,aR (fun c=>?_) (fun c=>?_)⟩
 ·exact fun x hx=>dy x_Nought.cls (aF.refl _) hx (q1 (Int.dvd_of_emod_eq_zero c))
 ·have na:¬p∣a:=fun z=>c (Int.emod_eq_zero_of_dvd z)
  exact⟨vr,p,a,g,ps,ds,rfl,dr,hp,hP,hl29,hds,na,a0,a1,fun e ts u H' e1 e2 o t s' hu=>q2 na _ u H' ⟨e,ps,ds,ts,rfl,hP,hl29,hds,e1,e2,o,t,rfl⟩ s' hu⟩
end
end K
namespace K
open PySem PySem.Spec PyProof.Rows L2
section
variable {P:Program} {w:World} {K:PySem.W.Frag} {mg:Str→Option Value} {base:Heap}
def PW (p a k y:Int):Prop:=∃ b:Int,(0≤k∧b=a∨k<0∧p∣b*a-1)∧y=b^k.natAbs%p
end
end K
namespace K
open PySem PySem.Spec PyProof.Rows L2
section
variable {P:Program} {w:World} {K:PySem.W.Frag} {mg:Str→Option Value} {base:Heap}
theorem jK {H:Hp} {m n:Int} {v:V} (h:dv K H (jG (m,n)) v):∃ q,v=.ref q∧bD K H q [.int m,.int n]:=by
 obtain⟨q,xs,e,h1,h2⟩:=h
 obtain⟨x,r,e1,d1,h3⟩:=h2
 obtain⟨y,r',e2,d2,h4⟩:=h3
 cases h4
 cases d1
 cases d2
 subst e1
 subst e2
 exact⟨q,e,h1⟩
theorem B0 {a b g u v:Int} (ha:0<a) (z:Gcd.Av a b g u v):Crt.G a b g:=by
 refine⟨?_,z.da,z.db,⟨u,v,z.lin⟩⟩
 have:=z.g0
 rcases (by omega:g=0∨0<g) with e | e
 ·have h:=z.da
  rw [e] at h
  have:=Int.zero_dvd.mp h
  omega
 ·exact e
theorem yU {g x:Int}:(!decide (x%g=0))=decide (¬g∣x):=by
 by_cases h:g∣x
 ·rw [Int.emod_eq_zero_of_dvd h];simp [h]
 ·have:¬x%g=0:=fun z=>h (Int.dvd_of_emod_eq_zero z)
  simp [h,this]
theorem Dl {a d L:Int} (hd:0<d) (h0:-L≤a) (h1:a≤L):-L≤a/d∧a/d≤L:=by
 have L0:0≤L:=by omega
 have h2:L*1≤L*d:=Int.mul_le_mul_of_nonneg_left (show 1≤d by omega) L0
 refine⟨Int.le_ediv_of_mul_le hd (by rw [Int.neg_mul];omega),Int.ediv_le_of_le_mul hd (by omega)⟩
theorem BZ {M m g:Int} (hm:0<m) (G:Crt.G M m g):0<m/g∧m/g≤m∧Gd (m/g) (M/g) 1:=by
 have g0:=G.pos
 obtain⟨A,hA⟩:=G.da
 obtain⟨L,hL⟩:=G.db
 have e1:m/g=L:=by rw [hL];exact Int.mul_ediv_cancel_left _ (by omega)
 have e2:M/g=A:=by rw [hA];exact Int.mul_ediv_cancel_left _ (by omega)
 obtain⟨u,v,e⟩:=G.lin
 have e4:u*A+v*L=1:=Int.eq_of_mul_eq_mul_left (show g≠0 by omega) (Crt.a1 (by rw [hA,hL] at e;exact e))
 rw [e1,e2]
 have L0:0<L:=by
  rcases (by omega:L≤0∨0<L) with z | z
  ·have:=Int.mul_nonpos_of_nonneg_of_nonpos (Int.le_of_lt g0) z
   omega
  ·exact z
 refine⟨L0,?_,by decide,Int.one_dvd _,Int.one_dvd _,fun d h1 h2=>?_⟩
 ·rw [hL]
  have:=Int.mul_le_mul_of_nonneg_right (show 1≤g by omega) (Int.le_of_lt L0)
  omega
 ·rw [← e4]
  exact Int.dvd_add (Int.dvd_mul_of_dvd_right h2) (Int.dvd_mul_of_dvd_right h1)
def sZ (K:PySem.W.Frag):Sp:=fun vs H Q _=>∃(v1 v2:V) (m n m' n':Int),vs=[v1,v2]∧dv K H (jG (m,n)) v1∧dv K H (jG (m',n')) v2∧0<m∧m≤10^20∧0<m'∧m'≤10^20∧∀ g H',Crt.G m m' g→aF H H'→Q (.bl (decide (¬g∣n-n'))) H'
theorem iF:aA [("one":Str),("other":Str)] [("one":Str),("other":Str)] (ak (top 42)):=⟨rfl,rfl,rfl,by decide +kernel,rfl,by decide +kernel,by decide +kernel⟩
theorem wm (D:ax K mg "are_apart" (top 42)) (c_divisor:Callee P w K mg base aO 1 "divisor" ["a","b"] dA):Callee P w K mg base aO 2 "are_apart" [("one":Str),("other":Str)] (sZ K):=by
 refine aB D (fun _ _ _ _ _ _ us hl=>by obtain⟨_,_,rfl⟩:=cL hl;exact rfl) iF (fun vs H Q E h=>by obtain⟨a,b,c,d,e,f,rfl,_⟩:=h;rfl) (fun f cdv A outer s H vs Q E hr h=>?_)
 obtain⟨v1,v2,m,n,m',n',rfl,h1,h2,hm,hm1,hm',hm1',q⟩:=h
 obtain⟨q1,rfl,t1⟩:=jK h1
 obtain⟨q2,rfl,t2⟩:=jK h2
 have nd:=iF.nd
 refine⟨_,(ai (aC (dh dS (av aK (av bY (aV bB (pv 0) ah (fun _ _=>rfl)) (aV bB (pv 1) ah (fun _ _=>rfl))) (aV bB (aj c_divisor (hr.mono (by decide)) rfl aG (aa (aV bB (pv 0) ah (fun _ _=>rfl)) (aa (aV bB (pv 1) ah (fun _ _=>rfl)) af))) ah (fun _ _=>rfl))) ah (az _)))),?_⟩
 show h7 _ _ [some (.ref q1),some (.ref q2)] H
 k_data
 refine cf t1 rfl (cf t2 rfl ⟨n,rfl,n',rfl,cf t1 rfl (cf t2 rfl ?_)⟩)
 refine⟨m,m',rfl,⟨by omega,by omega⟩,⟨by omega,by omega⟩,fun g u v p H1 z s1 e1=>?_⟩
 have G:=B0 hm z
 refine cf (bD.of e1) rfl ⟨g,rfl,G.pos,?_⟩
 rw [yU]
 exact q g H1 G s1
def xG (K:PySem.W.Frag):Sp:=fun vs H Q _=>∃(v1 v2:V) (M N m n:Int),vs=[v1,v2]∧dv K H (jG (M,N)) v1∧dv K H (jG (m,n)) v2∧0<M∧M≤10^220∧0≤N∧N<M∧0<m∧m≤10^20 ∧ -(10^80)≤n∧n≤10^80∧(∀ g,Crt.G M m g→g∣n-N) ∧
 ∀ p W x H',Crt.Aw M N m n W x→W≤M*m→aF H H'→H p=none→H' p=some (.tup [.int W,.int x])→Q (.ref p) H'
theorem eV:aA [("one":Str),("other":Str),("modulus":Str),("number":Str),("other_modulus":Str),("other_number":Str),("g":Str),("left":Str),("times":Str),("whole":Str)] [("one":Str),("other":Str)] (ak (top 43)):=⟨rfl,rfl,rfl,by decide +kernel,rfl,by decide +kernel,by decide +kernel⟩
theorem yX {C:Addr} (D:ax K mg "both_together" (top 43)) (c_divisor:Callee P w K mg base aO 1 "divisor" ["a","b"] dA) (c_inverse:Callee P w K mg base (c6 P w) 3 "inverse" ["n","a"] (dB C)):Callee P w K mg base aO 4 "both_together" [("one":Str),("other":Str)] (xG K):=by
 refine aB D (fun _ _ _ _ _ _ us hl=>by obtain⟨_,_,rfl⟩:=cL hl;exact rfl) eV (fun vs H Q E h=>by obtain⟨a,b,c,d,e,f,rfl,_⟩:=h;rfl) (fun f cdv A outer s H vs Q E hr h=>?_)
 obtain⟨v1,v2,M,N,m,n,rfl,h1,h2,hM,hM1,hN,hN1,hm,hm1,hn,hn1,hd,q⟩:=h
 obtain⟨q1,rfl,t1⟩:=jK h1
 obtain⟨q2,rfl,t2⟩:=jK h2
 have nd:=eV.nd
 refine⟨_,(ae (dH (pv 0) (cu (n:=2) rfl (aD (ay (i:=2) nd rfl (Or.inl rfl) (.inr rfl)) (aD (ay (i:=3) nd rfl (Or.inl rfl) (.inr rfl)) aW)))) (ae (dH (pv 1) (cu (n:=2) rfl (aD (ay (i:=4) nd rfl (Or.inl rfl) (.inr rfl)) (aD (ay (i:=5) nd rfl (Or.inl rfl) (.inr rfl)) aW)))) (ae (aq (i:=6) nd rfl (Or.inl rfl) (aV bB (aj c_divisor (hr.mono (by decide)) rfl aG (aa (pv 2) (aa (pv 4) af))) ah (fun _ _=>rfl))) (ae (aq (i:=7) nd rfl (Or.inl rfl) (av aU (pv 4) (pv 6))) (ae (aq (i:=8) nd rfl (Or.inl rfl) (av aK (av aL (av aU (av bY (pv 5) (pv 3)) (pv 6)) (aj c_inverse (hr.mono (by decide)) rfl aJ (aa (pv 7) (aa (av aU (pv 2) (pv 6)) af)))) (pv 7))) (ae (aq (i:=9) nd rfl (Or.inl rfl) (av aL (pv 2) (pv 7))) (ai (aC (aM (aa (pv 9) (aa (av aK (av bI (pv 3) (av aL (pv 2) (pv 8))) (pv 9)) af))))))))))),?_⟩
 show bz _ _ _ [some (.ref q1),some (.ref q2),none,none,none,none,none,none,none,none] H
 k_data
 refine⟨q1,_,rfl,t1,rfl,?_⟩
 k_data
 refine⟨q2,_,rfl,t2,rfl,?_⟩
 k_data
 refine⟨M,m,rfl,⟨by omega,by omega⟩,⟨by omega,by omega⟩,fun g u v p H1 z s1 e1=>?_⟩
 have G:=B0 hM z
 have g0:=G.pos
 have gm:g≤m:=Int.le_of_dvd hm G.db
 refine cf (bD.of e1) rfl ?_
 k_data
 obtain⟨L0,L1,GD⟩:=BZ hm G
 have qb:=Dl (a:=n-N) (d:=g) (L:=10^221) g0 (by omega) (by omega)
 have bg:Bd g:=Bd.of (by omega) (by omega)
 refine⟨g0,bg,g0,bg,g0,bg,m/g,M/g,rfl,L0,by omega,fun g' G'=>⟨fun _ r H2 r0 r1 r2 s2=>?_,fun z=>absurd z (by have:=GD.one G';omega)⟩⟩
 have B:=Crt.both (N:=N) (n:=n) (r:=r) hM hm G (hd g G) r2
 have W1:M*(m/g)≤M*m:=Int.mul_le_mul_of_nonneg_left L1 (Int.le_of_lt hM)
 have t0:=Int.emod_nonneg ((n-N)/g*r) (show m/g≠0 by omega)
 have t1':=Int.emod_lt_of_pos ((n-N)/g*r) L0
 refine⟨r,rfl,Bd.of (by omega) (by omega),Bd.of (by omega) (by omega),L0,Bd.of (by omega) (by omega),Bd.of (by omega) (by omega),Bd.of (by omega) (by omega),Bd.of (by omega) (by omega),B.pos,by show 2≤sizeLine;decide,fun p3 hp3=>?_⟩
 exact q p3 _ _ _ B W1 ((s1.trans s2).BM hp3) ((s1.trans s2).free hp3) ag
def Ap (pls:List (Int × Int)) (i j:Nat):Prop:=∃ p q g,pls[i]?=some p∧pls[j]?=some q∧Crt.G p.1 q.1 g∧¬g∣p.2-q.2
def Ba (p:Int × Int):Prop:=0<p.1∧p.1≤10^18 ∧ -(10^80)≤p.2∧p.2≤10^80
def tf (K:PySem.W.Frag):Sp:=fun vs H Q _=>∃(a:Addr) (us:List V) (pls:List (Int × Int)),vs=[.ref a]∧aZ K H a us∧aQ K H (pls.map jG) us∧(∀ p∈pls,Ba p)∧pls.length≤20 ∧
 (∀ i j p H',i<j→Ap pls i j→(∀ i' j',i'<j'→(i'<i∨(i'=i∧j'<j))→¬Ap pls i' j')→aF H H'→H p=none→H' p=some (.tup [.int (i:Nat),.int (j:Nat)])→Q (.ref p) H') ∧
 (∀ H',(∀ i j,i<j→¬Ap pls i j)→aF H H'→Q .non H')
theorem fV:aA [("places":Str),("i":Str),("one":Str),("j":Str),("other":Str)] [("places":Str)] (ak (top 41)):=⟨rfl,rfl,rfl,by decide +kernel,rfl,by decide +kernel,by decide +kernel⟩
theorem wq (D:ax K mg "first_apart" (top 41)) (c_are_apart:Callee P w K mg base aO 2 "are_apart" ["one","other"] (sZ K)) (n_enumerate:mg "enumerate"=none):Callee P w K mg base aO 3 "first_apart" [("places":Str)] (tf K):=by
 refine aB D (fun _ _ _ _ _ _ us hl=>by obtain⟨_,rfl⟩:=cI hl;exact rfl) fV (fun vs H Q E h=>by obtain⟨a,b,c,rfl,_⟩:=h;rfl) (fun f cdv A outer s H vs Q E hr h=>?_)
 obtain⟨a,us,pls,rfl,hS,hd,hok,hlen,q1,q2⟩:=h
 have nd:=fV.nd
 refine⟨_,(ae (cV PassesOwn.never rfl (sI rfl n_enumerate (aa (pv 0) af)) (cu (n:=2) rfl (aD (ay (i:=1) nd rfl (Or.inl rfl) (.inr rfl)) (aD (ay (i:=2) nd rfl (Or.inl rfl) (.inr rfl)) aW))) (ai (cV PassesOwn.never rfl (sI rfl n_enumerate (aa (pv 0) af)) (cu (n:=2) rfl (aD (ay (i:=3) nd rfl (Or.inl rfl) (.inr rfl)) (aD (ay (i:=4) nd rfl (Or.inl rfl) (.inr rfl)) aW))) (ai (aP (PW.pt (ny (aw dR (pv 1) (pv 3) (az _)) (nA (bN (aj c_are_apart (hr.mono (by decide)) rfl aG (aa (pv 2) (aa (pv 4) af))) (fun _=>rfl))))) (ai (aC (aM (aa (pv 1) (aa (pv 3) af))))) aI))))) (ai (aC gY))),?_⟩
 show bz _ _ _ [some (.ref a),none,none,none,none] H
 k_data
 have hul:us.length=pls.length:=by rw [hd.length,List.length_map]
 have at_:∀{k:Nat} {x:V},us[k]?=some x→∃ p,pls[k]?=some p∧Ba p∧dv K H (jG p) x:=by
  intro k x hx
  obtain⟨d,e,hv⟩:=hd.get hx
  rw [List.getElem?_map] at e
  obtain⟨p,e1,e2⟩:=Option.map_eq_some_iff.mp e
  subst e2
  exact⟨p,e1,hok p (List.mem_of_getElem? e1),hv⟩
 refine⟨⟨_,hS⟩,?_⟩
 refine l5 (xs:=us) (fun i σ' H'=>(∃ o1 o2 o3 o4:Option V,σ'=[some (.ref a),o1,o2,o3,o4])∧aF H H'∧∀ i' j',i'<j'→i'<i→¬Ap pls i' j') ⟨⟨_,_,_,_,rfl⟩,aF.refl _,fun _ _ _ z=>absurd z (by omega)⟩ (fun i σ' H' _ h=>hS.same h.2.1) ?_ ?_
 ·rintro i x σ' H' p hx ⟨⟨o1,o2,o3,o4,rfl⟩,hs,hno⟩ hp
  have s1:=hs.trans (ao (o:=.tup [.int i,x]) hp)
  refine⟨p,_,rfl,bD.of ag,rfl,?_⟩
  generalize upd H' p _=H1 at *
  k_data
  refine⟨⟨_,hS.same s1⟩,?_⟩
  refine l5 (xs:=us) (fun j σ' H2=>(∃ o3 o4:Option V,σ'=[some (.ref a),some (.int (i:Int)),some x,o3,o4])∧aF H H2∧∀ j',j'<j→i<j'→¬Ap pls i j') ⟨⟨_,_,rfl⟩,s1,fun _ z=>absurd z (by omega)⟩ (fun j σ' H2 _ h=>hS.same h.2.1) ?_ ?_
  ·rintro j y σ' H2 p2 hy ⟨⟨o3,o4,rfl⟩,hs2,hno2⟩ hp2
   have s3:=hs2.trans (ao (o:=.tup [.int j,y]) hp2)
   refine⟨p2,_,rfl,bD.of ag,rfl,?_⟩
   generalize upd H2 p2 _=H3 at *
   k_data
   refine aR (fun c=>?_) (fun c=>?_)
   ·obtain⟨pi,ei,oi,di⟩:=at_ hx
    obtain⟨pj,ej,oj,dj⟩:=at_ hy
    refine⟨x,y,pi.1,pi.2,pj.1,pj.2,rfl,dv.same s3 _ di,dv.same s3 _ dj,oi.1,Int.le_trans oi.2.1 (by decide),oj.1,Int.le_trans oj.2.1 (by decide),fun g H4 G s4=>⟨_,bK.mpr rfl,?_⟩⟩
    by_cases dvd:g∣pi.2-pj.2
    ·rw [if_neg (by simp [dvd])]
     refine⟨s3.trans s4,fun j' z1 z2=>?_⟩
     rcases (by omega:j'<j∨j'=j) with z | z
     ·exact hno2 j' z z2
     ·subst z
      rintro⟨p',q',g',e1,e2,e3,e4⟩
      rw [ei] at e1;cases e1
      rw [ej] at e2;cases e2
      obtain rfl:=G.one e3
      exact e4 dvd
    ·rw [if_pos (by simp [dvd])]
     refine⟨by show 2≤sizeLine;decide,fun p3 hp3=>?_⟩
     refine q1 i j p3 _ (by omega) ⟨pi,pj,g,ei,ej,G,dvd⟩ (fun i' j' z1 z2=>?_) ((s3.trans s4).BM hp3) ((s3.trans s4).free hp3) ag
     rcases z2 with z2 | ⟨z2,z3⟩
     ·exact hno i' j' z1 z2
     ·subst z2
      exact hno2 j' z3 z1
   ·refine⟨s3,fun j' z1 z2=>?_⟩
    rcases (by omega:j'<j∨j'=j) with z | z
    ·exact hno2 j' z z2
    ·omega
  ·rintro σ' H2 ⟨⟨o3,o4,rfl⟩,hs2,hno2⟩
   refine⟨⟨_,_,_,_,rfl⟩,hs2,fun i' j' z1 z2=>?_⟩
   rcases (by omega:i'<i∨i'=i) with z | z
   ·exact hno i' j' z1 z
   ·subst z
    by_cases z3:j'<us.length
    ·exact hno2 j' z3 z1
    ·rintro⟨p',q',g',e1,e2,e3,e4⟩
     have:=(List.getElem?_eq_some_iff.mp e2).1
     omega
 ·rintro σ' H' ⟨⟨o1,o2,o3,o4,rfl⟩,hs,hno⟩
  k_data
  refine q2 H' (fun i j z=>?_) hs
  by_cases z3:i<us.length
  ·exact hno i j z z3
  ·rintro⟨p',q',g',e1,e2,e3,e4⟩
   have:=(List.getElem?_eq_some_iff.mp e1).1
   omega
def An (K:PySem.W.Frag):Sp:=fun vs H Q _=>∃(a:Addr) (us:List V) (pls:List (Int × Int)),vs=[.ref a]∧aZ K H a us∧aQ K H (pls.map jG) us∧(∀ p∈pls,Ba p)∧pls.length≤12 ∧
 (∀ i j p H',i<j→Ap pls i j→(∀ i' j',i'<j'→(i'<i∨(i'=i∧j'<j))→¬Ap pls i' j')→aF H H'→H p=none→H' p=some (.tup [.str "apart",.int (i:Nat),.int (j:Nat)])→Q (.ref p) H') ∧
 (∀ W x p H',(∀ i j,i<j→¬Ap pls i j)→Crt.Told pls W x→W≤10^220→aF H H'→H p=none→H' p=some (.tup [.int W,.int x])→Q (.ref p) H')
theorem fA:aA [("places":Str),("apart":Str),("told":Str),("place":Str)] [("places":Str)] (ak (top 40)):=⟨rfl,rfl,rfl,by decide +kernel,rfl,by decide +kernel,by decide +kernel⟩
theorem Bf (D:ax K mg "put_together" (top 40)) (c_first_apart:Callee P w K mg base aO 3 "first_apart" ["places"] (tf K)) (c_both_together:Callee P w K mg base aO 4 "both_together" ["one","other"] (xG K)):Callee P w K mg base aO 5 "put_together" [("places":Str)] (An K):=by
 refine aB D (fun _ _ _ _ _ _ us hl=>by obtain⟨_,rfl⟩:=cI hl;exact rfl) fA (fun vs H Q E h=>by obtain⟨a,b,c,rfl,_⟩:=h;rfl) (fun f cdv A outer s H vs Q E hr h=>?_)
 obtain⟨a,us,pls,rfl,hS,hd,hok,hlen,q1,q2⟩:=h
 have nd:=fA.nd
 refine⟨_,(ae (aq (i:=1) nd rfl (Or.inl rfl) (aj c_first_apart (hr.mono (by decide)) rfl aG (aa (pv 0) af))) (ae (aP (aw sE (pv 1) gY (az _)) (ai (aC (aM (aa bM (aa (aV bB (pv 1) ah (fun _ _=>rfl)) (aa (aV bB (pv 1) ah (fun _ _=>rfl)) af)))))) aI) (ae (aq (i:=2) nd rfl (Or.inl rfl) (aM (aa ah (aa ah af)))) (ae (cV PassesOwn.never rfl (cp (pv 0)) (ay (i:=3) nd rfl (Or.inl rfl) (.inr rfl)) (ai (aq (i:=2) nd rfl (Or.inl rfl) (aj c_both_together (hr.mono (by decide)) rfl aG (aa (pv 2) (aa (pv 3) af)))))) (ai (aC (pv 2))))))),?_⟩
 show bz _ _ _ [some (.ref a),none,none,none] H
 k_data
 have hul:us.length=pls.length:=by rw [hd.length,List.length_map]
 refine⟨a,us,pls,rfl,hS,hd,hok,by omega,fun i j p H1 ij ap no s1 f1 e1=>?_,fun H1 no s1=>?_⟩
 ·show ite _ _ _
  rw [if_pos (by intro z;cases z)]
  refine cf (bD.of e1) rfl (cf (bD.of e1) rfl ⟨by show 3≤sizeLine;decide,fun p2 hp2=>?_⟩)
  exact q1 i j p2 _ ij ap no (s1.BM hp2) (s1.free hp2) ag
 show ite _ _ _
 rw [if_neg (by simp)]
 refine⟨by show 2≤sizeLine;decide,fun p hp=>?_⟩
 have s2:=s1.trans (ao (o:=.tup [V.int 1,V.int 0]) hp)
 refine⟨⟨_,hS.same s2⟩,?_⟩
 have pw:∀ i:Nat,i≤12→(10:Int)^(18*i)≤10^216:=by decide
 refine eO (xs:=us) (fun i σ' H'=>∃(r:Addr) (M N:Int) (o3:Option V),σ'=[some (.ref a),some .non,some (.ref r),o3]∧aF H H'∧H r=none∧H' r=some (.tup [.int M,.int N])∧Crt.Told (pls.take i) M N∧M≤10^(18*i))
  ⟨p,1,0,none,rfl,s2,s1.free hp,ag,by rw [List.take_zero];exact .nil,by decide⟩ (fun i σ' H' _ h=>by obtain⟨_,_,_,_,_,s,_⟩:=h;exact hS.same s) ?_ ?_
 ·rintro i x σ' H' hx ⟨r,M,N,o3,rfl,hs,hr',er,T,hM⟩
  obtain⟨d,ed,hv⟩:=hd.get hx
  rw [List.getElem?_map] at ed
  obtain⟨pl,e1,e2⟩:=Option.map_eq_some_iff.mp ed
  subst e2
  have ok:=hok pl (List.mem_of_getElem? e1)
  have il:i<pls.length:=(List.getElem?_eq_some_iff.mp e1).1
  have p1:=pw i (by omega)
  have p2:(10:Int)^(18*(i+1))=10^(18*i)*10^18:=by rw [Nat.mul_add,Pw.pow_add]
  have o2:=ok.2.1
  have o3':=ok.2.2
  k_data
  refine⟨.ref r,x,M,N,pl.1,pl.2,rfl,dv.tup (ds:=[.int M,.int N]) er ⟨_,_,rfl,rfl,.one rfl⟩,dv.same hs _ hv,T.pos,by omega,T.x0,T.x1,ok.1,by omega,o3'.1,o3'.2,fun g G=>?_,fun p3 W y H3 B hW s3 f3 e3=>?_⟩
  ·have fit:∀ p'∈pls.take i,∀ d,Crt.G p'.1 pl.1 d→d∣p'.2-pl.2:=by
    intro p' hp' d hd'
    obtain⟨i',e'⟩:=List.mem_iff_getElem?.mp hp'
    have hi':=(List.getElem?_eq_some_iff.mp e').1
    rw [List.length_take] at hi'
    rw [List.getElem?_take_of_lt (by omega)] at e'
    have na:=no i' i (by omega)
    by_cases z:d∣p'.2-pl.2
    ·exact z
    ·exact absurd ⟨p',pl,d,e',e1,hd',z⟩ na
   exact T.fits G fit fun p' hp'=>Crt.zS (hok p' (List.mem_of_mem_take hp')).1 ok.1
  ·have tk:pls.take (i+1)=pls.take i++[pl]:=by rw [List.take_add_one,e1];rfl
   refine⟨p3,rfl,hs.trans s3,hs.free f3,W,y,e3,?_,?_⟩
   ·rw [tk];exact T.step B
   ·rw [p2]
    exact Int.le_trans hW (Int.mul_le_mul hM o2 (Int.le_of_lt ok.1) (by have:=T.pos;omega))
 ·rintro σ' H' ⟨r,M,N,o3,rfl,hs,hr',er,T,hM⟩
  k_data
  rw [hul,List.take_length] at T
  rw [hul] at hM
  have p1:=pw pls.length hlen
  exact q2 M N r H' no T (by omega) hs hr' er
end
end K
namespace K
open PySem PySem.Spec PyProof.Rows L2
section
variable {P:Program} {w:World} {K:PySem.W.Frag} {mg:Str→Option Value} {base:Heap} {C:Addr}
theorem uj {H:Hp} {a:Addr} {kvs:List (Key × V)} {Q:VK} (h:H a=some (.dK kvs)) (q:Q (.int kvs.length) H):xp [.ref a] H Q:=⟨a,_,rfl,.inr ⟨_,h,rfl⟩,q⟩
theorem Df {H:Hp} {a:Addr} {kvs:List (List Key × V)} {Q:VK} (h:H a=some (.dT kvs)) (q:Q (.int kvs.length) H):xp [.ref a] H Q:=⟨a,_,rfl,.inl ⟨_,h,rfl⟩,q⟩
def tG:Sp:=fun vs H Q _=>∃ p q w:Int,vs=[.int p,.int q,.int w]∧2≤p∧p≤10^60∧1≤q∧q≤10^6∧0≤w∧w<p∧Num.Ord p w q.toNat∧∀ t H',aF H H'→H t=none→H' t=some (.dK (c9 p w (rt q.toNat)))→Q (.ref t) H'
theorem fW:aA [("p":Str),("q":Str),("w":Str),("table":Str),("rest":Str)] [("p":Str),("q":Str),("w":Str)] (ak (top 38)):=⟨rfl,rfl,rfl,by decide +kernel,rfl,by decide +kernel,by decide +kernel⟩
theorem wG (D:ax K mg "small_steps" (top 38)) (n_len:mg "len"=none):Callee P w K mg base aO 1 "small_steps" [("p":Str),("q":Str),("w":Str)] tG:=by
 refine aB D (fun _ _ _ _ _ _ us hl=>by obtain⟨_,_,_,rfl⟩:=dQ hl;exact rfl) fW (fun vs H Q E h=>by obtain⟨a,b,c,rfl,_⟩:=h;rfl) (fun f cdv A outer s H vs Q E hr h=>?_)
 obtain⟨p,q',w',rfl,p2,p9,q1,q6,w0,w1,o,q⟩:=h
 have nd:=fW.nd
 refine⟨_,(ae (aq (i:=3) nd rfl (Or.inl rfl) wO) (ae (aq (i:=4) nd rfl (Or.inl rfl) ah) (ae (bf PassesOwn.never (aw dR (av aL (aH cT rfl n_len PySem.boot_len (aa (pv 3) af)) (aH cT rfl n_len PySem.boot_len (aa (pv 3) af))) (pv 1) (az _)) (ae (iB (dD hr) (pv 3) (pv 4) (aH cT rfl n_len PySem.boot_len (aa (pv 3) af)) rfl) (ai (aq (i:=4) nd rfl (Or.inl rfl) (av aK (av aL (pv 4) (pv 2)) (pv 0)))))) (ai (aC (pv 3)))))),?_⟩
 show bz _ _ _ [some (.int p),some (.int q'),some (.int w'),none,none] H
 k_data
 intro t ht
 refine bh (α:=Nat) (fun i=>[some (.int p),some (.int q'),some (.int w'),some (.ref t),some (.int (w'^i%p))]) (fun i H1=>H1=upd H t (.dK (c9 p w' i))∧∀ j,j<i→j*j<q'.toNat) (fun i=>q'.toNat+1-i) 0 ?_ ⟨rfl,fun j z=>absurd z (Nat.not_lt_zero _)⟩ ?_
 ·rw [Int.pow_zero,Int.emod_eq_of_lt (by decide) (by omega)]
 rintro i H1 ⟨rfl,hi⟩
 have e1:upd H t (.dK (c9 p w' i)) t=some (.dK (c9 p w' i)):=ag
 k_data
 refine uj e1 (uj e1 ⟨_,rfl,_,rfl,?_⟩)
 rw [fv]
 have q0:0<q'.toNat:=by omega
 have ii:i≤1001:=by
  rcases Nat.lt_or_ge 1001 i with z | z
  ·have:=hi 1001 z;omega
  ·exact z
 refine⟨Bd.of (by omega) (by omega),Bd.of (by omega) (by omega),aR (fun c=>?_) (fun c=>?_)⟩
 ·have c':i*i<q'.toNat:=by
   have:((i*i:Nat):Int)<q':=by rw [Int.natCast_mul];exact c
   omega
  have iq:i<q'.toNat:=by
   rcases Nat.eq_zero_or_pos i with z | z
   ·omega
   ·have:=Nat.le_mul_of_pos_left i z;omega
  have r0:=Int.emod_nonneg (w'^i) (show p≠0 by omega)
  have r1:=Int.emod_lt_of_pos (w'^i) (show 0<p by omega)
  have hv:bV (c9 p w' i) (Sum.inl (w'^i%p))=none:=iO fun j hj e=>by
   have:=o.kR (by omega) iq e
   omega
  refine⟨_,fun _ _ z=>z,uj e1 ⟨_,lr.k (k:=Sum.inl (w'^i%p)) e1 (by rw [fv];exact Nat.lt_of_le_of_lt ii (by decide)),Bd.of (by omega) (by omega),Bd.of (by omega) (by omega),by omega,i+1,?_,?_,fun j hj=>?_,by omega⟩⟩
  ·rw [Int.pow_succ,Int.mul_emod,Int.emod_emod,← Int.mul_emod]
  ·rw [pS _ hv,tL,fv,iP]
  ·rcases (by omega:j<i∨j=i) with z | z
   ·exact hi j z
   ·rw [z];exact c'
 ·have e:rt q'.toNat=i:=CA (by
   have:q'≤((i*i:Nat):Int):=by rw [Int.natCast_mul];omega
   omega) hi
  exact q t _ (ao ht) ht (by rw [e];exact e1)
def tu (C:Addr):Sp:=fun vs H Q _=>∃(x dx:Addr) (m:Int),vs=[.ref x,.int m]∧H x=some (.ins C dx [])∧0≤m∧m≤10^6∧∀ d H',(∀ b o,b≠x→H b=some o→H' b=some o)→d≠x→H d=none→b8 C ⟨x,dx,d,m,0,[]⟩ H'→Q .non H'
theorem eT:aA [("self":Str),("most":Str)] [("self":Str),("most":Str)] (ak (inClass (top 37) 0)):=⟨rfl,rfl,rfl,by decide +kernel,rfl,by decide +kernel,by decide +kernel⟩
theorem wx (D:AD K C "__init__" "Kept.__init__" (inClass (top 37) 0)) (cl:lH K C) (na_most:cG K C "most") (na_counted:cG K C "counted") (na_laid:cG K C "laid"):b9 P w K mg base aO 1 C "__init__" [("self":Str),("most":Str)] (tu C):=by
 refine fg D (fun _ _ _ _ _ _ us hl=>by obtain⟨_,_,rfl⟩:=cL hl;exact rfl) eT (fun vs H Q E h=>by obtain⟨a,b,c,rfl,_⟩:=h;rfl) (fun f cdv A outer s H vs Q E hr h=>?_)
 obtain⟨x,dx,m,rfl,hx,m0,m1,q⟩:=h
 have nd:=eT.nd
 refine⟨_,(ae (rA (pv 0) (pv 1) rfl) (ae (rA (pv 0) ah rfl) (ai (rA (pv 0) wQ rfl)))),?_⟩
 show bz _ _ _ [some (.ref x),some (.int m)] H
 k_data
 refine⟨C,dx,[],hx,cl,na_most,by decide,C,dx,_,ag,cl,na_counted,by show 1<1000;decide,fun d hd=>?_⟩
 have nx:d≠x:=fun z=>by rw [z,ag] at hd;cases hd
 refine⟨C,dx,_,by rw [au (Ne.symm nx),ag],cl,na_laid,by show 2<1000;decide,q d _ (fun b o hb e=>?_) nx (by rw [au nx,au nx] at hd;exact hd) ⟨ag,⟨[],?_,rfl,List.nodup_nil,fun y v e=>by cases e⟩,m0,m1⟩⟩
 ·rw [au hb,au (fun z=>by rw [z] at hb e;rw [au hb,au hb,e] at hd;cases hd),au hb,au hb]
  exact e
 ·rw [au nx,ag]
def xF (C:Addr):Sp:=fun vs H Q _=>∃(k:KH) (n:Int),vs=[.ref k.a,.int n]∧b8 C k H∧∀ H',(∀ b,b≠k.a→H' b=H b)→b8 C (h9 k n) H'→Q .non H'
theorem dY:aA [("self":Str),("many":Str)] [("self":Str),("many":Str)] (ak (inClass (top 37) 4)):=⟨rfl,rfl,rfl,by decide +kernel,rfl,by decide +kernel,by decide +kernel⟩
theorem y7 (D:AD K C "add_steps" "Kept.add_steps" (inClass (top 37) 4)) (cl:lH K C) (na_counted:cG K C "counted"):b9 P w K mg base aO 1 C "add_steps" [("self":Str),("many":Str)] (xF C):=by
 refine fg D (fun _ _ _ _ _ _ us hl=>by obtain⟨_,_,rfl⟩:=cL hl;exact rfl) dY (fun vs H Q E h=>by obtain⟨a,b,rfl,_⟩:=h;rfl) (fun f cdv A outer s H vs Q E hr h=>?_)
 obtain⟨k,n,rfl,kp,q⟩:=h
 have nd:=dY.nd
 refine⟨_,(ai (uQ (pv 0) (pv 1) AU)),?_⟩
 show jT _ _ _ _ _ _ [some (.ref k.a),some (.int n)] H
 k_data
 refine⟨C,k.dx,AX k,kp.ins,cl,na_counted,_,rfl,k.c,n,rfl,rfl,k.dx,AX k,kp.ins,by show 3<1000;decide,q _ (fun b hb=>au hb) (kp.Dd rfl)⟩
def Bs (H:Hp) (ks:List (Int × Int × Int)) (bs:List Addr):Prop:=bs.length=ks.length∧∀(i:Nat) b,bs[i]?=some b→∃ y,ks[i]?=some y∧H b=some (.tup ((k3 y).map kV))
def qh (C:Addr):Sp:=fun vs H Q _=>∃(k:KH),vs=[.ref k.a]∧b8 C k H∧∀ p bs H',H p=none→aF H H'→H' p=some (.lst (bs.map V.ref))→Bs H k.ks bs→Q (.ref p) H'
theorem fS:aA [("self":Str)] [("self":Str)] (ak (inClass (top 37) 2)):=⟨rfl,rfl,rfl,by decide +kernel,rfl,by decide +kernel,by decide +kernel⟩
theorem rf (D:AD K C "tables" "Kept.tables" (inClass (top 37) 2)) (cl:lH K C) (na_laid:cG K C "laid") (n_list:mg "list"=none):b9 P w K mg base aO 1 C "tables" [("self":Str)] (qh C):=by
 refine fg D (fun _ _ _ _ _ _ us hl=>by obtain⟨_,rfl⟩:=cI hl;exact rfl) fS (fun vs H Q E h=>by obtain⟨a,rfl,_⟩:=h;rfl) (fun f cdv A outer s H vs Q E hr h=>?_)
 obtain⟨k,rfl,kp,q⟩:=h
 have nd:=fS.nd
 refine⟨_,(ai (aC (dz (qH rfl) rfl n_list L2.boot_list (aa (gX (pv 0) rfl) af)))),?_⟩
 show h7 _ _ [some (.ref k.a)] H
 k_data
 obtain⟨kvs,kd⟩:=kp.ex
 refine⟨C,_,_,kp.ins,cl,na_laid,_,rfl,k.d,kvs,rfl,kd.dict,fun p bs hl hb hp=>?_⟩
 refine q p bs _ hp (ao hp) ag ⟨hl.trans kd.len,fun i b e=>?_⟩
 obtain⟨ky,v,e1,e2⟩:=hb i b e
 have e3:(k.ks.map k3)[i]?=some ky:=by rw [← kd.keys,List.getElem?_map,e1];rfl
 rw [List.getElem?_map] at e3
 obtain⟨y,e4,rfl⟩:=Option.map_eq_some_iff.mp e3
 exact⟨y,e4,e2⟩
def xP (C:Addr):Sp:=fun vs H Q _=>∃(k:KH) (p q w:Int),vs=[.ref k.a,.int p,.int q,.int w]∧b8 C k H∧tN k∧2≤p∧p≤10^60∧1≤q∧q≤10^6∧0≤w∧w<p∧Num.Ord p w q.toNat∧∀ t H',b8 C (je k (p,q,w)) H'→dO k.a k.d H H'→H' t=some (.dK (c9 p w (rt q.toNat)))→Q (.ref t) H'
theorem dJ:aA [("self":Str),("p":Str),("q":Str),("w":Str),("key":Str),("table":Str)] [("self":Str),("p":Str),("q":Str),("w":Str)] (ak (inClass (top 37) 3)):=⟨rfl,rfl,rfl,by decide +kernel,rfl,by decide +kernel,by decide +kernel⟩
theorem wy (D:AD K C "used_table" "Kept.used_table" (inClass (top 37) 3)) (cl_Kept:lH K C) (na_laid:cG K C "laid") (na_most:cG K C "most") (n_len:mg "len"=none) (c_small_steps:Callee P w K mg base aO 1 "small_steps" ["p","q","w"] tG)
  (c_Kept_add_steps:b9 P w K mg base aO 1 C "add_steps" ["self","many"] (xF C)) (c_Kept_tables:b9 P w K mg base aO 1 C "tables" ["self"] (qh C)):b9 P w K mg base aO 2 C "used_table" [("self":Str),("p":Str),("q":Str),("w":Str)] (xP C):=by
 refine fg D (fun _ _ _ _ _ _ us hl=>by obtain⟨_,_,_,_,rfl⟩:=sk hl;exact rfl) dJ (fun vs H Q E h=>by obtain⟨a,b,c,d,rfl,_⟩:=h;rfl) (fun f cdv A outer s H vs Q E hr h=>?_)
 obtain⟨k,p,q',w',rfl,kp,le,p2,p9,q1,q6,w0,w1,o,q⟩:=h
 have nd:=dJ.nd
 refine⟨_,(ae (aq (i:=4) nd rfl (Or.inl rfl) (aM (aa (pv 1) (aa (pv 2) (aa (pv 3) af))))) (ae (c8 (aP (xh (Bl (dD hr) (pv 4) (gX (pv 0) rfl))) (ai (aq (i:=5) nd rfl (Or.inl rfl) (pP (dD hr) (gX (pv 0) rfl) (pv 4) ⟨rfl,rfl,rfl,rfl⟩))) (ae (aq (i:=5) nd rfl (Or.inl rfl) (aj c_small_steps (hr.mono (by decide)) rfl aG (aa (pv 1) (aa (pv 2) (aa (pv 3) af))))) (ai (dW (kJ c_Kept_add_steps cl_Kept (hr.mono (by decide)) aG (pv 0) (aa (aH cT rfl n_len PySem.boot_len (aa (pv 5) af)) af))))))) (ae (iB (dD hr) (gX (pv 0) rfl) (pv 4) (pv 5) rfl) (ae (c8 (aP (aw cw (aH cT rfl n_len PySem.boot_len (aa (gX (pv 0) rfl) af)) (gX (pv 0) rfl) (az _)) (ai (dW (pP (dD hr) (gX (pv 0) rfl) (aV iu (uK c_Kept_tables cl_Kept (hr.mono (by decide)) aG (pv 0)) ah (fun _ _=>rfl)) ⟨rfl,rfl,rfl,rfl⟩))) aI)) (ai (aC (pv 5))))))),?_⟩
 show bz _ _ _ [some (.ref k.a),some (.int p),some (.int q'),some (.int w'),none,none] H
 k_data
 refine⟨by show 3≤sizeLine;decide,fun p1 hp1=>?_⟩
 have s1:=ao (o:=.tup [V.int p,V.int q',V.int w']) hp1
 have e1:upd H p1 (.tup [V.int p,V.int q',V.int w']) p1=some (.tup ((k3 (p,q',w')).map kV)):=ag
 have kp1:=kp.same s1
 generalize upd H p1 _=H1 at *
 obtain⟨kvs,kd⟩:=kp1.ex
 generalize hx:((p,q',w'):Int × Int × Int)=x at *
 refine⟨fun σ' H'=>∃(t:Addr) (c':Int),σ'=[some (.ref k.a),some (.int p),some (.int q'),some (.int w'),some (.ref p1),some (.ref t)]∧c'=(je k x).c∧H' k.a=some (.ins C k.dx (AX { k with c:=c' }))∧H' k.d=some (.dT (bL kvs (k3 x)))∧H' t=some (.dK (c9 p w' (rt q'.toNat)))∧dO k.a k.d H1 H',?_,?_⟩
 ·k_data
  refine⟨C,_,_,kp1.ins,cl_Kept,na_laid,_,rfl,k.d,rfl,_,eI.t kd.dict e1,?_⟩
  refine aR (fun c=>?_) (fun c=>?_)
  ·have mem:x∈k.ks:=kd.mem.mp c
   have ec:(je k x).c=k.c:=if_pos mem
   obtain⟨v,hv⟩:=Option.isSome_iff_exists.mp c
   obtain⟨t,rfl,ht⟩:=kd.tab x v hv
   subst hx
   rw [ec]
   exact⟨C,_,_,kp1.ins,cl_Kept,na_laid,_,rfl,k.d,rfl,.inr ⟨_,.inl kd.dict⟩,kvs,kd.dict,_,e1,_,hv,t,rfl,by rw [au kp1.ne];exact kp1.ins,ag,by rw [au (kp1.apart ht (by intro _ _ _ z;cases z) (by intro _ z;cases z)).2];exact ht,dO.CJ⟩
  ·have mem:x∉k.ks:=fun z=>c (kd.mem.mpr z)
   have hv:bV kvs (k3 x)=none:=by
    cases e:bV kvs (k3 x) with
    | none=>rfl
    | some v=>rw [e] at c;exact absurd rfl c
   refine⟨p,q',w',rfl,p2,p9,q1,q6,w0,w1,o,fun t H2 s2 ft ht=>⟨k.dx,AX k,(kp1.same s2).ins,rfl,uj ht ⟨k,_,rfl,kp1.same s2,fun H3 oth kp3=>⟨t,rfl,?_,?_,?_,fun b u ba bd e=>?_⟩⟩⟩⟩
   ·have ec:(je k x).c=k.c+((c9 p w' (rt q'.toNat)).length:Int):=by rw [fv,← hx];rw [← hx] at mem;exact if_neg mem
    rw [ec]
    exact kp3.ins
   ·rw [oth _ (Ne.symm kp1.ne),tX hv]
    exact s2 _ _ kd.dict
   ·rw [oth _ (fun z=>by rw [z,(kp1.same s2).ins] at ht;cases ht)]
    exact ht
   ·rw [oth _ ba]
    exact s2 _ _ e
 ·rintro σ' H2 ⟨t,c',rfl,ec,ia,hd,ht,b2⟩
  k_data
  have ap1:=kp1.apart e1 (by intro _ _ _ z;cases z) (by intro _ z;cases z)
  have kl:kvs.length≤10^6:=by
   have h1:=kd.len
   have h2:(k.ks.length:Int)≤k.most:=le
   have h3:=kp.m1
   omega
  have tne:t≠k.d:=gH ht hd (by intro z;cases z)
  refine⟨C,_,_,ia,cl_Kept,na_laid,_,rfl,k.d,rfl,_,lr.t hd (b2 _ _ ap1.1 ap1.2 e1) ?_,?_⟩
  ·have:=oI kvs (k3 x)
   exact Nat.lt_of_le_of_lt (Nat.le_trans this kl) (by decide)
  rw [pS _ (by rw [iR,if_pos rfl])]
  have nad:k.a≠k.d:=kp1.ne
  have b4:dO k.a k.d H1 (upd H2 k.d (.dT (bL kvs (k3 x)++[(k3 x,.ref t)]))):=b2.trans dO.CJ
  have a4:upd H2 k.d (.dT (bL kvs (k3 x)++[(k3 x,.ref t)])) k.a=some (.ins C k.dx (AX { k with c:=c' })):=by rw [au nad];exact ia
  have t4:upd H2 k.d (.dT (bL kvs (k3 x)++[(k3 x,.ref t)])) t=some (.dK (c9 p w' (rt q'.toNat))):=by rw [au tne];exact ht
  have d4:upd H2 k.d (.dT (bL kvs (k3 x)++[(k3 x,.ref t)])) k.d=some (.dT (bL kvs (k3 x)++[(k3 x,.ref t)])):=ag
  generalize upd H2 k.d _=H4 at *
  have kd4:=kd.use (H':=H4) (x:=x) (t:=t) (fun y v ⟨t',e,z⟩=>⟨t',e,kp1.keep b4 z⟩) ⟨t,rfl,by rw [← hx];exact t4⟩ d4
  have kp4:b8 C { k with c:=c',ks:=cz k.ks x } H4:=⟨a4,⟨_,kd4.dict,kd4.keys,kd4.nd,kd4.tab⟩,kp.m0,kp.m1⟩
  have l4:=kd4.len
  refine⟨fun σ' H'=>σ'=[some (.ref k.a),some (.int p),some (.int q'),some (.int w'),some (.ref p1),some (.ref t)]∧b8 C (je k x) H'∧dO k.a k.d H1 H'∧H' t=some (.dK (c9 p w' (rt q'.toNat))),?_,?_⟩
  ·k_data
   refine⟨C,_,_,a4,cl_Kept,na_laid,_,rfl,Df d4 ⟨C,_,_,a4,cl_Kept,na_most,_,rfl,_,rfl,k.most,rfl,aR (fun c=>?_) (fun c=>?_)⟩⟩
   ·have c2:k.most<((cz k.ks x).length:Int):=by rw [← show (bL kvs (k3 x)++[(k3 x,V.ref t)]).length=(cz k.ks x).length from l4];exact c
    generalize bL kvs (k3 x)++[(k3 x,V.ref t)]=kvs4 at *
    obtain⟨q0,v0,r,rfl⟩:∃ q0 v0 r,kvs4=(q0,v0)::r:=by
     cases kvs4 with
     | nil=>have:=kp.m0;simp at c;omega
     | cons y r=>exact⟨y.1,y.2,r,rfl⟩
    refine⟨C,_,_,a4,cl_Kept,na_laid,_,rfl,k.d,rfl,.inr ⟨_,.inl d4⟩,k.dx,_,a4,rfl,{ k with c:=c',ks:=cz k.ks x },rfl,kp4,fun pl bs H5 fpl s5 e5 hb=>?_⟩
    obtain⟨b0,bs',rfl⟩:∃ b0 bs',bs=b0::bs':=by
     cases bs with
     | nil=>have h1:=hb.1;have h2:(0:Nat)=(cz k.ks x).length:=h1;have:=kp.m0;omega
     | cons y r=>exact⟨y,r,rfl⟩
    obtain⟨y,hy,hb0⟩:=hb.2 0 b0 rfl
    have ey:q0=k3 y:=by
     have h1:(((q0,v0)::r).map (·.1))[0]?=((cz k.ks x).map k3)[0]?:=congrArg (·[0]?) kd4.keys
     rw [List.getElem?_map (l:=cz k.ks x),show (cz k.ks x)[0]?=some y from hy] at h1
     exact Option.some.inj h1
    refine⟨pl,_,0,_,rfl,rfl,aZ.of e5,lu,_,s5 _ _ d4,_,b0,rfl,by rw [ey];exact s5 _ _ hb0,_,b7 rfl,?_⟩
    rw [drop_tail kd4.nodup]
    have hk:∀ b u,b≠k.d→H4 b=some u→upd H5 k.d (.dT r) b=some u:=fun b u n e=>by rw [au n];exact s5 _ _ e
    have cut:=kd4.cut hk ag
    have ek:je k x={ k with c:=c',ks:=(cz k.ks x).tail }:=by
     rw [ec]
     unfold je oF
     rw [if_pos c2]
    rw [ek]
    exact⟨⟨hk _ _ nad a4,⟨_,cut.dict,cut.keys,cut.nd,cut.tab⟩,kp.m0,kp.m1⟩,b4.trans fun b u ba bd e=>hk b u bd e,hk _ _ tne t4⟩
   ·have c2:¬k.most<((cz k.ks x).length:Int):=by rw [← show (bL kvs (k3 x)++[(k3 x,V.ref t)]).length=(cz k.ks x).length from l4];exact c
    have ek:je k x={ k with c:=c',ks:=cz k.ks x }:=by
     rw [ec]
     unfold je oF
     rw [if_neg c2]
    rw [ek]
    exact⟨kp4,b4,t4⟩
  ·rintro σ' H5 ⟨rfl,kp5,b5,t5⟩
   k_data
   exact q t H5 kp5 ((dO.of s1).trans b5) t5
end
end K
namespace K
open PySem PySem.Spec PyProof.Rows L2
section
variable {P:Program} {w:World} {K:PySem.W.Frag} {mg:Str→Option Value} {base:Heap} {C:Addr}
theorem vB {d m i:Nat} (m0:0<m) (h:i*m≤d) (h1:d-i*m<m):i=d/m∧d-i*m=d%m:=by
 have e:=Nat.div_add_mod d m
 have hd:d/m=i:=by
  rw [Nat.div_eq_iff m0]
  constructor
  ·exact h
  ·omega
 refine⟨hd.symm,?_⟩
 rw [hd,Nat.mul_comm] at e
 omega
def mF:Sp:=fun vs H Q _=>∃(p back c w:Int) (t:Addr) (q d:Nat),vs=[.int p,.ref t,.int back,.int c]∧2≤p∧p≤10^60∧Num.Ord p w q∧q≤10^6∧H t=some (.dK (c9 p w (rt q)))∧0≤back∧back<p∧Num.Al p (back*w^rt q) 1∧d<q∧c=w^d%p∧∀ r H',aF H H'→H r=none→H' r=some (.tup [.int (d/rt q:Nat),.int (d%rt q:Nat)])→Q (.ref r) H'
theorem jw:aA [("p":Str),("table":Str),("back":Str),("c":Str),("i":Str),("rest":Str)] [("p":Str),("table":Str),("back":Str),("c":Str)] (ak (top 50)):=⟨rfl,rfl,rfl,by decide +kernel,rfl,by decide +kernel,by decide +kernel⟩
theorem ri (D:ax K mg "steps_to" (top 50)):Callee P w K mg base aO 1 "steps_to" [("p":Str),("table":Str),("back":Str),("c":Str)] mF:=by
 refine aB D (fun _ _ _ _ _ _ us hl=>by obtain⟨_,_,_,_,rfl⟩:=sk hl;exact rfl) jw (fun vs H Q E h=>by obtain⟨a,b,c,d,e,f,g,rfl,_⟩:=h;rfl) (fun f cdv A outer s H vs Q E hr h=>?_)
 obtain⟨p,back,c,w',t,q',d,rfl,p2,p9,o,q6,ht,b0,b1,hb,dq,rfl,q⟩:=h
 have nd:=jw.nd
 refine⟨_,(ae (aq (i:=4) nd rfl (Or.inl rfl) ah) (ae (aq (i:=5) nd rfl (Or.inl rfl) (pv 3)) (ae (bf PassesOwn.never (xh (uJ (dD hr) (pv 5) (pv 1))) (ae (aq (i:=5) nd rfl (Or.inl rfl) (av aK (av aL (pv 5) (pv 2)) (pv 0))) (ai (dI (i:=4) nd rfl (Or.inl rfl) ah (fJ gh))))) (ai (aC (aM (aa (pv 4) (aa (gp (dD hr) (pv 1) (pv 5) (fun _ _=>rfl)) af)))))))),?_⟩
 show bz _ _ _ [some (.int p),some (.ref t),some (.int back),some (.int (w'^d%p)),none,none] H
 k_data
 have m0:=xA o.pos
 have mq:=Aj o.pos
 generalize hm:rt q'=m at *
 refine bh (α:=Nat) (fun i=>[some (.int p),some (.ref t),some (.int back),some (.int (w'^d%p)),some (.int (i:Int)),some (.int (w'^(d-i*m)%p))]) (fun i H1=>H1=H∧i*m≤d) (fun i=>d+1-i) 0 (by rw [Nat.zero_mul,Nat.sub_zero];rfl) ⟨rfl,by rw [Nat.zero_mul];exact Nat.zero_le _⟩ ?_
 rintro i H1 ⟨rfl,hi⟩
 replace hi:i*m≤d:=hi
 have r0:=Int.emod_nonneg (w'^(d-i*m)) (show p≠0 by omega)
 have r1:=Int.emod_lt_of_pos (w'^(d-i*m)) (show 0<p by omega)
 k_data
 by_cases lt:d-i*m<m
 ·have hv:bV (c9 p w' m) (Sum.inl (w'^(d-i*m)%p))=some (.int ((d-i*m:Nat):Int)):=ya (fun i j hi hj e=>o.kR (by omega) (by omega) e) _ lt
  have dg:=eI.k (k:=Sum.inl (w'^(d-i*m)%p)) ht
  rw [hv] at dg
  obtain⟨e1,e2⟩:=vB m0 hi lt
  refine⟨_,dg,?_⟩
  rw [if_neg (by simp)]
  refine⟨_,dg,⟨by show 2≤sizeLine;decide,fun r hr'=>q r _ (ao hr') hr' ?_⟩⟩
  rw [← e1,← e2]
  exact ag
 ·have hv:bV (c9 p w' m) (Sum.inl (w'^(d-i*m)%p))=none:=iO fun j hj e=>by
   have:=o.kR (i:=j) (j:=d-i*m) (by omega) (by omega) e
   omega
  have dg:=eI.k (k:=Sum.inl (w'^(d-i*m)%p)) ht
  rw [hv] at dg
  refine⟨_,dg,?_⟩
  rw [if_pos (by simp)]
  have i1:(i+1)*m≤d:=by rw [Nat.succ_mul];omega
  have im:i≤d:=Nat.le_trans (Nat.le_mul_of_pos_right i m0) hi
  refine⟨_,fun _ _ z=>z,Bd.of (by omega) (by omega),Bd.of (by omega) (by omega),by omega,i+1,?_,rfl,i1,by show d+1-(i+1)<d+1-i;omega⟩
  have e:w'^(d-i*m)%p*back%p=w'^(d-(i+1)*m)%p:=by
   have h1:d-i*m=(d-(i+1)*m)+m:=by rw [Nat.succ_mul] at i1 ⊢;omega
   refine Num.Al.iff.mp ?_
   have h2:=((Num.Al.rest p (w'^(d-i*m))).mul (Num.Al.refl p back))
   rw [h1,Int.pow_add,Int.mul_assoc,Int.mul_comm (w'^m) back] at h2
   rw [h1,Int.pow_add]
   have h3:=(Num.Al.refl p (w'^(d-(i+1)*m))).mul hb
   rw [Int.mul_one] at h3
   exact h2.trans h3
  rw [e]
  rfl
def xK (K:PySem.W.Frag):Sp:=fun vs H Q _=>∃(q x n:Nat) (a:Addr),vs=[.int q,.ref a]∧0<q∧q≤10^60∧x%q^n≤10^60∧n≤1000∧H a=some (.lst ((Num.cU x q n).map fun d=>V.int (d:Nat)))∧∀ H',aF H H'→Q (.int (x%q^n:Nat)) H'
theorem dt:aA [("q":Str),("row":Str),("number":Str),("digit":Str)] [("q":Str),("row":Str)] (ak (top 51)):=⟨rfl,rfl,rfl,by decide +kernel,rfl,by decide +kernel,by decide +kernel⟩
theorem zh (D:ax K mg "number_of" (top 51)):Callee P w K mg base aO 1 "number_of" [("q":Str),("row":Str)] (xK K):=by
 refine aB D (fun _ _ _ _ _ _ us hl=>by obtain⟨_,_,rfl⟩:=cL hl;exact rfl) dt (fun vs H Q E h=>by obtain⟨a,b,c,d,rfl,_⟩:=h;rfl) (fun f cdv A outer s H vs Q E hr h=>?_)
 obtain⟨q',x,n,a,rfl,q0,q9,x9,n9,ha,q⟩:=h
 have nd:=dt.nd
 refine⟨_,(ae (aq (i:=2) nd rfl (Or.inl rfl) ah) (ae (cV PassesOwn.never rfl (cp (Bm (pv 1) (gu (mf jc ah)))) (ay (i:=3) nd rfl (Or.inl rfl) (.inr rfl)) (ai (aq (i:=2) nd rfl (Or.inl rfl) (av bI (av aL (pv 2) (pv 0)) (pv 3))))) (ai (aC (pv 2))))),?_⟩
 show bz _ _ _ [some (.int (q':Int)),some (.ref a),none,none] H
 k_data
 have dl:=Num.ie (x:=x) (q:=q') (n:=n)
 refine⟨_,aZ.of ha,fun p hp=>⟨⟨_,aZ.of ag⟩,?_⟩⟩
 have s1:=ao (o:=.lst ((Num.cU x q' n).map fun d:Nat=>V.int (d:Int)).reverse) hp
 have e1:upd H p (.lst ((Num.cU x q' n).map fun d:Nat=>V.int (d:Int)).reverse) p=some (.lst ((Num.cU x q' n).map fun d:Nat=>V.int (d:Int)).reverse):=ag
 generalize upd H p _=H1 at *
 refine eO (xs:=((Num.cU x q' n).map fun d:Nat=>V.int (d:Int)).reverse) (fun i σ' H'=>H'=H1∧∃ o3,σ'=[some (.int (q':Int)),some (.ref a),some (.int ((x%q'^n/q'^(n-i):Nat):Int)),o3]) ⟨rfl,none,?_⟩ (fun i σ' H' _ h=>by rw [h.1];exact aZ.of e1) ?_ ?_
 ·rw [Nat.sub_zero,Nat.div_eq_of_lt (Nat.mod_lt _ (Nat.pow_pos q0))]
  rfl
 ·rintro i v σ' H' hv ⟨rfl,o3,rfl⟩
  have hi:i<n:=by
   have:=(List.getElem?_eq_some_iff.mp hv).1
   rw [List.length_reverse,List.length_map,dl] at this
   exact this
  rw [List.getElem?_reverse (by rw [List.length_map,dl];exact hi),List.length_map,dl,List.getElem?_map,Num.rX (by omega)] at hv
  cases hv
  have b1:x%q'^n/q'^(n-i)≤10^60:=Nat.le_trans (Nat.div_le_self _ _) x9
  have bd:Bd ((x%q'^n/q'^(n-i):Nat):Int):=by
   generalize x%q'^n/q'^(n-i)=z at b1
   exact Bd.of (by omega) (by omega)
  k_data
  refine⟨bd,Bd.of (by omega) (by omega),?_⟩
  have e:=Num.pB (x:=x) (n:=n) q0 hi
  rw [← Int.natCast_mul,← Int.natCast_add,e]
 ·rintro σ' H' ⟨rfl,o3,rfl⟩
  rw [List.length_reverse,List.length_map,dl,Nat.sub_self,Nat.pow_zero,Nat.div_one]
  k_data
  exact q H' s1
end
end K
namespace K
open PySem PySem.Spec PyProof.Rows L2
section
variable {P:Program} {w:World} {K:PySem.W.Frag} {mg:Str→Option Value} {base:Heap} {C:Addr}
def xM (K:PySem.W.Frag):Sp:=fun vs H Q _=>∃(q x n:Nat) (a:Addr),vs=[.int q,.ref a]∧0<q∧q≤10^60∧x%q^n≤10^60∧n≤1000∧bD K H a ((Num.cU x q n).map fun d=>V.int (d:Nat))∧∀ H',aF H H'→Q (.int (x%q^n:Nat)) H'
theorem zi (D:ax K mg "number_of" (top 51)):Callee P w K mg base aO 1 "number_of" [("q":Str),("row":Str)] (xM K):=by
 refine aB D (fun _ _ _ _ _ _ us hl=>by obtain⟨_,_,rfl⟩:=cL hl;exact rfl) dt (fun vs H Q E h=>by obtain⟨a,b,c,d,rfl,_⟩:=h;rfl) (fun f cdv A outer s H vs Q E hr h=>?_)
 obtain⟨q',x,n,a,rfl,q0,q9,x9,n9,ha,q⟩:=h
 have nd:=dt.nd
 refine⟨_,(ae (aq (i:=2) nd rfl (Or.inl rfl) ah) (ae (cV PassesOwn.never rfl (kL (zt (pv 1) (gu (mf jc ah)))) (ay (i:=3) nd rfl (Or.inl rfl) (.inr rfl)) (ai (aq (i:=2) nd rfl (Or.inl rfl) (av bI (av aL (pv 2) (pv 0)) (pv 3))))) (ai (aC (pv 2))))),?_⟩
 show bz _ _ _ [some (.int (q':Int)),some (.ref a),none,none] H
 unfold Aq
 k_data
 have dl:=Num.ie (x:=x) (q:=q') (n:=n)
 refine⟨_,ha,fun p hp=>⟨⟨_,bD.of ag⟩,?_⟩⟩
 have s1:=ao (o:=.tup ((Num.cU x q' n).map fun d:Nat=>V.int (d:Int)).reverse) hp
 have e1:upd H p (.tup ((Num.cU x q' n).map fun d:Nat=>V.int (d:Int)).reverse) p=some (.tup ((Num.cU x q' n).map fun d:Nat=>V.int (d:Int)).reverse):=ag
 generalize upd H p _=H1 at *
 refine v9 (xs:=((Num.cU x q' n).map fun d:Nat=>V.int (d:Int)).reverse) (fun i σ' H'=>H'=H1∧∃ o3,σ'=[some (.int (q':Int)),some (.ref a),some (.int ((x%q'^n/q'^(n-i):Nat):Int)),o3]) ⟨rfl,none,?_⟩ (fun i σ' H' _ h=>by rw [h.1];exact bD.of e1) ?_ ?_
 ·rw [Nat.sub_zero,Nat.div_eq_of_lt (Nat.mod_lt _ (Nat.pow_pos q0))]
  rfl
 ·rintro i v σ' H' hv ⟨rfl,o3,rfl⟩
  have hi:i<n:=by
   have:=(List.getElem?_eq_some_iff.mp hv).1
   rw [List.length_reverse,List.length_map,dl] at this
   exact this
  rw [List.getElem?_reverse (by rw [List.length_map,dl];exact hi),List.length_map,dl,List.getElem?_map,Num.rX (by omega)] at hv
  cases hv
  have b1:x%q'^n/q'^(n-i)≤10^60:=Nat.le_trans (Nat.div_le_self _ _) x9
  have bd:Bd ((x%q'^n/q'^(n-i):Nat):Int):=by
   generalize x%q'^n/q'^(n-i)=z at b1
   exact Bd.of (by omega) (by omega)
  k_data
  refine⟨bd,Bd.of (by omega) (by omega),?_⟩
  have e:=Num.pB (x:=x) (n:=n) q0 hi
  rw [← Int.natCast_mul,← Int.natCast_add,e]
 ·rintro σ' H' ⟨rfl,o3,rfl⟩
  rw [List.length_reverse,List.length_map,dl,Nat.sub_self,Nat.pow_zero,Nat.div_one]
  k_data
  exact q H' s1
theorem vM {p b g:Int} (h:Num.Co b p) (G:Gd p b g):g=1:=by
 obtain⟨u,v,e⟩:=h
 have g1:g∣1:=by rw [← e];exact Int.dvd_add (Int.dvd_mul_of_dvd_right G.da) (Int.dvd_mul_of_dvd_right G.dn)
 exact Int.eq_one_of_dvd_one (by have:=G.pos;omega) g1
theorem xb {C0:Addr} {p b:Int} {n:Nat} {H:Hp} {Q:VK} {E:XK} (p2:2≤p) (p9:p≤10^60) (co:Num.Co b p) (q:∀ r H',0≤r→r<p→Num.Al p (r*b^n) 1→aF H H'→Q (.int r) H'):cF C0 [.int p,.int b,.int (-(n:Int))] H Q E:=by
 have r0:=fun z:Int=>Int.emod_nonneg z (show p≠0 by omega)
 have r1:=fun z:Int=>Int.emod_lt_of_pos z (show 0<p by omega)
 refine⟨p,b,-(n:Int),rfl,by omega,by omega,fun h H' s=>?_,fun h g G=>⟨fun _ i H' i0 i1 i2 s=>?_,fun z=>absurd z (by rw [vM co G];decide)⟩⟩
 ·have n0:n=0:=by omega
  subst n0
  exact q _ H' (r0 _) (r1 _) (((Num.Al.rest p _).mul (Num.Al.refl p _)).trans (by rw [show (-((0:Nat):Int)).toNat=0 by decide,Int.pow_zero];exact Num.Al.refl p _)) s
 ·rw [show (-(-(n:Int))).toNat=n by omega]
  refine q _ H' (r0 _) (r1 _) (((Num.Al.rest p _).mul (Num.Al.refl p _)).trans ?_) s
  rw [← Int.mul_pow]
  have:=Num.Al.pow (show Num.Al p (i*b) 1 from i2) n
  rwa [Int.one_pow] at this
theorem oq {k k':KH} {H H':Hp} {f:Addr} (kp:b8 C k' H') (ea:k'.a=k.a) (ed:k'.d=k.d) (b:dO k.a k.d H H') (hf:H' f=none):H f=none:=by
 cases z:H f with
 | none=>rfl
 | some u =>
  by_cases c1:f=k.a
  ·rw [c1,← ea,kp.ins] at hf;cases hf
  ·by_cases c2:f=k.d
   ·obtain⟨kvs,kd⟩:=kp.ex
    rw [c2,← ed,kd.dict] at hf;cases hf
   ·rw [b f u c1 c2 z] at hf;cases hf
theorem A3 {k:KH} {H:Hp} {f:Addr} {o o':HO} (kp:b8 C k H) (h:H f=some o) (h1:∀ C dx fs,o≠.ins C dx fs) (h2:∀ kvs,o≠.dT kvs) (h3:∀ kvs,o≠.dK kvs):b8 C k (upd H f o'):=by
 obtain⟨na,nd⟩:=kp.apart h h1 h2
 obtain⟨kvs,kd⟩:=kp.ex
 refine⟨by rw [au (Ne.symm na)];exact kp.ins,⟨kvs,by rw [au (Ne.symm nd)];exact kd.dict,kd.keys,kd.nd,fun x v e=>?_⟩,kp.m0,kp.m1⟩
 obtain⟨t,e1,e2⟩:=kd.tab x v e
 exact⟨t,e1,by rw [au (gH e2 h (Ne.symm (h3 _)))];exact e2⟩
theorem dO.trans' {a d f:Addr} {H H':Hp} {o:HO} (b:dO a d H H') (hf:H f=none):dO a d H (upd H' f o):=fun c u x y e=>by
 rw [au (fun z=>by rw [z,hf] at e;cases e)]
 exact b c u x y e
theorem B7 {k:KH}:h9 k 0=k:=by unfold h9;rw [Int.add_zero]
theorem B8 {k:KH} {m n:Int}:h9 (h9 k m) n=h9 k (m+n):=by unfold h9;rw [Int.add_assoc]
def stK (x q n:Nat):Int:=(((Num.cU x q n).map fun d=>d/rt q+1).sum:Nat)
theorem xS {x q n:Nat}:stK x q (n+1)=stK x q n+((x/q^n%q/rt q:Nat)+1:Int):=by
 unfold stK
 rw [Num.lQ,List.map_append,List.sum_append]
 simp
def vz (k:KH) (p b:Int) (e q x n:Nat):KH:=h9 (je k (p,(q:Int),b^(e/q)%p)) (stK x q n)
def qa (K:PySem.W.Frag) (C:Addr):Sp:=fun vs H Q _=>∃(k:KH) (p b a:Int) (e q n x:Nat) (pt:Addr),vs=[.int p,.int b,.int a,.ref pt,.ref k.a]∧bD K H pt [.int e,.int q,.int n]∧b8 C k H∧tN k∧2≤p∧p≤10^60 ∧ -(10^60)≤a∧a≤10^60∧Num.Ord p b e∧e≤10^60∧x<e∧Num.Al p a (b^x)∧1≤q∧q≤10^6∧1≤n∧n≤1000∧q^n∣e ∧
 ∀ t H',b8 C (vz k p b e q x n) H'→dO k.a k.d H H'→H t=none→H' t=some (.tup ((Num.cU x q n).map fun d=>V.int (d:Nat)))→Q (.ref t) H'
theorem ml:aA [("p":Str),("b":Str),("a":Str),("part":Str),("keeper":Str),("e":Str),("q":Str),("many":Str),("w":Str),("table":Str),("back":Str),("found":Str),("left":Str),("turn":Str),("c":Str),("i":Str),("j":Str)] [("p":Str),("b":Str),("a":Str),("part":Str),("keeper":Str)] (ak (top 49)):=⟨rfl,rfl,rfl,by decide +kernel,rfl,by decide +kernel,by decide +kernel⟩
theorem ur {C0:Addr} (D:ax K mg "digits" (top 49)) (cl_Kept:lH K C) (c_power:Callee P w K mg base (c6 P w) 4 "power" ["n","a","e"] (cF C0)) (c_inverse:Callee P w K mg base (c6 P w) 3 "inverse" ["n","a"] (dB C0)) (c_Kept_used_table:b9 P w K mg base aO 2 C "used_table" ["self","p","q","w"] (xP C)) (c_Kept_add_steps:b9 P w K mg base aO 1 C "add_steps" ["self","many"] (xF C)) (c_number_of:Callee P w K mg base aO 1 "number_of" ["q","row"] (xK K)) (c_steps_to:Callee P w K mg base aO 1 "steps_to" ["p","table","back","c"] mF) (n_len:mg "len"=none) (n_range:mg "range"=none) (n_tuple:mg "tuple"=none):Callee P w K mg base aO 5 "digits" [("p":Str),("b":Str),("a":Str),("part":Str),("keeper":Str)] (qa K C):=by
 refine aB D (fun _ _ _ _ _ _ us hl=>by obtain⟨_,_,_,_,_,rfl⟩:=v8 hl;exact rfl) ml (fun vs H Q E h=>by obtain⟨a,b,c,d,e,f,g,h,i,rfl,_⟩:=h;rfl) (fun f cdv A outer s H vs Q E hr h=>?_)
 obtain⟨k,p,b,a,e,q',n,x,pt,rfl,hpt,kp,le,p2,p9,a0,a1,o,e9,xe,al,q1,q6,n1,n9,dv,q⟩:=h
 have nd:=ml.nd
 refine⟨_,(ae (dH (pv 3) (cu (n:=3) rfl (aD (ay (i:=5) nd rfl (Or.inl rfl) (.inr rfl)) (aD (ay (i:=6) nd rfl (Or.inl rfl) (.inr rfl)) (aD (ay (i:=7) nd rfl (Or.inl rfl) (.inr rfl)) aW))))) (ae (aq (i:=8) nd rfl (Or.inl rfl) (aj c_power (hr.mono (by decide)) rfl aJ (aa (pv 0) (aa (pv 1) (aa (av aU (pv 5) (pv 6)) af))))) (ae (aq (i:=9) nd rfl (Or.inl rfl) (kJ c_Kept_used_table cl_Kept (hr.mono (by decide)) aG (pv 4) (aa (pv 0) (aa (pv 6) (aa (pv 8) af))))) (ae (aq (i:=10) nd rfl (Or.inl rfl) (aj c_inverse (hr.mono (by decide)) rfl aJ (aa (pv 0) (aa (aj c_power (hr.mono (by decide)) rfl aJ (aa (pv 0) (aa (pv 8) (aa (aH cT rfl n_len PySem.boot_len (aa (pv 9) af)) af)))) af)))) (ae (aq (i:=11) nd rfl (Or.inl rfl) (dG af)) (ae (aq (i:=12) nd rfl (Or.inl rfl) (pv 5)) (ae (cV PassesOwn.never rfl (eR rfl n_range (aa (pv 7) af)) (ay (i:=13) nd rfl (Or.inl rfl) (.inr rfl)) (ae (dI (i:=12) nd rfl (Or.inl rfl) (pv 6) (fJ kr)) (ae (aq (i:=14) nd rfl (Or.inl rfl) (aj c_power (hr.mono (by decide)) rfl aJ (aa (pv 0) (aa (av aL (pv 2) (aj c_power (hr.mono (by decide)) rfl aJ (aa (pv 0) (aa (pv 1) (aa (mf jc (aj c_number_of (hr.mono (by decide)) rfl aG (aa (pv 6) (aa (pv 11) af)))) af))))) (aa (pv 12) af))))) (ae (dH (aj c_steps_to (hr.mono (by decide)) rfl aG (aa (pv 0) (aa (pv 9) (aa (pv 10) (aa (pv 14) af))))) (cu (n:=2) rfl (aD (ay (i:=15) nd rfl (Or.inl rfl) (.inr rfl)) (aD (ay (i:=16) nd rfl (Or.inl rfl) (.inr rfl)) aW)))) (ae (dW (kJ c_Kept_add_steps cl_Kept (hr.mono (by decide)) aG (pv 4) (aa (av bI (pv 15) ah) af))) (ai (dW (sG PySem.F.plainAttrs_list PySem.F.slot_list_append PySem.F.type_list_append gj (pv 11) (aa (av bI (av aL (pv 15) (aH cT rfl n_len PySem.boot_len (aa (pv 9) af))) (pv 16)) af))))))))) (ai (aC (dz cW rfl n_tuple L2.boot_tuple (aa (pv 11) af))))))))))),?_⟩
 show bz _ _ _ [some (.int p),some (.int b),some (.int a),some (.ref pt),some (.ref k.a),none,none,none,none,none,none,none,none,none,none,none,none] H
 k_data
 refine⟨pt,_,rfl,hpt,rfl,?_⟩
 k_data
 have o0:=o.pos
 have qe:q'∣e:=Nat.dvd_trans (by obtain⟨m,rfl⟩:∃ m,n=m+1:=⟨n-1,by omega⟩;exact⟨q'^m,by rw [Nat.pow_succ,Nat.mul_comm]⟩) dv
 have em:=fun z:Int=>Int.emod_nonneg z (show p≠0 by omega)
 have el:=fun z:Int=>Int.emod_lt_of_pos z (show 0<p by omega)
 refine⟨by omega,Bd.of (by omega) (by omega),p,b,_,rfl,by omega,by omega,fun _ H1 s1=>?_,fun z=>absurd z (by have:=Int.ediv_nonneg (a:=(e:Int)) (b:=(q':Int)) (by omega) (by omega);omega)⟩
 have ew:((e:Int)/(q':Int)).toNat=e/q':=by rw [← Int.natCast_ediv];rfl
 rw [ew]
 have ow:Num.Ord p (b^(e/q')%p) q':=Num.kG (Num.Al.rest p _).symm (Num.jP o qe)
 have hw:Num.Al p (b^(e/q')%p) (b^(e/q')):=Num.Al.rest p _
 have w0:=em (b^(e/q'))
 have w1:=el (b^(e/q'))
 unfold vz at q
 generalize b^(e/q')%p=w' at *
 have kp1:=kp.same s1
 refine⟨k.dx,_,kp1.ins,rfl,k,p,q',w',rfl,kp1,le,p2,p9,by omega,by omega,w0,w1,by rw [Int.toNat_natCast];exact ow,fun t H2 kp2 b2 ht=>uj ht ?_⟩
 rw [Int.toNat_natCast] at ht
 rw [fv,Int.toNat_natCast]
 have mq:=Aj (q:=q') (by omega)
 have m0:=xA (q:=q') (by omega)
 have m6:=zE q6
 refine⟨p,w',_,rfl,by omega,by omega,fun _ H3 s3=>?_,fun z=>absurd z (by omega)⟩
 rw [Int.toNat_natCast]
 have cow:Num.Co (w'^rt q'%p) p:=(ow.co.pow _).wk (Num.Al.rest p _).symm
 refine⟨p,_,rfl,by omega,by omega,fun g G=>⟨fun _ bk H4 bk0 bk1 bk2 s4=>?_,fun z=>absurd z (by rw [vM cow G];decide)⟩⟩
 have hbk:Num.Al p (bk*w'^rt q') 1:=((Num.Al.refl p bk).mul (Num.Al.rest p _)).symm.trans bk2
 refine⟨by decide,fun fo hfo=>⟨by omega,by omega,?_⟩⟩
 have S4:=s3.trans s4
 have s5:=ao (o:=.lst ([]:List V)) hfo
 have e5:upd H4 fo (.lst ([]:List V)) fo=some (.lst ((Num.cU x q' 0).map fun d:Nat=>V.int (d:Int))):=ag
 have ffo:H fo=none:=oq (kp2.same S4) rfl rfl ((dO.of s1).trans (b2.trans (dO.of S4))) hfo
 have kp5:=(kp2.same S4).same s5
 have t5:=s5 _ _ (S4 _ _ ht)
 have b5:dO k.a k.d H (upd H4 fo (.lst ([]:List V))):=(dO.of s1).trans (b2.trans (dO.of (S4.trans s5)))
 generalize upd H4 fo (.lst ([]:List V))=H5 at *
 refine dF (fun i σ' H'=>b8 C (h9 (je k (p,(q':Int),w')) (stK x q' i)) H'∧dO k.a k.d H H'∧H' fo=some (.lst ((Num.cU x q' i).map fun d:Nat=>V.int (d:Int)))∧H' t=some (.dK (c9 p w' (rt q')))∧∃ o1 o2 o3 o4,σ'=[some (.int p),some (.int b),some (.int a),some (.ref pt),some (.ref k.a),some (.int (e:Int)),some (.int (q':Int)),some (.int (n:Int)),some (.int w'),some (.ref t),some (.int bk),some (.ref fo),some (.int ((e/q'^i:Nat):Int)),o1,o2,o3,o4]) ⟨?_,b5,e5,t5,none,none,none,none,by rw [Nat.pow_zero,Nat.div_one]⟩ ?_ ?_
 ·show b8 C (h9 _ 0) H5
  rw [B7]
  exact kp5
 ·rintro i σ' H6 hi ⟨kp6,b6,e6,t6,o1,o2,o3,o4,rfl⟩
  k_data
  have xq:x%q'^i≤10^60:=Nat.le_trans (Nat.mod_le _ _) (by omega)
  refine⟨by omega,Bd.of (by omega) (by omega),q',x,i,fo,rfl,by omega,by omega,xq,by omega,e6,fun H7 s7=>⟨_,rfl,?_⟩⟩
  refine xb p2 p9 o.co fun r H8 r0 r1 hr' s8=>⟨_,rfl,Bd.of (by omega) (by omega),Bd.of (by omega) (by omega),?_⟩
  have el1:((e/q'^i:Nat):Int)/(q':Int)=((e/q'^(i+1):Nat):Int):=by rw [Nat.pow_succ,← Nat.div_div_eq_div_mul,Int.natCast_ediv (e/q'^i)]
  rw [el1]
  refine⟨p,_,_,rfl,by omega,by omega,fun _ H9 s9=>?_,fun z=>absurd z (Int.not_lt.mpr (Int.natCast_nonneg _))⟩
  rw [Int.toNat_natCast]
  have dq:q'^(i+1)∣e:=Nat.dvd_trans (Nat.pow_dvd_pow q' hi) dv
  have key:=Num.Al.iff.mp (Num.vA o dq al hr' hw)
  rw [key]
  have S9:=(s7.trans s8).trans s9
  have d0:x/q'^i%q'<q':=Nat.mod_lt _ (by omega)
  refine⟨p,bk,_,w',t,q',x/q'^i%q',rfl,p2,p9,ow,q6,S9 _ _ t6,bk0,bk1,hbk,d0,rfl,fun rr H10 s10 frr hrr=>⟨rr,_,rfl,bD.of hrr,rfl,?_⟩⟩
  k_data
  have kp10:=(kp6.same S9).same s10
  have e10:=s10 _ _ (S9 _ _ e6)
  have t10:=s10 _ _ (S9 _ _ t6)
  have b10:=b6.trans (dO.of (S9.trans s10))
  refine⟨_,_,kp10.ins,rfl,h9 (je k (p,(q':Int),w')) (stK x q' i),_,rfl,kp10,fun H11 oth kp11=>?_⟩
  have nfo:fo≠k.a:=(kp10.apart e10 (by intro _ _ _ z;cases z) (by intro _ z;cases z)).1
  have nfd:fo≠k.d:=(kp10.apart e10 (by intro _ _ _ z;cases z) (by intro _ z;cases z)).2
  have ntf:t≠fo:=gH t10 e10 (by intro z;cases z)
  have nta:t≠k.a:=(kp10.apart t10 (by intro _ _ _ z;cases z) (by intro _ z;cases z)).1
  have e11:=(oth fo nfo).trans e10
  have t11:=(oth t nta).trans t10
  have b11:dO k.a k.d H H11:=b10.trans fun b u ba _ e=>by rw [oth b ba];exact e
  rw [B8,← xS] at kp11
  have dl:=Num.ie (x:=x) (q:=q') (n:=i)
  have dd:((x/q'^i%q' / rt q':Nat):Int)*((rt q':Nat):Int)+((x/q'^i%q'%rt q':Nat):Int)=((x/q'^i%q':Nat):Int):=by
   rw [← Int.natCast_mul,← Int.natCast_add,Nat.div_add_mod']
  have db:Bd ((x/q'^i%q' / rt q':Nat):Int):=by
   have h1:x/q'^i%q' / rt q'≤x/q'^i%q':=Nat.div_le_self _ _
   generalize x/q'^i%q' / rt q'=z at h1
   generalize x/q'^i%q'=z' at h1 d0
   exact Bd.of (by omega) (by omega)
  refine⟨.inl ⟨rfl,_,aZ.of e11⟩,uj t11 ⟨_,rfl,db,by rw [fv];exact Bd.of (by omega) (by omega),fo,_,_,rfl,rfl,e11,by rw [List.length_map,dl];exact uT (by omega),?_⟩⟩
  rw [fv,dd]
  refine⟨A3 kp11 e11 (by intro _ _ _ z;cases z) (by intro _ z;cases z) (by intro _ z;cases z),dO.trans' b11 ffo,?_,by rw [au ntf];exact t11⟩
  rw [ag,Num.lQ,List.map_append]
  rfl
 ·rintro σ' H6 ⟨kp6,b6,e6,t6,o1,o2,o3,o4,rfl⟩
  k_data
  refine⟨_,.inl ⟨aZ.of e6,fun l hl=>q l _ (kp6.same (ao hl)) (b6.trans (dO.of (ao hl))) (oq kp6 rfl rfl b6 hl) ag⟩⟩
end
end K
namespace K
open PySem PySem.Spec PyProof.Rows L2
section
variable {P:Program} {w:World} {K:PySem.W.Frag} {mg:Str→Option Value} {base:Heap} {C:Addr}
theorem DI {x y:V} {r:List V}:vc (x::y::r) 1=some y:=by
 unfold vc Ac
 simp
 rw [if_pos (by omega)]
 rfl
def DV (row:PyData) (y:Int × Int):Prop:=∃ ds r,row=.tuple (.tuple (.int y.1::ds)::.int y.2::r)
def yr (rows:List PyData) (ps:List (Int × Int)):Prop:=rows.length=ps.length∧∀(i:Nat) (row:PyData),rows[i]?=some row→∃ y,ps[i]?=some y∧DV row y
def tD (K:PySem.W.Frag):Sp:=fun vs H Q _=>∃(v:V) (rows:List PyData) (ps:List (Int × Int)),vs=[v]∧dv K H (.tuple rows) v∧yr rows ps∧rows.length≤10^6∧∀ p us H',aF H H'→H p=none→H' p=some (.lst us)→aQ K H' (ps.map jG) us→Q (.ref p) H'
theorem AO {H:Hp} {rows:List PyData} {ps:List (Int × Int)} {xs:List V} (hd:aQ K H rows xs) (h:yr rows ps) {i:Nat} {x:V} (hx:xs[i]?=some x):∃ q k pt pq r r',ps[i]?=some (q,k)∧x=.ref pt∧bD K H pt (.ref pq::.int k::r')∧bD K H pq (.int q::r):=by
 obtain⟨d,hd',hv⟩:=hd.get hx
 obtain⟨⟨q,k⟩,hy,ds,r0,rfl⟩:=h.2 i d hd'
 obtain⟨pt,ys,rfl,h1,x1,r1,rfl,e1,x2,r2,rfl,e2,_⟩:=hv
 obtain⟨pq,zs,rfl,h2,y1,r3,rfl,f1,f2⟩:=e1
 cases f1
 cases e2
 exact⟨q,k,pt,pq,r3,r2,hy,rfl,h1,h2⟩
theorem wB (D:ax K mg "parting_in" (top 21)):Callee P w K mg base aO 1 "parting_in" [("parts":Str)] (tD K):=by
 refine aB D (fun _ _ _ _ _ _ us hl=>by obtain⟨_,rfl⟩:=cI hl;exact rfl) bS (fun vs H Q E h=>by obtain⟨a,_,_,rfl,_⟩:=h;rfl) (fun f cdv A outer s H vs Q E hr h=>?_)
 obtain⟨v,rows,ps,rfl,hd,hh,h6,q⟩:=h
 have nd:=bS.nd
 refine⟨_,(ai (aC (fO rfl (cJ (N':=["row"]) (js:=[none]) rfl rfl (by decide +kernel) (by decide +kernel) (by repeat (first | exact True.intro | refine⟨rfl,?_⟩)) (by repeat (first | exact True.intro | refine⟨rfl,?_⟩ | refine⟨True.intro,?_⟩)) (by repeat (first | exact True.intro | refine⟨⟨rfl,rfl,.inl rfl,.inl rfl⟩,?_⟩))) (kL (pv 0)) (fun _ _ _ _=>(ay (i:=0) (show List.Nodup [("row":Str)] from by decide +kernel) rfl (Or.inl rfl) (.inr rfl))) (fun _ _ _ _=>bQ) (fun _ _ _ _=>(aM (aa (aV (cj K rfl) (aV (cj K rfl) (pv 0) ah (fun _ _=>rfl)) ah (fun _ _=>rfl)) (aa (aV (cj K rfl) (pv 0) ah (fun _ _=>rfl)) af))))))),?_⟩
 show h7 _ _ [some v] H
 obtain⟨p,xs,rfl,hS,ht⟩:=hd
 have xl:=ht.length
 have rl:=hh.1
 k_data
 refine⟨⟨_,hS⟩,?_⟩
 refine gb (xs:=xs) (fun i zs H3=>aF H H3∧aQ K H3 ((ps.take i).map jG) zs) ⟨aF.refl _,rfl⟩ (Nat.le_trans (by omega) (show 10^6≤sizeLine by decide)) (fun i zs H3 hi ⟨e1,e2⟩=>⟨hS.same e1,by rw [e2.length,List.length_map,List.length_take];omega⟩) ?_ ?_
 ·rintro i x zs H3 hx ⟨s3,hz⟩
  obtain⟨q',k',pt,pq,r,r',hy,rfl,t1,t2⟩:=AO ht hh hx
  show cQ 0 _ [none] _ _
  k_data
  refine⟨True.intro,cf (t1.same s3) lu (cf (t2.same s3) lu (cf (t1.same s3) DI ⟨by show 2≤sizeLine;decide,fun p4 hp4=>?_⟩))⟩
  have s4:=ao (o:=.tup [V.int q',V.int k']) hp4
  refine⟨s3.trans s4,?_⟩
  rw [List.take_add_one,hy,List.map_append]
  exact aQ.append (aQ.same s4 _ hz) (.one (dv.tup ag ⟨_,_,rfl,rfl,.one rfl⟩))
 ·rintro zs H3 p3 ⟨s3,hz⟩ hp3
  rw [show xs.length=ps.length by omega,List.take_length] at hz
  exact q p3 zs _ (s3.trans (ao hp3)) (s3.free hp3) ag (aQ.same (ao hp3) _ hz)
def Ak (K:PySem.W.Frag) (CF:Addr):Sp:=fun vs H Q E=>∃(a:Addr) (ns:List Int),vs=[.ref a]∧aZ K H a (ns.map V.int)∧ns.length≤10^6∧((∀ n∈ns,n≤10^6)→Q .non H)∧(∀ m∈ns,(∀ n∈ns,n≤m)→10^6<m→ym CF "part" (.int m) H E)
theorem gP:aA [("primes":Str)] [("primes":Str)] (ak (top 47)):=⟨rfl,rfl,rfl,by decide +kernel,rfl,by decide +kernel,by decide +kernel⟩
theorem Bb {CF:Addr} (D:ax K mg "refuse_far" (top 47)) (x_TooFar:mN P w K mg base "TooFar" CF "part") (g_FARTHEST:∃ t,mg "FARTHEST"=some (.int 1000000 t)) (n_max:mg "max"=none):Callee P w K mg base (c6 P w) 3 "refuse_far" [("primes":Str)] (Ak K CF):=by
 refine bH D (fun _ _ _ _ _ _ us hl=>by obtain⟨_,rfl⟩:=cI hl;exact rfl) gP (fun vs H Q E h=>by obtain⟨a,b,rfl,_⟩:=h;rfl) (fun f cdv A outer s H vs Q E hr h=>?_)
 obtain⟨a,ns,rfl,hS,n6,q1,q2⟩:=h
 obtain⟨gt,g_FARTHEST⟩:=g_FARTHEST
 have nd:=gP.nd
 refine⟨_,(ai (aP (PW.pt (ny (bN (pv 0) (fun _=>rfl)) (nA (aw cw (aH (lO rfl) rfl n_max L2.boot_max (aa (pv 0) af)) (jR (v:=.int 1000000) rfl g_FARTHEST ⟨_,rfl⟩) (az _))))) (ai (bZ (i7 x_TooFar (hr.mono (by decide)) rfl (aa (aH (lO rfl) rfl n_max L2.boot_max (aa (pv 0) af)) af)))) aI)),?_⟩
 show zJ _ _ _ _ [some (.ref a)] H
 k_data
 refine⟨!(ns.map V.int).isEmpty,.inl ⟨_,hS,rfl⟩,aR (fun c=>?_) (fun c=>?_)⟩
 ·have ne:ns≠[]:=fun z=>by rw [z] at c;cases c
  refine⟨a,ns,rfl,hS,ne,fun m hm hM=>⟨m,rfl,aR (fun c1=>⟨a,ns,rfl,hS,ne,fun m' hm' hM' x dx hx hdx nx=>?_⟩) (fun c1=>q1 fun n hn=>by have:=hM n hn;omega)⟩⟩
  have:m'=m:=by have h1:=hM m' hm';have h2:=hM' m hm;omega
  subst this
  exact gf x_TooFar.cls (aF.refl _) hx hdx nx (q2 m' hm hM (by omega))
 ·refine q1 fun n hn=>?_
  cases ns with
  | nil=>cases hn
  | cons y r=>exact absurd rfl c
end
end K
namespace L2
open PySem PySem.Spec PyProof.Rows
theorem qG {X:Cx} (K:PySem.W.Frag) (h:X.K=K):cZ X (.builtin "len") (zC K):=h▸bC
end L2
namespace K
open PySem PySem.Spec PyProof.Rows L2
section
variable {P:Program} {w:World} {K:PySem.W.Frag} {mg:Str→Option Value} {base:Heap} {C:Addr}
structure AF (e:Nat) (ps:List (Int × Int)):Prop where
 ok:∀ y∈ps,Num.Pm y.1∧y.1≤10^6∧1≤y.2∧y.2≤1000
 ne:ps.Pairwise (fun x y=>x.1≠y.1)
 eq:Num.eN ps=e
 len:ps.length≤12
theorem iX:∀{ps:List (Int × Int)} {y:Int × Int},y∈ps→y.1.toNat^y.2.toNat∣Num.eN ps
 | p::r,y,h=>by
  show _∣p.1.toNat^p.2.toNat*Num.eN r
  rcases List.mem_cons.mp h with rfl | h
  ·exact Nat.dvd_mul_right _ _
  ·exact Nat.dvd_trans (iX h) (Nat.dvd_mul_left _ _)
theorem vF {z:Nat}:∀{ps:List (Int × Int)},(∀ y∈ps,Num.Pm y.1)→ps.Pairwise (fun x y=>x.1≠y.1)→(∀ y∈ps,y.1.toNat^y.2.toNat∣z)→Num.eN ps∣z
 | [],_,_,_=>Nat.one_dvd _
 | p::r,h,ne,hd=>by
  show p.1.toNat^p.2.toNat*Num.eN r∣z
  obtain⟨n1,n2⟩:=List.pairwise_cons.mp ne
  have co:=Num.vG (b:=r) (fun y hy=>h y (List.mem_cons_of_mem _ hy)) [p] (fun y hy=>by rw [List.mem_singleton.mp hy];exact h p (List.mem_cons_self ..)) fun x hx y hy=>by rw [List.mem_singleton.mp hx];exact (n1 y hy).symm
  have e1:Num.eN [p]=p.1.toNat^p.2.toNat:=Nat.mul_one _
  rw [e1] at co
  exact co.mul_dvd_of_dvd_of_dvd (hd p (List.mem_cons_self ..)) (vF (fun y hy=>h y (List.mem_cons_of_mem _ hy)) n2 fun y hy=>hd y (List.mem_cons_of_mem _ hy))
def vf (x:Nat) (y:Int × Int):Int × Int:=(((y.1.toNat^y.2.toNat:Nat):Int),((x%y.1.toNat^y.2.toNat:Nat):Int))
theorem ro {x:Nat} {y:Int × Int}:(vf x y).1∣(x:Int)-(vf x y).2:=by
 show ((y.1.toNat^y.2.toNat:Nat):Int)∣(x:Int)-((x%y.1.toNat^y.2.toNat:Nat):Int)
 have h:=Nat.div_add_mod x (y.1.toNat^y.2.toNat)
 refine⟨((x/y.1.toNat^y.2.toNat:Nat):Int),?_⟩
 rw [← Int.natCast_mul]
 omega
theorem zM {e x:Nat} {ps:List (Int × Int)} (h:AF e ps) (hx:x<e):Crt.Told (ps.map (vf x)) e x where
 pos:=by omega
 x0:=by omega
 x1:=by omega
 dv:=fun p hp=>by
  obtain⟨y,hy,rfl⟩:=List.mem_map.mp hp
  rw [← h.eq]
  exact Int.natCast_dvd_natCast.mpr (iX hy)
 le:=fun z hz=>by
  rw [← h.eq]
  refine Int.ofNat_dvd_left.mpr (vF (fun y hy=>(h.ok y hy).1) h.ne fun y hy=>?_)
  exact Int.ofNat_dvd_left.mp (hz _ (List.mem_map.mpr ⟨y,hy,rfl⟩))
 al:=fun p hp=>by
  obtain⟨y,hy,rfl⟩:=List.mem_map.mp hp
  exact ro
theorem wg {x:Nat} {ps:List (Int × Int)} {i j:Nat}:¬Ap (ps.map (vf x)) i j:=fun⟨p,q,g,e1,e2,G,nd⟩=>by
 rw [List.getElem?_map] at e1 e2
 obtain⟨y,_,rfl⟩:=Option.map_eq_some_iff.mp e1
 obtain⟨y',_,rfl⟩:=Option.map_eq_some_iff.mp e2
 have h1:=Int.dvd_trans G.da (ro (x:=x) (y:=y))
 have h2:=Int.dvd_trans G.db (ro (x:=x) (y:=y'))
 have:=Int.dvd_sub h2 h1
 rw [show (x:Int)-(vf x y').2-((x:Int)-(vf x y).2)=(vf x y).2-(vf x y').2 by omega] at this
 exact nd this
def Bv (x:Nat) (y:Int × Int):PyData:=.tuple [.int y.1,.tuple (((Num.cU x y.1.toNat y.2.toNat).map fun d:Nat=>(d:Int)).map PyData.int)]
theorem wd:∀ ns:List Int,fN (ns.map PyData.int)=true:=iy fun _=>rfl
theorem we {x:Nat} {y:Int × Int}:vd (Bv x y)=true:=by
 show fN [.int y.1,.tuple (((Num.cU x y.1.toNat y.2.toNat).map fun d:Nat=>(d:Int)).map PyData.int)]=true
 have:=wd ((Num.cU x y.1.toNat y.2.toNat).map fun d:Nat=>(d:Int))
 show (true && (fN (((Num.cU x y.1.toNat y.2.toNat).map fun d:Nat=>(d:Int)).map PyData.int) && true))=true
 rw [this]
 rfl
def iH (k:KH) (p b:Int) (e x:Nat) (ps:List (Int × Int)):KH:=ps.foldl (fun k y=>vz k p b e y.1.toNat x y.2.toNat) k
theorem oW {H:Hp}:∀{ns:List Int} {ds:List V},aQ K H (ns.map PyData.int) ds→ds=ns.map V.int
 | [],_,h=>h
 | n::ns,_,⟨x,r,e,h,t⟩=>by
  subst e
  rw [oW t,show x=V.int n from h]
  rfl
theorem nH {p b:Int} {e x:Nat}:∀(ps:List (Int × Int)) (k:KH),(iH k p b e x ps).a=k.a∧(iH k p b e x ps).d=k.d∧(iH k p b e x ps).most=k.most
 | [],k=>⟨rfl,rfl,rfl⟩
 | y::r,k=>nH r (vz k p b e y.1.toNat x y.2.toNat)
theorem mx {k:KH} {p b:Int} {e x:Nat} {ps:List (Int × Int)} {y:Int × Int}:iH k p b e x (ps++[y])=vz (iH k p b e x ps) p b e y.1.toNat x y.2.toNat:=by
 unfold iH
 rw [List.foldl_append]
 rfl
def vj (C:Addr) (ko:Option KH) (v:V) (H:Hp):Prop:=match ko with
 | none=>v=.non
 | some k=>v=.ref k.a∧b8 C k H∧tN k
def lI (C:Addr) (ko:Option KH) (f:KH→KH) (H H':Hp):Prop:=match ko with
 | none=>aF H H'
 | some k=>dO k.a k.d H H'∧b8 C (f k) H'∧tN (f k)
def Cz (x e:Nat) (ps:List (Int × Int)):PyData:=.tuple [.int x,.tuple [.str "is",.int e,.tuple (ps.map (Bv x))]]
def qg (K:PySem.W.Frag) (C:Addr):Sp:=fun vs H Q _=>∃(p b a:Int) (e x:Nat) (vo vk:V) (rows:List PyData) (ps:List (Int × Int)) (ko:Option KH),vs=[.int p,.int b,.int a,vo,vk]∧dv K H (.tuple [.int e,.tuple rows]) vo∧yr rows ps∧AF e ps∧vj C ko vk H∧2≤p∧p≤10^60 ∧ -(10^60)≤a∧a≤10^60∧Num.Ord p b e∧e≤10^18∧x<e∧Num.Al p a (b^x) ∧
 ∀ u H',lI C ko (fun k=>iH k p b e x ps) H H'→dv K H' (Cz x e ps) u→Q u H'
def DP (K:PySem.W.Frag) (C:Addr) (k:KH) (p b:Int) (e x:Nat) (ps:List (Int × Int)) (H1:Hp) (i:Nat) (zs:List V) (H3:Hp):Prop:=dO k.a k.d H1 H3∧b8 C (iH k p b e x (ps.take i)) H3∧tN (iH k p b e x (ps.take i))∧aQ K H3 ((ps.take i).map (Bv x)) zs
theorem mw:aA [("p":Str),("b":Str),("a":Str),("order_paper":Str),("kept":Str),("e":Str),("parts":Str),("keeper":Str),("rows":Str),("places":Str)] [("p":Str),("b":Str),("a":Str),("order_paper":Str),("kept":Str)] (ak (top 48)):=⟨rfl,rfl,rfl,by decide +kernel,rfl,by decide +kernel,by decide +kernel⟩
theorem uC (D:ax K mg "sought" (top 48)) (cl_Kept:lH K C) (o_Kept:BR K mg "Kept" C) (c_Kept___init__:b9 P w K mg base aO 1 C "__init__" ["self","most"] (tu C)) (c_digits:Callee P w K mg base aO 5 "digits" ["p","b","a","part","keeper"] (qa K C)) (c_parting_inG:Callee P w K mg base aO 1 "parting_in" ["parts"] (tD K)) (c_whole_of:Callee P w K mg base aO 1 "whole_of" ["parting"] (jU K)) (c_number_ofT:Callee P w K mg base aO 1 "number_of" ["q","row"] (xM K)) (c_put_together:Callee P w K mg base aO 5 "put_together" ["places"] (An K)) (n_len:mg "len"=none) (n_tuple:mg "tuple"=none):Callee P w K mg base aO 6 "sought" [("p":Str),("b":Str),("a":Str),("order_paper":Str),("kept":Str)] (qg K C):=by
 refine aB D (fun _ _ _ _ _ _ us hl=>by obtain⟨_,_,_,_,_,rfl⟩:=v8 hl;exact rfl) mw (fun vs H Q E h=>by obtain⟨_,_,_,_,_,_,_,_,_,_,rfl,_⟩:=h;rfl) (fun f cdv A outer s H vs Q E hr h=>?_)
 obtain⟨p,b,a,e,x,vo,vk,rows,ps,ko,rfl,hvo,hds,oR,pre,p2,p9,a0,a1,o,e18,xe,al,q⟩:=h
 have nd:=mw.nd
 refine⟨_,(ae (dH (pv 3) (cu (n:=2) rfl (aD (ay (i:=5) nd rfl (Or.inr rfl) (.inl rfl)) (aD (ay (i:=6) nd rfl (Or.inl rfl) (.inr rfl)) aW)))) (ae (c8 (aq (i:=7) nd rfl (Or.inr rfl) (eQ (aw Bi (pv 4) gY (az _)) (wR o_Kept c_Kept___init__ (hr.mono (by decide)) rfl aG (aa ah af)) (pv 4)))) (ae (aq (i:=8) nd rfl (Or.inl rfl) (dz cW rfl n_tuple L2.boot_tuple (aa (fO rfl (cJ (N':=["q","many","p","b","a","keeper","e"]) (js:=[none,none,some 0,some 1,some 2,some 7,some 5]) rfl rfl (by decide +kernel) (by decide +kernel) (by repeat (first | exact True.intro | refine⟨rfl,?_⟩)) (by repeat (first | exact True.intro | refine⟨rfl,?_⟩ | refine⟨True.intro,?_⟩)) (by repeat (first | exact True.intro | refine⟨⟨rfl,rfl,.inl rfl,.inl rfl⟩,?_⟩))) (cp (aj c_parting_inG (hr.mono (by decide)) rfl aG (aa (pv 6) af))) (fun _ _ _ _=>(dU K rfl (n:=2) rfl (aD (ay (i:=0) (show List.Nodup [("q":Str),("many":Str),("p":Str),("b":Str),("a":Str),("keeper":Str),("e":Str)] from by decide +kernel) rfl (Or.inl rfl) (.inr rfl)) (aD (ay (i:=1) (show List.Nodup [("q":Str),("many":Str),("p":Str),("b":Str),("a":Str),("keeper":Str),("e":Str)] from by decide +kernel) rfl (Or.inl rfl) (.inr rfl)) aW)))) (fun _ _ _ _=>bQ) (fun _ _ _ _=>(aM (aa (pv 0) (aa (aj c_digits (hr.mono (by decide)) rfl aG (aa (pv 2) (aa (pv 3) (aa (pv 4) (aa (aM (aa (pv 6) (aa (pv 0) (aa (pv 1) af)))) (aa (pv 5) af)))))) af))))) af))) (ae (nt (i0:=9) nd rfl (Or.inl rfl) rfl (cJ (N':=["q","row"]) (js:=[none,none]) rfl rfl (by decide +kernel) (by decide +kernel) (by repeat (first | exact True.intro | refine⟨rfl,?_⟩)) (by repeat (first | exact True.intro | refine⟨rfl,?_⟩ | refine⟨True.intro,?_⟩)) (by repeat (first | exact True.intro | refine⟨⟨rfl,rfl,.inl rfl,.inl rfl⟩,?_⟩))) (kL (pv 8)) (fun _ _ _ _=>(dU K rfl (n:=2) rfl (aD (ay (i:=0) (show List.Nodup [("q":Str),("row":Str)] from by decide +kernel) rfl (Or.inl rfl) (.inr rfl)) (aD (ay (i:=1) (show List.Nodup [("q":Str),("row":Str)] from by decide +kernel) rfl (Or.inl rfl) (.inr rfl)) aW)))) (fun _ _ _ _=>bQ) (fun _ _ _ _=>(aM (aa (aj c_whole_of (hr.mono (by decide)) rfl aG (aa (dG (aa (aM (aa (pv 0) (aa (aH (qG K rfl) rfl n_len PySem.boot_len (aa (pv 1) af)) af))) af)) af)) (aa (aj c_number_ofT (hr.mono (by decide)) rfl aG (aa (pv 0) (aa (pv 1) af))) af)))) (by rfl) (by first | exact .inl rfl | exact .inr rfl)) (ai (aC (aM (aa (aV bB (aj c_put_together (hr.mono (by decide)) rfl aG (aa (pv 9) af)) ah (fun _ _=>rfl)) (aa (aM (aa bM (aa (pv 5) (aa (pv 8) af)))) af))))))))),?_⟩
 show bz _ _ _ [some (.int p),some (.int b),some (.int a),some vo,some vk,none,none,none,none,none] H
 obtain⟨po,ys,rfl,hSo,ve,r1,rfl,h1,vr,r2,rfl,hvr,z⟩:=hvo
 cases z
 cases h1
 k_data
 refine⟨po,_,rfl,hSo,rfl,?_⟩
 k_data
 refine⟨fun σ' H'=>∃ k:KH,σ'=[some (.int p),some (.int b),some (.int a),some (.ref po),some vk,some (.int (e:Int)),some vr,some (.ref k.a),none,none]∧b8 C k H'∧tN k∧aF H H'∧∀ H2,dO k.a k.d H' H2→b8 C (iH k p b e x ps) H2→tN (iH k p b e x ps)→lI C ko (fun k=>iH k p b e x ps) H H2,?_,?_⟩
 ·k_data
  cases ko with
  | none =>
   have pre':vk=.non:=pre
   rw [if_pos pre']
   intro x' dx hx hdx ne
   have S:aF H (upd (upd H dx (.own x')) x' (.ins C dx [])):=(ao hdx).upd hx
   refine⟨x',dx,1,rfl,ag,by decide,by decide,fun d H2 keep ndx fd kp=>?_⟩
   have S2:aF H H2:=fun b o eb=>keep b o (fun z=>by rw [z,hx] at eb;cases eb) (S b o eb)
   have hd:H d=none:=by
    rw [au ndx] at fd
    by_cases z:d=dx
    ·rw [z];exact hdx
    ·rw [au z] at fd;exact fd
   refine⟨rfl,⟨x',dx,d,1,0,[]⟩,rfl,kp,by show (0:Int)≤1;decide,S2,fun H3 b3 _ _ b o eb=>b3 b o (fun z=>by rw [z,hx] at eb;cases eb) (fun z=>by rw [z,hd] at eb;cases eb) (S2 b o eb)⟩
  | some k =>
   obtain⟨rfl,kp,le⟩:=pre
   rw [if_neg (by intro z;cases z)]
   exact⟨k,rfl,kp,le,aF.refl _,fun H2 b kp' le'=>⟨b,kp',le'⟩⟩
 ·rintro σ' H1 ⟨k,rfl,kp,le,s1,post⟩
  k_data
  have rl:=hds.1
  have pl12:=oR.len
  refine⟨vr,rows,ps,rfl,dv.same s1 _ hvr,hds,by omega,fun pl us H2 s2 fpl epl hus=>⟨pl,rfl,⟨_,aZ.of epl⟩,?_⟩⟩
  have kp2:=kp.same s2
  have ul:us.length=ps.length:=by rw [hus.length,List.length_map]
  refine bW (xs:=us) (fun i zs H3=>DP K C k p b e x ps H2 i zs H3) ⟨dO.refl,kp2,le,rfl⟩ (Nat.le_trans (show us.length≤12 by omega) (by decide)) (fun i zs H3 hi ⟨z1,z2,z3,z4⟩=>⟨aZ.of (kp2.keep z1 epl),by rw [z4.length,List.length_map,List.length_take];omega⟩) ?_ ?_
  ·rintro i v zs H3 hx ⟨b3,kp3,le3,hz⟩
   obtain⟨d,hd',hv⟩:=hus.get hx
   rw [List.getElem?_map] at hd'
   obtain⟨⟨q',t'⟩,hy,rfl⟩:=Option.map_eq_some_iff.mp hd'
   obtain⟨pt,rfl,tt⟩:=iW hv
   obtain⟨pm,q6,t1,t9⟩:=oR.ok _ (List.mem_of_getElem? hy)
   have dE:=iX (List.mem_of_getElem? hy)
   rw [oR.eq] at dE
   replace pm:Num.Pm q':=pm
   replace q6:q'≤10^6:=q6
   replace t1:1≤t':=t1
   replace t9:t'≤1000:=t9
   have q2:=pm.two
   obtain⟨qn,rfl⟩:∃ n:Nat,q'=n:=⟨q'.toNat,by omega⟩
   obtain⟨tn,rfl⟩:∃ n:Nat,t'=n:=⟨t'.toNat,by omega⟩
   replace dE:qn^tn∣e:=dE
   have kps:=kp2.fy b3
   obtain⟨sa,sd,sm⟩:=nH (p:=p) (b:=b) (e:=e) (x:=x) (ps.take i) k
   refine⟨pt,_,rfl,tt.fy kps,rfl,?_⟩
   show ip (cQ 0) (ip (cQ 1) ub) _ [none,none,some (.int p),some (.int b),some (.int a),some (.ref k.a),some (.int (e:Int))] _ _
   k_data
   refine⟨⟨rfl,rfl,rfl,rfl,rfl,True.intro⟩,by show 3≤sizeLine;decide,fun p4 hp4=>?_⟩
   have s4:=ao (o:=.tup [V.int (e:Int),V.int (qn:Int),V.int (tn:Int)]) hp4
   refine⟨iH k p b e x (ps.take i),p,b,a,e,qn,tn,x,p4,by rw [sa],bD.of ag,kp3.same s4,le3,p2,p9,a0,a1,o,by omega,xe,al,by omega,by omega,by omega,by omega,dE,fun t H5 kp5 b5 ft ht=>⟨by show 2≤sizeLine;decide,fun p6 hp6=>?_⟩⟩
   rw [sa,sd] at b5
   have s6:=ao (o:=.tup [V.int (qn:Int),V.ref t]) hp6
   have e1:ps.take (i+1)=ps.take i++[((qn:Int),(tn:Int))]:=by rw [List.take_add_one,hy];rfl
   have bb:dO k.a k.d H3 (upd H5 p6 (.tup [V.int (qn:Int),V.ref t])):=(dO.of s4).trans (b5.trans (dO.of s6))
   refine⟨b3.trans bb,?_,?_,?_⟩
   ·rw [e1,mx]
    exact kp5.same s6
   ·rw [e1,mx]
    exact (le3.use kp3.m0).add
   ·rw [e1,List.map_append]
    have kk:∀ a xs,Rd H3 a (.tup xs)→Rd (upd H5 p6 (.tup [V.int (qn:Int),V.ref t])) a (.tup xs):=fun c xs z=>kp3.fy (by rw [sa,sd];exact bb) c xs z
    refine aQ.append (aQ.fy kk _ (iy (fun _=>we) _) hz) (.one (dv.tup ag ⟨_,_,rfl,rfl,.one (dv.tup (s6 _ _ ht) ?_)⟩))
    have:=aQ.ints (K:=K) (H:=upd H5 p6 (.tup [V.int (qn:Int),V.ref t])) ((Num.cU x qn tn).map fun d:Nat=>(d:Int))
    rw [List.map_map (f:=fun d:Nat=>(d:Int)) (g:=V.int)] at this
    exact this
  ·rintro zs H3 p3 ⟨b3,kp3,le3,hz⟩ hp3
   rw [show us.length=ps.length from ul,List.take_length] at hz kp3 le3
   obtain⟨sa,sd,sm⟩:=nH (p:=p) (b:=b) (e:=e) (x:=x) ps k
   refine⟨p3,rfl,zs,.inl ⟨aZ.of ag,fun l hl=>⟨⟨_,bD.of ag⟩,?_⟩⟩⟩
   have S4:aF H3 (upd (upd H3 p3 (.lst zs)) l (.tup zs)):=(ao hp3).trans (ao hl)
   have el:upd (upd H3 p3 (.lst zs)) l (.tup zs) l=some (.tup zs):=ag
   generalize upd (upd H3 p3 (.lst zs)) l (.tup zs)=H4 at *
   have hz4:=aQ.same S4 _ hz
   have zl:zs.length=ps.length:=by rw [hz.length,List.length_map]
   refine gb (xs:=zs) (fun i ws H5=>aF H4 H5∧aQ K H5 ((ps.take i).map fun y=>jG (vf x y)) ws) ⟨aF.refl _,rfl⟩ (Nat.le_trans (show zs.length≤12 by omega) (by decide)) (fun i ws H5 hi ⟨z1,z2⟩=>⟨bD.of (z1 _ _ el),by rw [z2.length,List.length_map,List.length_take];omega⟩) ?_ ?_
   ·rintro i v ws H5 hx ⟨s5,hw⟩
    obtain⟨d,hd',hv⟩:=hz4.get hx
    rw [List.getElem?_map] at hd'
    obtain⟨⟨q',t'⟩,hy,rfl⟩:=Option.map_eq_some_iff.mp hd'
    obtain⟨pm,q6,t1,t9⟩:=oR.ok _ (List.mem_of_getElem? hy)
    have dE:=iX (List.mem_of_getElem? hy)
    rw [oR.eq] at dE
    replace pm:Num.Pm q':=pm
    replace q6:q'≤10^6:=q6
    replace t1:1≤t':=t1
    replace t9:t'≤1000:=t9
    have q2:=pm.two
    obtain⟨qn,rfl⟩:∃ n:Nat,q'=n:=⟨q'.toNat,by omega⟩
    obtain⟨tn,rfl⟩:∃ n:Nat,t'=n:=⟨t'.toNat,by omega⟩
    replace dE:qn^tn∣e:=dE
    obtain⟨pr,ys,rfl,hSr,v1,r1,rfl,f1,v2,r2,rfl,⟨pd,ds,rfl,hSd,hdd⟩,z⟩:=hv
    cases z
    cases f1
    have ed:=oW hdd
    rw [List.map_map] at ed
    replace ed:ds=(Num.cU x qn tn).map fun d:Nat=>V.int (d:Int):=ed
    subst ed
    have dl:=Num.ie (x:=x) (q:=qn) (n:=tn)
    refine⟨pr,_,rfl,hSr.same s5,rfl,?_⟩
    show ip (cQ 0) (ip (cQ 1) ub) _ [none,none] _ _
    k_data
    refine⟨True.intro,ix (hSd.same s5) ?_⟩
    rw [List.length_map,dl]
    refine⟨by show 2≤sizeLine;decide,fun p6 hp6=>⟨by show 1≤sizeLine;decide,fun p7 hp7=>?_⟩⟩
    have s6:=ao (o:=.tup [V.int (qn:Int),V.int (tn:Int)]) hp6
    have s7:=ao (o:=.lst [V.ref p6]) hp7
    have e6:=s7 _ _ (show upd H5 p6 (.tup [V.int (qn:Int),V.int (tn:Int)]) p6=_ from ag)
    have e7:upd (upd H5 p6 (.tup [V.int (qn:Int),V.int (tn:Int)])) p7 (.lst [V.ref p6]) p7=some (.lst [V.ref p6]):=ag
    have S7:=s6.trans s7
    generalize upd (upd H5 p6 (.tup [V.int (qn:Int),V.int (tn:Int)])) p7 (.lst [V.ref p6])=H7 at *
    have eN1:Num.eN [((qn:Int),(tn:Int))]=qn^tn:=Nat.mul_one _
    have qe:qn^tn≤e:=Nat.le_of_dvd (by omega) dE
    refine⟨p7,[V.ref p6],[((qn:Int),(tn:Int))],rfl,e7,.one (dv.tup e6 ⟨_,_,rfl,rfl,.one rfl⟩),fun y hy=>by rw [List.mem_singleton.mp hy];exact⟨q2,by omega,by show (tn:Int)≤10^6;omega⟩,by rw [eN1];omega,fun H8 s8=>?_⟩
    rw [eN1]
    have S8:=(s5.trans S7).trans s8
    refine⟨qn,x,tn,pd,rfl,by omega,by omega,Nat.le_trans (Nat.mod_le _ _) (by omega),by omega,hSd.same S8,fun H9 s9=>⟨by show 2≤sizeLine;decide,fun p9 hp9=>?_⟩⟩
    have s10:=ao (o:=.tup [V.int ((qn^tn:Nat):Int),V.int ((x%qn^tn:Nat):Int)]) hp9
    have S10:=((S7.trans s8).trans s9).trans s10
    refine⟨s5.trans S10,?_⟩
    rw [List.take_add_one,hy,List.map_append]
    exact aQ.append (aQ.same S10 _ hw) (.one (dv.tup ag ⟨_,_,rfl,rfl,.one rfl⟩))
   ·rintro ws H5 p5 ⟨s5,hw⟩ hp5
    rw [show zs.length=ps.length from zl,List.take_length] at hw
    have s6:=ao (o:=.lst ws) hp5
    have hw6:=aQ.same s6 _ hw
    rw [show (ps.map fun y=>jG (vf x y))=(ps.map (vf x)).map jG from by rw [List.map_map];rfl] at hw6
    refine⟨p5,ws,ps.map (vf x),rfl,aZ.of ag,hw6,fun y hy=>?_,by rw [List.length_map];exact pl12,fun i j _ _ _ ap=>absurd ap wg,fun W N pw H7 _ told _ s7 fw ew=>?_⟩
    ·obtain⟨y',hy',rfl⟩:=List.mem_map.mp hy
     have dE:=iX hy'
     rw [oR.eq] at dE
     have qe:y'.1.toNat^y'.2.toNat≤e:=Nat.le_of_dvd (by omega) dE
     have q0:0<y'.1.toNat^y'.2.toNat:=Nat.pos_of_dvd_of_pos dE (by omega)
     have xm:x%y'.1.toNat^y'.2.toNat≤x:=Nat.mod_le _ _
     show 0<((y'.1.toNat^y'.2.toNat:Nat):Int)∧((y'.1.toNat^y'.2.toNat:Nat):Int)≤10^18 ∧ -(10^80)≤((x%y'.1.toNat^y'.2.toNat:Nat):Int)∧((x%y'.1.toNat^y'.2.toNat:Nat):Int)≤10^80
     generalize x%y'.1.toNat^y'.2.toNat=z1 at *
     generalize y'.1.toNat^y'.2.toNat=z2 at *
     omega
    ·obtain⟨eW,eN⟩:=told.one (zM oR xe)
     subst eW
     subst eN
     refine cf (bD.of ew) DI ⟨by show 3≤sizeLine;decide,fun p8 hp8=>⟨by show 2≤sizeLine;decide,fun p9 hp9=>?_⟩⟩
     have s8:=ao (o:=.tup [V.str "is",V.int (e:Int),V.ref l]) hp8
     have s9:=ao (o:=.tup [V.int (x:Int),V.ref p8]) hp9
     have SS:=(((S4.trans s5).trans s6).trans s7).trans (s8.trans s9)
     have S5:=((s5.trans s6).trans s7).trans (s8.trans s9)
     refine q _ _ (post _ ((dO.of s2).trans (b3.trans (dO.of SS))) (kp3.same SS) le3) (dv.tup ag ⟨_,_,rfl,rfl,.one (dv.tup (s9 _ _ ag) ⟨_,_,rfl,rfl,_,_,rfl,rfl,.one (dv.tup (S5 _ _ el) (aQ.same S5 _ hz4))⟩)⟩)
end
end K
namespace K
open PySem PySem.Spec PyProof.Rows L2
section
variable {P:Program} {w:World} {K:PySem.W.Frag} {mg:Str→Option Value} {base:Heap} {C:Addr}
theorem lX {ps:List (Int × Int)} {ds:Nat→PyData} {ts:List Int} (hr:ps.Pairwise fun a b=>a.1<b.1) (hl:ts.length=ps.length):∀ n,n≤ps.length→((bU ps ds ts n).map kp).Pairwise (fun a b=>a.1<b.1)∧∀ y∈(bU ps ds ts n).map kp,∃ i,i<n∧(ps[i]?).map (·.1)=some y.1
 | 0,_=>⟨.nil,fun y hy=>by cases hy⟩
 | n+1,h=>by
  obtain⟨r,m⟩:=lX (ds:=ds) hr hl n (by omega)
  have hp:ps[n]?=some (ps[n].1,ps[n].2):=List.getElem?_eq_getElem (by omega)
  have ht:ts[n]?=some ts[n]:=List.getElem?_eq_getElem (by omega)
  rw [fK hp ht,List.map_append]
  by_cases c:0<ts[n]
  ·rw [if_pos c]
   refine⟨List.pairwise_append.mpr ⟨r,List.pairwise_singleton _ _,fun a ha b hb=>?_⟩,fun y hy=>?_⟩
   ·obtain⟨i,hi,ei⟩:=m a ha
    obtain⟨z,e1,e2⟩:=Option.map_eq_some_iff.mp ei
    rw [List.mem_singleton.mp hb,← e2]
    have hz:ps[i]=z:=by rw [List.getElem?_eq_getElem (show i<ps.length by omega)] at e1;exact Option.some.inj e1
    have:=List.pairwise_iff_getElem.mp hr i n (by omega) (by omega) hi
    rw [hz] at this
    exact this
   ·rcases List.mem_append.mp hy with z | z
    ·obtain⟨i,hi,e⟩:=m y z
     exact⟨i,by omega,e⟩
    ·rw [List.mem_singleton.mp z]
     exact⟨n,by omega,by rw [hp];rfl⟩
  ·rw [if_neg c,List.map_nil,List.append_nil]
   exact⟨r,fun y hy=>let ⟨i,hi,e⟩:=m y hy;⟨i,by omega,e⟩⟩
theorem ug {p a:Int} {e:Nat} {ps:List (Int × Int)} {ds:Nat→PyData} {ts:List Int} (hP:Num.Part (p-1) ps) (to:Num.TO p a ps ts) (o:Num.Ord p a e) (e9:e≤10^9):Num.Part e ((c7 ps ds ts).map kp):=by
 have e1:=i4 (ds:=ds) to.len to.nn ps.length (Nat.le_refl _)
 rw [List.take_of_length_le (by rw [List.length_zip,List.length_map];omega),to.ord.wK o] at e1
 have hm:∀ y∈(c7 ps ds ts).map kp,Num.Pm y.1∧1≤y.2:=fun y hy=>by
  obtain⟨z,hz,rfl⟩:=List.mem_map.mp hy
  obtain⟨i,k,h1,h2,h3,_⟩:=gT hz
  exact⟨(hP.ok _ (List.mem_of_getElem? h1)).1,by show 1≤z.2.2;omega⟩
 refine⟨fun y hy=>⟨(hm y hy).1,(hm y hy).2,?_⟩,(lX hP.rise to.len ps.length (Nat.le_refl _)).1,?_⟩
 ·have hd:=iX hy
  have e1':Num.eN ((c7 ps ds ts).map kp)=e:=e1
  rw [e1'] at hd
  have h1:=Nat.le_of_dvd o.pos hd
  have q2:=(hm y hy).1.two
  have h2:2^y.2.toNat≤y.1.toNat^y.2.toNat:=Nat.pow_le_pow_left (by omega) _
  rcases Nat.lt_or_ge 30 y.2.toNat with z | z
  ·have:=Nat.pow_le_pow_right (show 0<2 by decide) (show 31≤y.2.toNat by omega)
   have h3:(2:Nat)^31≤10^9:=Nat.le_trans this (Nat.le_trans h2 (Nat.le_trans h1 e9))
   exact absurd h3 (by decide)
  ·omega
 ·rw [← Num.fe _ fun y hy=>(hm y hy).1]
  exact congrArg _ e1
def asc:Nat→Nat→Nat
 | _,0=>1
 | lo,n+1=>lo*asc (lo+1) n
theorem pN:∀{ps:List (Int × Int)} {lo:Nat},(∀ y∈ps,(lo:Int)≤y.1∧2≤y.1∧1≤y.2)→ps.Pairwise (fun a b=>a.1<b.1)→asc lo ps.length≤Num.eN ps
 | [],_,_,_=>Nat.le_refl _
 | p::r,lo,h,hr=>by
  obtain⟨h1,h2,h3⟩:=h p (List.mem_cons_self ..)
  obtain⟨r1,r2⟩:=List.pairwise_cons.mp hr
  show lo*asc (lo+1) r.length≤p.1.toNat^p.2.toNat*Num.eN r
  refine Nat.mul_le_mul ?_ (pN (fun y hy=>?_) r2)
  ·exact Nat.le_trans (show lo≤p.1.toNat by omega) (Nat.le_self_pow (by omega) _)
  ·have:=h y (List.mem_cons_of_mem _ hy)
   have:=r1 y hy
   omega
theorem n8:∀(n:Nat) {m lo:Nat},0<lo→n≤m→asc lo n≤asc lo m
 | 0,m,lo,l0,_=>by
  have:∀(m lo:Nat),0<lo→1≤asc lo m:=by
   intro m
   induction m with
   | zero=>intro _ _;exact Nat.le_refl _
   | succ m ih=>intro lo l0;exact Nat.mul_pos l0 (ih (lo+1) (by omega))
  exact this m lo l0
 | n+1,0,_,_,h=>absurd h (by omega)
 | n+1,m+1,lo,l0,h=>Nat.mul_le_mul_left lo (n8 n (by omega) (by omega))
theorem pO {e:Nat} {ps:List (Int × Int)} (h:Num.Part e ps) (e9:e≤10^9):ps.length≤12:=by
 have h1:=pN (lo:=2) (fun y hy=>⟨(h.ok y hy).1.two,(h.ok y hy).1.two,(h.ok y hy).2.1⟩) h.rise
 have h2:Num.eN ps=e:=by
  have:=Num.fe ps fun y hy=>(h.ok y hy).1
  rw [h.prod] at this
  omega
 rcases Nat.lt_or_ge 12 ps.length with z | z
 ·have h3:asc 2 13≤asc 2 ps.length:=n8 13 (by decide) z
  exact absurd (Nat.le_trans h3 (Nat.le_trans h1 (by rw [h2];exact e9))) (by decide)
 ·exact z
theorem uH {e:Nat} {ps:List (Int × Int)} (h:Num.Part e ps) (e9:e≤10^9) (h6:∀ y∈ps,y.1≤10^6):AF e ps where
 ok:=fun y hy=>by
  obtain⟨a,b,c⟩:=h.ok y hy
  exact⟨a,h6 y hy,b,by omega⟩
 ne:=h.rise.imp fun z=>by omega
 eq:=by
  have:=Num.fe ps fun y hy=>(h.ok y hy).1
  rw [h.prod] at this
  omega
 len:=pO h e9
def Cp (e:Nat) (r:Int):PyData:=.tuple [.none,.tuple [.str "none",.int e,.int r]]
def nP (K:PySem.W.Frag) (C CN CF:Addr):Sp:=fun vs H Q E=>∃(v vk:V) (p b a g:Int) (rows:PyData) (ko:Option KH),vs=[v,.int b,.int a,vk]∧dv K H (.tuple [.int p,.int g,rows]) v∧Num.iV p (.tuple [.int p,.int g,rows]) ∧ -(10^60)≤b∧b≤10^60 ∧ -(10^60)≤a∧a≤10^60∧vj C ko vk H∧(p∣a∨p∣b→BQ CN H E) ∧
 (¬p∣a→¬p∣b→∀ e:Nat,Num.Ord p b e→(e:Int)<p →
  (¬Num.Al p (a^e) 1→∀ u H',aF H H'→dv K H' (Cp e (a^e%p)) u→Q u H') ∧
  (∀ x,x<e→Num.Al p a (b^x)→∀ ps,Num.Part e ps →
   ((∀ y∈ps,y.1≤10^6)→∀ u H',lI C ko (fun k=>iH k p b e x ps) H H'→dv K H' (Cz x e ps) u→Q u H') ∧
   (∀ m∈ps.map (·.1),(∀ n∈ps.map (·.1),n≤m)→10^6<m→ym CF "part" (.int m) H E)))
theorem vj.same {ko:Option KH} {v:V} {H H':Hp} (h:vj C ko v H) (s:aF H H'):vj C ko v H':=by
 cases ko with
 | none=>exact h
 | some k=>exact⟨h.1,h.2.1.same s,h.2.2⟩
theorem lI.pre {ko:Option KH} {f:KH→KH} {H H1 H':Hp} (s:aF H H1) (h:lI C ko f H1 H'):lI C ko f H H':=by
 cases ko with
 | none=>exact s.trans h
 | some k=>exact⟨(dO.of s).trans h.1,h.2⟩
theorem ym.pre {CN:Addr} {f:Str} {v:V} {H H1:Hp} {E:XK} (s:aF H H1) (h:ym CN f v H E):ym CN f v H1 E:=fun x dx H' s' fr e=>h x dx H' (s.trans s') (s.free fr) e
theorem pZ:aA [("paper":Str),("b":Str),("a":Str),("kept":Str),("p":Str),("e":Str),("parts":Str),("rest":Str)] [("paper":Str),("b":Str),("a":Str),("kept":Str)] (ak (top 46)):=⟨rfl,rfl,rfl,by decide +kernel,rfl,by decide +kernel,by decide +kernel⟩
theorem wI {CN CF C0:Addr} (D:mK K mg "which" (top 46) #[.none]) (c_order:Callee P w K mg base (c6 P w) 14 "order" ["paper","a"] (tw K CN)) (c_power:Callee P w K mg base (c6 P w) 4 "power" ["n","a","e"] (cF C0)) (c_refuse_far:Callee P w K mg base (c6 P w) 3 "refuse_far" ["primes"] (Ak K CF)) (c_primes_in:Callee P w K mg base aO 1 "primes_in" ["parts"] (fm K)) (c_sought:Callee P w K mg base aO 6 "sought" ["p","b","a","order_paper","kept"] (qg K C)) (x_Nought:qD K mg "Nought" CN):jH P w K mg base (c6 P w) 15 "which" [("paper":Str),("b":Str),("a":Str),("kept":Str)] [.none] (nP K C CN CF):=by
 refine oA D (fun _ _ _ _ _ _ _ us hl=>match us,(show us.length=4 by simpa using hl) with | [_,_,_,_],_=>⟨_,rfl,rfl⟩) (fun _ _ _ _ _ _ _ us hl=>match us,(show us.length=3 by simpa using hl) with | [_,_,_],_=>⟨_,rfl,rfl⟩) pZ (fun vs H Q E h=>by obtain⟨_,_,_,_,_,_,_,_,rfl,_⟩:=h;rfl) (fun f cdv A outer s H vs Q E hr h=>?_)
 obtain⟨v,vk,p,b,a,g,rows,ko,rfl,hd,hp,b0,b1,a0,a1,pre,qN,q⟩:=h
 obtain⟨pm,p9⟩:=iz hp
 have p2:=pm.two
 have nd:=pZ.nd
 refine⟨_,(ae (aq (i:=4) nd rfl (Or.inl rfl) (aV bB (pv 0) ah (fun _ _=>rfl))) (ae (aP (aw bO (av aK (pv 2) (pv 4)) ah (az _)) (ai (bZ (kK x_Nought rfl))) aI) (ae (dH (aj c_order (hr.mono (by decide)) rfl kI (aa (pv 0) (aa (pv 1) af))) (cu (n:=2) rfl (aD (ay (i:=5) nd rfl (Or.inl rfl) (.inr rfl)) (aD (ay (i:=6) nd rfl (Or.inl rfl) (.inr rfl)) aW)))) (ae (aq (i:=7) nd rfl (Or.inl rfl) (aj c_power (hr.mono (by decide)) rfl aJ (aa (pv 4) (aa (pv 2) (aa (pv 5) af))))) (ae (aP (aw dS (pv 7) ah (az _)) (gF.l9 (ai (aC (aM (aa gY (aa (aM (aa bM (aa (pv 5) (aa (pv 7) af)))) af)))))) aI) (ae (dW (aj c_refuse_far (hr.mono (by decide)) rfl kI (aa (aj c_primes_in (hr.mono (by decide)) rfl aG (aa (pv 6) af)) af))) (gF.l9 (ai (aC (aj c_sought (hr.mono (by decide)) rfl aG (aa (pv 4) (aa (pv 1) (aa (pv 2) (aa (aM (aa (pv 5) (aa (pv 6) af))) (aa (pv 3) af))))))))))))))),?_⟩
 show bz _ _ _ [some v,some (.int b),some (.int a),some vk,none,none,none,none] H
 obtain⟨pp,y1,y2,vr,rfl,tS,e0,eg,dr⟩:=qK hd
 cases e0
 cases eg
 k_data
 refine cf tS lu ⟨p,rfl,by omega,aR (fun c=>?_) (fun c=>?_)⟩
 ·exact fun x hx=>dy x_Nought.cls (aF.refl _) hx (qN (.inl (Int.dvd_of_emod_eq_zero c)))
 have na:¬p∣a:=fun z=>c (Int.emod_eq_zero_of_dvd z)
 refine⟨.ref pp,p,b,g,rows,rfl,hd,hp,b0,b1,fun z=>qN (.inr z),fun nb r u H1 hr1 s1 hu=>?_⟩
 obtain⟨e',ps,ds,ts,er,hP,hl29,hds,e1,e2,o,to,rfl⟩:=hr1
 obtain⟨e,rfl⟩:∃ n:Nat,e'=n:=⟨e'.toNat,by omega⟩
 rw [Int.toNat_natCast] at o
 have e9:e≤10^9:=by omega
 obtain⟨q1,q2⟩:=q na nb e o e2
 obtain⟨po,ys,rfl,hSo,ve,r1,rfl,h1,vrr,r2,rfl,hvr,z⟩:=hu
 cases z
 cases h1
 have hpart:=ug (ds:=ds) hP to o e9
 have hG:yr ((c7 ps ds ts).map (gW p b e)) ((c7 ps ds ts).map kp):=by
  refine⟨by rw [List.length_map,List.length_map],fun i row hrow=>?_⟩
  rw [List.getElem?_map] at hrow
  obtain⟨y,hy,rfl⟩:=Option.map_eq_some_iff.mp hrow
  obtain⟨j,k,h1,h2,h3,h4⟩:=gT (List.mem_of_getElem? hy)
  obtain⟨g',rr,eg⟩:=(hds j _ _ h1).head
  exact⟨kp y,by rw [List.getElem?_map,hy];rfl,_,_,by unfold gW;rw [h4,eg];rfl⟩
 have hQ:CU ((c7 ps ds ts).map (gW p b e)) (((c7 ps ds ts).map kp).map (·.1)):=by
  refine⟨by rw [List.length_map,List.length_map,List.length_map],fun i row hrow=>?_⟩
  obtain⟨y,hy,d1,d2,ed⟩:=hG.2 i row hrow
  exact⟨y.1,by rw [List.getElem?_map,hy];rfl,d1,_,ed⟩
 generalize (c7 ps ds ts).map kp=pl at *
 generalize (c7 ps ds ts).map (gW p b e)=rws at *
 have rl:=hG.1
 have pl12:=pO hpart e9
 refine⟨po,_,rfl,hSo,rfl,?_⟩
 k_data
 refine⟨p,a,_,rfl,by omega,by omega,fun _ H2 s2=>?_,fun z=>absurd z (by omega)⟩
 rw [Int.toNat_natCast]
 have S2:=s1.trans s2
 refine⟨rfl,aR (fun c1=>?_) (fun c1=>?_)⟩
 ·refine⟨by show 3≤sizeLine;decide,fun p3 hp3=>⟨by show 2≤sizeLine;decide,fun p4 hp4=>?_⟩⟩
  have s3:=ao (o:=.tup [V.str "none",V.int (e:Int),V.int (a^e%p)]) hp3
  have s4:=ao (o:=.tup [V.non,V.ref p3]) hp4
  exact q1 (fun z=>c1 (congrArg V.int ((eC p2).mpr z))) _ _ (S2.trans (s3.trans s4)) (dv.tup ag ⟨_,_,rfl,rfl,.one (dv.tup (s4 _ _ ag) ⟨_,_,rfl,rfl,_,_,rfl,rfl,.one rfl⟩)⟩)
 ·have al1:Num.Al p (a^e) 1:=(eC p2).mp (V.int.inj (Classical.not_not.mp c1))
  obtain⟨x,xe,alx⟩:=Num.pR pm o al1
  obtain⟨q3,q4⟩:=q2 x xe alx pl hpart
  refine⟨vrr,rws,_,rfl,dv.same s2 _ hvr,hQ,by omega,fun pm' H3 s3 f3 e3=>?_⟩
  have S3:=S2.trans s3
  refine⟨pm',pl.map (·.1),rfl,aZ.of e3,by rw [List.length_map];omega,fun all6=>⟨by show 2≤sizeLine;decide,fun p5 hp5=>?_⟩,fun m hm hM m6=>ym.pre S3 (q4 m hm hM m6)⟩
  have s5:=ao (o:=.tup [V.int (e:Int),vrr]) hp5
  have h6:∀ y∈pl,y.1≤10^6:=fun y hy=>all6 _ (List.mem_map.mpr ⟨y,hy,rfl⟩)
  refine⟨p,b,a,e,x,.ref p5,vk,rws,pl,ko,rfl,dv.tup ag ⟨_,_,rfl,rfl,.one (dv.same (s2.trans (s3.trans s5)) _ hvr)⟩,hG,uH hpart e9 h6,pre.same (S3.trans s5),p2,by omega,a0,a1,o,by omega,xe,alx,fun u H' post hu=>q3 h6 u H' (post.pre (S3.trans s5)) hu⟩
end
end K
namespace K
open PySem PySem.Spec PyProof.Rows L2
section
variable {P:Program} {w:World} {K:PySem.W.Frag} {mg:Str→Option Value} {base:Heap}
theorem Ah {n d:Int} (hn:1<n) (d2:2≤d) (no:∀ k,2≤k→k<d→¬k∣n) (h:n<d*d):Num.Pm n:=⟨by omega,fun e e2 en hd=>by
 rcases (by omega:e<d∨d≤e) with z | z
 ·exact no e e2 z hd
 ·obtain⟨c,hc⟩:=hd
  have c2:2≤c:=by
   rcases (by omega:c≤0∨c=1∨2≤c) with y | y | y
   ·have:=Int.mul_nonpos_of_nonneg_of_nonpos (show 0≤e by omega) y
    omega
   ·rw [y] at hc
    omega
   ·exact y
  have cd:c<d:=by
   rcases (by omega:c<d∨d≤c) with y | y
   ·exact y
   ·have:=Int.mul_le_mul z y (by omega) (by omega)
    omega
  exact no c c2 cd ⟨e,by rw [hc,Int.mul_comm]⟩⟩
def Dj (n:Nat):Bool:=(List.range 126).all fun i=>(List.range 126).all fun j=>!decide (n%(2*(126*i+j)+3)=0)
theorem wX {n:Nat} (h:Dj n=true) (n1:3≤n) (n2:n%2=1) (n9:n<31625*31625):Num.Pm (n:Int):=by
 refine Ah (d:=31625) (by omega) (by decide) (fun k k2 kd hd=>?_) (by omega)
 have hd':k.toNat∣n:=Int.natCast_dvd_natCast.mp (by rw [show ((k.toNat:Nat):Int)=k by omega];exact hd)
 rcases (by omega:k%2=0∨k%2=1) with z | z
 ·have:=Nat.mod_eq_zero_of_dvd (Nat.dvd_trans (show 2∣k.toNat by omega) hd')
  omega
 ·have hk:((k.toNat-3)/2/126)<126:=by omega
  have h1:=List.all_eq_true.mp h ((k.toNat-3)/2/126) (List.mem_range.mpr hk)
  have h2:=List.all_eq_true.mp h1 ((k.toNat-3)/2%126) (List.mem_range.mpr (Nat.mod_lt _ (by decide)))
  have e:2*(126*((k.toNat-3)/2/126)+(k.toNat-3)/2%126)+3=k.toNat:=by omega
  rw [e,Nat.mod_eq_zero_of_dvd hd'] at h2
  simp at h2
theorem mh:Num.Pm 100003:=wX (n:=100003) (by decide +kernel) (by decide) (by decide) (by decide)
def mC:Sp:=fun vs H Q _=>∃ n:Int,vs=[.int n]∧0≤n∧n≤10^60∧∀ b:Bool,(b=true↔Num.Pm n)→Q (.bl b) H
theorem eU:aA [("_law_n":Str),("_law_d":Str)] [("_law_n":Str)] (ak (top 64)):=⟨rfl,rfl,rfl,by decide +kernel,rfl,by decide +kernel,by decide +kernel⟩
theorem uu (D:ax K mg "_law_is_prime" (top 64)) (n_int:mg "int"=none):Callee P w K mg base aO 1 "_law_is_prime" [("_law_n":Str)] mC:=by
 refine aB D (fun _ _ _ _ _ _ us hl=>by obtain⟨_,rfl⟩:=cI hl;exact rfl) eU (fun vs H Q E h=>by obtain⟨_,rfl,_⟩:=h;rfl) (fun f cdv A outer s H vs Q E hr h=>?_)
 obtain⟨n,rfl,n0,hn,q⟩:=h
 have nd:=eU.nd
 refine⟨_,(ae (aq (i:=1) nd rfl (Or.inl rfl) ah) (ae (bf PassesOwn.never (aw wL (av aL (pv 1) (pv 1)) (pv 0) (az _)) (ae (aP (aw bO (av aK (pv 0) (pv 1)) ah (az _)) (ai (aC jo)) aI) (ai (aq (i:=1) nd rfl (Or.inl rfl) (av bI (av bI (pv 1) ah) (dz tR rfl n_int L2.boot_int (aa (dh cw (pv 1) ah (az _)) af))))))) (ai (aC (dh cw (pv 0) ah (az _)))))),?_⟩
 show bz _ _ _ [some (.int n),none] H
 k_data
 refine bh (α:=Int) (fun x=>[some (.int n),some (.int x)]) (fun x H1=>H1=H∧2≤x∧x≤10^60+3∧(x=2∨x%2=1)∧∀ k,2≤k→k<x→¬k∣n) (fun x=>(n+3-x).toNat) 2 rfl ⟨rfl,by decide,by decide,.inl rfl,fun k k1 (k2:k<2) hk=>by omega⟩ ?_
 rintro x H1 ⟨rfl,x2,x9,xo,no⟩
 replace x2:2≤x:=x2
 replace x9:x≤10^60+3:=x9
 replace xo:x=2∨x%2=1:=xo
 replace no:∀ k,2≤k→k<x→¬k∣n:=no
 k_data
 refine⟨Bd.of (by omega) (by omega),Bd.of (by omega) (by omega),aR (fun c=>?_) (fun c=>?_)⟩
 ·have xx:x*2≤x*x:=Int.mul_le_mul_of_nonneg_left x2 (by omega)
  refine⟨_,fun _ _ z=>z,by omega,aR (fun c1=>?_) (fun c1=>?_)⟩
  ·refine q false ⟨fun z=>(by cases z),fun z=>absurd (Int.dvd_of_emod_eq_zero c1) (z.no x x2 (by omega))⟩
  ·have nx:¬x∣n:=fun z=>c1 (Int.emod_eq_zero_of_dvd z)
   rcases xo with rfl | xo
   ·refine⟨3,rfl,rfl,by decide,by decide,.inr (by decide),fun k k2 (k3:k<3)=>?_,by omega⟩
    rw [show k=2 by omega]
    exact nx
   ·have x3:2<x:=by omega
    rw [if_pos x3]
    refine⟨x+2,by rw [Int.add_assoc];rfl,rfl,by omega,by omega,.inr (by omega),fun k k2 k3=>?_,by omega⟩
    rcases (by omega:k<x∨k=x∨k=x+1) with z | z | z
    ·exact no k k2 z
    ·rw [z];exact nx
    ·intro hk
     exact no 2 (by decide) x3 (Int.dvd_trans (show (2:Int)∣k by omega) hk)
 ·refine q _ ?_
  rw [decide_eq_true_iff]
  exact⟨fun z=>Ah z x2 no (by omega),fun z=>by have:=z.two;omega⟩
def qd:Sp:=fun vs H Q _=>∃ n p0:Int,vs=[.int n]∧0≤n∧n≤p0∧Num.Pm p0∧p0≤10^60∧∀ r,Num.Pm r→n≤r→r≤p0→(∀ k,n≤k→k<r→¬Num.Pm k)→Q (.int r) H
theorem gJ:aA [("_law_n":Str)] [("_law_n":Str)] (ak (top 65)):=⟨rfl,rfl,rfl,by decide +kernel,rfl,by decide +kernel,by decide +kernel⟩
theorem ux (D:ax K mg "_law_prime" (top 65)) (c__law_is_prime:Callee P w K mg base aO 1 "_law_is_prime" ["_law_n"] mC):Callee P w K mg base aO 2 "_law_prime" [("_law_n":Str)] qd:=by
 refine aB D (fun _ _ _ _ _ _ us hl=>by obtain⟨_,rfl⟩:=cI hl;exact rfl) gJ (fun vs H Q E h=>by obtain⟨_,_,rfl,_⟩:=h;rfl) (fun f cdv A outer s H vs Q E hr h=>?_)
 obtain⟨n,p0,rfl,n0,np,pm,p9,q⟩:=h
 have nd:=gJ.nd
 refine⟨_,(ae (bf PassesOwn.never (fj (bN (aj c__law_is_prime (hr.mono (by decide)) rfl aG (aa (pv 0) af)) (fun _=>rfl))) (ai (aq (i:=0) nd rfl (Or.inl rfl) (av bI (pv 0) ah)))) (ai (aC (pv 0)))),?_⟩
 show bz _ _ _ [some (.int n)] H
 k_data
 refine bh (α:=Int) (fun x=>[some (.int x)]) (fun x H1=>H1=H∧n≤x∧x≤p0∧∀ k,n≤k→k<x→¬Num.Pm k) (fun x=>(p0-x).toNat) n rfl ⟨rfl,Int.le_refl _,np,fun k k1 k2=>by omega⟩ ?_
 rintro x H1 ⟨rfl,x1,x2,no⟩
 replace x1:n≤x:=x1
 replace x2:x≤p0:=x2
 replace no:∀ k,n≤k→k<x→¬Num.Pm k:=no
 k_data
 refine⟨x,rfl,by omega,by omega,fun b hb=>⟨b,bK.mpr rfl,?_⟩⟩
 cases b with
 | true=>exact q x (hb.mp rfl) x1 x2 no
 | false =>
  have nx:¬Num.Pm x:=fun z=>by cases hb.mpr z
  have ne:x≠p0:=fun z=>nx (z▸pm)
  refine⟨_,fun _ _ z=>z,x+1,rfl,rfl,by omega,by omega,fun k k1 k2=>?_,by omega⟩
  rcases (by omega:k<x∨k=x) with z | z
  ·exact no k k1 z
  ·rw [z];exact nx
theorem Tp.more {p:Addr} {n m:Nat} {H:Hp} (h:Tp p n H) (l:n≤m):Tp p m H:=by
 obtain⟨l',i,j,ns,a,b,c,d,e⟩:=h
 exact⟨l',i,j,ns,a,b,c,d,by omega⟩
end
end K
namespace K
open PySem PySem.Spec PyProof.Rows L2
section
variable {P:Program} {w:World} {K:PySem.W.Frag} {mg:Str→Option Value} {base:Heap}
def rC:Sp:=fun vs H Q _=>∃(p:Addr) (m:Int) (n:Nat),vs=[.ref p,.int m]∧Tp p n H∧n≤10^50∧0<m∧∀ r H',0≤r→r<m→Off p H H'→Tp p (n+2) H'→Q (.int r) H'
theorem jr:aA [("_law_tape_here":Str),("_law_many":Str)] [("_law_tape_here":Str),("_law_many":Str)] (ak (top 63)):=⟨rfl,rfl,rfl,by decide +kernel,rfl,by decide +kernel,by decide +kernel⟩
theorem yZ (D:ax K mg "_law_far" (top 63)) (c__law_draw:Callee P w K mg base aO 1 "_law_draw" ["_law_tape_here","_law_many"] kZ):Callee P w K mg base aO 2 "_law_far" [("_law_tape_here":Str),("_law_many":Str)] rC:=by
 refine aB D (fun _ _ _ _ _ _ us hl=>by obtain⟨_,_,rfl⟩:=cL hl;exact rfl) jr (fun vs H Q E h=>by obtain⟨_,_,_,rfl,_⟩:=h;rfl) (fun f cdv A outer s H vs Q E hr h=>?_)
 obtain⟨p,m,n,rfl,tp,n9,m0,q⟩:=h
 have nd:=jr.nd
 refine⟨_,(ai (aC (av aK (av bI (av aL (aj c__law_draw (hr.mono (by decide)) rfl aG (aa (pv 0) (aa ah af))) ah) (aj c__law_draw (hr.mono (by decide)) rfl aG (aa (pv 0) (aa ah af)))) (pv 1)))),?_⟩
 show h7 _ _ [some (.ref p),some (.int m)] H
 k_data
 refine⟨p,31623,n,rfl,tp,by omega,by decide,by decide,fun r1 H1 r10 r11 o1 t1=>⟨_,rfl,Bd.of (by omega) (by omega),yn (by decide),p,31623,n+1,rfl,t1,by omega,by decide,by decide,fun r2 H2 r20 r21 o2 t2=>⟨_,rfl,m0,?_⟩⟩⟩
 exact q _ _ (Int.emod_nonneg _ (by omega)) (Int.emod_lt_of_pos _ m0) (o1.trans o2) t2
end
end K
namespace K
open PySem PySem.Spec PyProof.Rows L2
section
variable {P:Program} {w:World} {K:PySem.W.Frag} {mg:Str→Option Value} {base:Heap}
def iJ:Sp:=fun vs H Q _=>∃ a b:Nat,vs=[.int a,.int b]∧Q (.int (Nat.gcd a b:Nat)) H
theorem fU:aA [("_law_one":Str),("_law_other":Str)] [("_law_one":Str),("_law_other":Str)] (ak (top 67)):=⟨rfl,rfl,rfl,by decide +kernel,rfl,by decide +kernel,by decide +kernel⟩
theorem uq (D:ax K mg "_law_common" (top 67)):Callee P w K mg base aO 1 "_law_common" [("_law_one":Str),("_law_other":Str)] iJ:=by
 refine aB D (fun _ _ _ _ _ _ us hl=>by obtain⟨_,_,rfl⟩:=cL hl;exact rfl) fU (fun vs H Q E h=>by obtain⟨a,b,rfl,_⟩:=h;rfl) (fun f cdv A outer s H vs Q E hr h=>?_)
 obtain⟨a,b,rfl,q⟩:=h
 have nd:=fU.nd
 refine⟨_,(ae (bf PassesOwn.never (aw cw (pv 1) ah (az _)) (ai (nq (i:=0) (j:=1) rfl nd rfl rfl (by decide) rfl rfl (aa (pv 1) (aa (av aK (pv 0) (pv 1)) af)) rfl))) (ai (aC (pv 0)))),?_⟩
 show bz _ _ _ [some (.int (a:Int)),some (.int (b:Int))] H
 k_data
 refine bh (α:=Nat × Nat) (fun x=>[some (.int (x.1:Int)),some (.int (x.2:Int))]) (fun x H'=>H'=H∧Nat.gcd x.1 x.2=Nat.gcd a b) (fun x=>x.2) (a,b) rfl ⟨rfl,rfl⟩ ?_
 rintro⟨x,y⟩ H1 ⟨rfl,hg⟩
 replace hg:Nat.gcd x y=Nat.gcd a b:=hg
 k_data
 refine aR (fun c=>?_) (fun c=>?_)
 ·have y0:0<y:=by omega
  refine⟨_,fun _ _ z=>z,by omega,(y,x%y),by rw [Int.natCast_emod],rfl,?_,Nat.mod_lt _ y0⟩
  show Nat.gcd y (x%y)=_
  rw [← hg,Nat.gcd_comm x y,Nat.gcd_rec y x,Nat.gcd_comm]
 ·have y0:y=0:=by omega
  subst y0
  rw [Nat.gcd_zero_right] at hg
  rw [hg]
  exact q
end
end K
namespace K
open PySem PySem.Spec PyProof.Rows L2
section
variable {P:Program} {w:World} {K:PySem.W.Frag} {mg:Str→Option Value} {base:Heap}
def i9:Sp:=fun vs H Q _=>∃(n a:Int) (e:Int),vs=[.int n,.int a,.int e]∧0<n∧n≤10^100 ∧ -(10^100)≤a∧a≤10^100∧0≤e∧Q (.int (a^e.toNat%n)) H
theorem gI:aA [("_law_n":Str),("_law_a":Str),("_law_e":Str),("_law_found":Str)] [("_law_n":Str),("_law_a":Str),("_law_e":Str)] (ak (top 70)):=⟨rfl,rfl,rfl,by decide +kernel,rfl,by decide +kernel,by decide +kernel⟩
theorem y8 (D:ax K mg "_law_power" (top 70)):Callee P w K mg base aO 1 "_law_power" [("_law_n":Str),("_law_a":Str),("_law_e":Str)] i9:=by
 refine aB D (fun _ _ _ _ _ _ us hl=>by obtain⟨_,_,_,rfl⟩:=dQ hl;exact rfl) gI (fun vs H Q E h=>by obtain⟨_,_,_,rfl,_⟩:=h;rfl) (fun f cdv A outer s H vs Q E hr h=>?_)
 obtain⟨n,a,e,rfl,hn,hn1,a0,a1,he,q⟩:=h
 have nd:=gI.nd
 refine⟨_,(ae (aq (i:=3) nd rfl (Or.inl rfl) (av aK ah (pv 0))) (ae (bf PassesOwn.never (aw cw (pv 2) ah (az _)) (ae (c8 (aP (aw bO (av aK (pv 2) ah) ah (az _)) (ai (aq (i:=3) nd rfl (Or.inl rfl) (av aK (av aL (pv 3) (pv 1)) (pv 0)))) aI)) (ae (aq (i:=1) nd rfl (Or.inl rfl) (av aK (av aL (pv 1) (pv 1)) (pv 0))) (ai (aq (i:=2) nd rfl (Or.inl rfl) (av aU (pv 2) ah)))))) (ai (aC (pv 3))))),?_⟩
 show bz _ _ _ [some (.int n),some (.int a),some (.int e),none] H
 k_data
 refine⟨hn,?_⟩
 have r0:=fun x:Int=>Int.emod_nonneg x (show n≠0 by omega)
 have r1:=fun x:Int=>Int.emod_lt_of_pos x hn
 refine bh (α:=Nat × Int × Int) (fun x=>[some (.int n),some (.int x.2.2),some (.int (x.1:Int)),some (.int x.2.1)]) (fun x H1=>H1=H ∧ -(10^100)≤x.2.2∧x.2.2≤10^100∧0≤x.2.1∧x.2.1<n∧x.2.1*x.2.2^x.1%n=a^e.toNat%n) (fun x=>x.1) (e.toNat,1%n,a) (by rw [show ((e.toNat:Nat):Int)=e by omega]) ⟨rfl,a0,a1,r0 1,r1 1,?_⟩ ?_
 ·show 1%n*a^e.toNat%n=_
  rw [Pw.Ae,Int.one_mul]
 rintro⟨l,r,b⟩ H1 ⟨rfl,h1,h2,h3,h4,h5⟩
 replace h1:-(10^100)≤b:=h1
 replace h2:b≤10^100:=h2
 replace h3:0≤r:=h3
 replace h4:r<n:=h4
 replace h5:r*b^l%n=a^e.toNat%n:=h5
 k_data
 refine aR (fun c=>?_) (fun c=>?_)
 ·refine⟨_,fun _ _ z=>z,fun σ' H2=>H2=H1∧σ'=[some (.int n),some (.int b),some (.int (l:Int)),some (.int (if l%2=1 then r*b%n else r))],?_,?_⟩
  ·k_data
   refine aR (fun c=>?_) (fun c=>?_)
   ·exact⟨Bd.of (by omega) (by omega),Bd.of (by omega) (by omega),hn,by rw [if_pos (by omega)]⟩
   ·rw [if_neg (by omega)]
  rintro σ' H2 ⟨rfl,rfl⟩
  k_data
  have z0:0≤(if l%2=1 then r*b%n else r)∧(if l%2=1 then r*b%n else r)<n:=by
   split
   ·exact⟨r0 _,r1 _⟩
   ·exact⟨h3,h4⟩
  have b0:=r0 (b*b)
  have b1:=r1 (b*b)
  refine⟨Bd.of (by omega) (by omega),Bd.of (by omega) (by omega),hn,yn (by decide),(l/2,(if l%2=1 then r*b%n else r),b*b%n),rfl,(by show (l:Int)/2=((l/2:Nat):Int);omega),rfl,by show -(10^100)≤b*b%n;omega,by show b*b%n≤10^100;omega,z0.1,z0.2,?_,?_⟩
  ·show (if l%2=1 then r*b%n else r)*(b*b%n)^(l/2)%n=_
   rw [Pw.step]
   exact h5
  ·show l/2<l
   omega
 ·have l0:l=0:=by omega
  subst l0
  rw [Int.pow_zero,Int.mul_one,Int.emod_eq_of_lt h3 h4] at h5
  rw [h5]
  exact q
end
end K
namespace L2
open PySem PySem.Spec PyProof.Rows PySem.W
theorem A7 {K:PySem.W.Frag} {mg:Str→Option Value} {h:Heap} {x:Str} {C:Addr} (_:K.In h) (a:mg x=some (.ref C)) (p1:plainGet K C Str.empty=true) (p2:hasDictIn K C=true) (p3:plainOver K C=true) (p4:findIn K (.ref C) "__setattr__"=some (some (.builtin "object.__setattr__"))) (p5:makesIn K C=true) (p6:keepIn K (.ref C)=true):BR K mg x C:=A8 a p1 p2 p3 p4 p5 p6
end L2
namespace K
open PySem PySem.Spec PyProof.Rows L2
section
variable {P:Program} {w:World} {K:PySem.W.Frag} {mg:Str→Option Value} {base:Heap} {C:Addr}
end
end K
namespace K
open PySem PySem.Spec PyProof.Rows L2
theorem xw {ps:List (Int × Int)} {ds:Nat→PyData} {r:PyData} (h:r∈Num.rowsOf ps ds):∃ i q k,ps[i]?=some (q,k)∧r=.tuple [ds i,.int k]:=by
 unfold Num.rowsOf at h
 obtain⟨i,hi,e⟩:=List.mem_map.mp h
 have hi':=List.mem_range.mp hi
 have g:=List.getElem?_eq_getElem hi'
 refine⟨i,ps[i].1,ps[i].2,g,?_⟩
 rw [← e,List.getD_eq_getElem?_getD,g]
 rfl
theorem ph:∀{ds:List PyData},(∀ d∈ds,vd d=true)→fN ds=true
 | [],_=>rfl
 | d::ds,h=>by
  rw [fN,h d (List.mem_cons_self ..),ph fun e z=>h e (List.mem_cons_of_mem _ z)]
  rfl
theorem zo {n:Int} {d:PyData} (h:Num.iV n d):vd d=true:=by
 induction h with
 | mk n g ps ds h1 h2 h3 h4 h5 h6 ih =>
  simp only [vd,fN,Bool.and_true,Bool.true_and]
  refine ph fun r hr=>?_
  obtain⟨i,q,k,h,rfl⟩:=xw hr
  simp only [vd,fN,Bool.and_true]
  exact ih i q k h
section
variable {P:Program} {w:World} {K:PySem.W.Frag} {mg:Str→Option Value} {base:Heap} {C:Addr}
theorem Tp.Cc {p0:Addr} {n:Nat} {H H':Hp} {t:PyData} {v:V} (tp:Tp p0 n H) (of:DG p0 H H') (nl:vd t=true) (x:dv K H t v):dv K H' t v:=by
 refine dv.fy (fun a xs z=>?_) t nl x
 rcases z with z | ⟨o,z⟩
 ·exact .inl (of _ _ (tp.ne z (by intro _ z;cases z)) z)
 ·exact .inr ⟨o,of _ _ (tp.ne z (by intro _ z;cases z)) z⟩
end
end K
namespace K
open PySem PySem.Spec PyProof.Rows L2
section
variable {P:Program} {w:World} {K:PySem.W.Frag} {mg:Str→Option Value} {base:Heap}
mutual
def sT:Nat→PyData→Prop
 | 0,_=>False
 | _+1,.none=>True
 | _+1,.bool _=>True
 | _+1,.int _=>True
 | _+1,.str _=>True
 | L+1,.list ds=>ds.length≤10^6∧yq L ds
 | L+1,.tuple ds=>ds.length≤10^6∧yq L ds
 | _+1,_=>False
def yq:Nat→List PyData→Prop
 | _,[]=>True
 | L,d::ds=>sT L d∧yq L ds
end
theorem xD:∀{L:Nat} {ds:List PyData} {i:Nat} {d:PyData},yq L ds→ds[i]?=some d→sT L d
 | L,[],i,d,_,h=>by simp at h
 | L,e::ds,0,d,h,z=>by
  simp only [yq] at h
  cases z
  exact h.1
 | L,e::ds,i+1,d,h,z=>by
  simp only [yq] at h
  exact xD h.2 (by simpa using z)
theorem nZ {k:Sd} {H H':Hp} {a:Addr} {xs:List V} (h:nV k K H a xs) (s:aF H H'):nV k K H' a xs:=by
 cases k
 ·exact aZ.same h s
 ·exact bD.same h s
def fu (K:PySem.W.Frag) (L:Nat):Sp:=fun vs H Q _=>∃(u v:V) (d:PyData),vs=[u,v]∧dv K H d u∧dv K H d v∧sT L d∧∀ H',aF H H'→Q (.bl true) H'
theorem fk:aA [("_law_found":Str),("_law_due":Str)] [("_law_found":Str),("_law_due":Str)] (ak (top 71)):=⟨rfl,rfl,rfl,by decide +kernel,rfl,by decide +kernel,by decide +kernel⟩
theorem uz (D:ax K mg "_law_same" (top 71)):Callee P w K mg base aO 1 "_law_same" [("_law_found":Str),("_law_due":Str)] (fu K 0):=by
 refine aB D (fun _ _ _ _ _ _ us hl=>by obtain⟨_,_,rfl⟩:=cL hl;exact rfl) fk (fun vs H Q E h=>by obtain⟨_,_,_,rfl,_⟩:=h;rfl) (fun f cdv A outer s H vs Q E hr h=>?_)
 obtain⟨u,v,d,rfl,hu,hv,hs,q⟩:=h
 simp only [sT] at hs
theorem uA {L:Nat} (D:ax K mg "_law_same" (top 71)) (c__law_same:Callee P w K mg base aO (L+1) "_law_same" ["_law_found","_law_due"] (fu K L)) (n_isinstance:mg "isinstance"=none) (n_bool:mg "bool"=none) (n_list:mg "list"=none) (n_tuple:mg "tuple"=none) (n_len:mg "len"=none) (n_zip:mg "zip"=none) (n_all:mg "all"=none):Callee P w K mg base aO (L+2) "_law_same" [("_law_found":Str),("_law_due":Str)] (fu K (L+1)):=by
 refine aB D (fun _ _ _ _ _ _ us hl=>by obtain⟨_,_,rfl⟩:=cL hl;exact rfl) fk (fun vs H Q E h=>by obtain⟨_,_,_,rfl,_⟩:=h;rfl) (fun f cdv A outer s H vs Q E hr h=>?_)
 obtain⟨u,v,d,rfl,hu,hv,hs,q⟩:=h
 have nd:=fk.nd
 refine⟨_,(ae (aP (PW.pt (dX (bN (aH bw rfl n_isinstance PyProof.Rows.boot_isinstance (aa (pv 1) (aa (cn (v:=.ty "tuple") rfl n_tuple L2.boot_tuple rfl) af))) (fun _=>rfl)) (gZ (bN (aH bw rfl n_isinstance PyProof.Rows.boot_isinstance (aa (pv 1) (aa (cn (v:=.ty "list") rfl n_list L2.boot_list rfl) af))) (fun _=>rfl))))) (ae (aP (PW.pt (dX (aw dS (aH bw rfl n_isinstance PyProof.Rows.boot_isinstance (aa (pv 0) (aa (cn (v:=.ty "tuple") rfl n_tuple L2.boot_tuple rfl) af))) (aH bw rfl n_isinstance PyProof.Rows.boot_isinstance (aa (pv 1) (aa (cn (v:=.ty "tuple") rfl n_tuple L2.boot_tuple rfl) af))) (az _)) (gZ (aw dS (aH bw rfl n_isinstance PyProof.Rows.boot_isinstance (aa (pv 0) (aa (cn (v:=.ty "list") rfl n_list L2.boot_list rfl) af))) (aH bw rfl n_isinstance PyProof.Rows.boot_isinstance (aa (pv 1) (aa (cn (v:=.ty "list") rfl n_list L2.boot_list rfl) af))) (az _))))) (ai (aC jo)) aI) (ai (aC (ni (dh bO (aH bC rfl n_len PySem.boot_len (aa (pv 0) af)) (aH bC rfl n_len PySem.boot_len (aa (pv 1) af)) (az _)) (nj (aH (ou rfl) rfl n_all L2.boot_all (aa (fO rfl (cJ (N':=["_law_one","_law_other"]) (js:=[none,none]) rfl rfl (by decide +kernel) (by decide +kernel) (by repeat (first | exact True.intro | refine⟨rfl,?_⟩)) (by repeat (first | exact True.intro | refine⟨rfl,?_⟩ | refine⟨True.intro,?_⟩)) (by repeat (first | exact True.intro | refine⟨⟨rfl,rfl,.inl rfl,.inl rfl⟩,?_⟩))) (zu rfl n_zip (aa (pv 0) (aa (pv 1) af))) (fun _ _ _ _=>(dU K rfl (n:=2) rfl (aD (ay (i:=0) (show List.Nodup [("_law_one":Str),("_law_other":Str)] from by decide +kernel) rfl (Or.inl rfl) (.inr rfl)) (aD (ay (i:=1) (show List.Nodup [("_law_one":Str),("_law_other":Str)] from by decide +kernel) rfl (Or.inl rfl) (.inr rfl)) aW)))) (fun _ _ _ _=>bQ) (fun _ _ _ _=>(aj c__law_same (hr.mono (by omega)) rfl aG (aa (pv 0) (aa (pv 1) af))))) af))))))) aI) (ai (aC (ni (dh bO (aH bw rfl n_isinstance PyProof.Rows.boot_isinstance (aa (pv 0) (aa (cn (v:=.ty "bool") rfl n_bool L2.boot_bool rfl) af))) (aH bw rfl n_isinstance PyProof.Rows.boot_isinstance (aa (pv 1) (aa (cn (v:=.ty "bool") rfl n_bool L2.boot_bool rfl) af))) (az _)) (nj (dh bO (pv 0) (pv 1) (az _))))))),?_⟩
 show bz _ _ _ [some u,some v] H
 have sq:∀(k:Sd) (a b:Addr) (us vs:List V) (ds:List PyData) (H2:Hp),nV k K H2 a us→nV k K H2 b vs→aQ K H2 ds us→aQ K H2 ds vs→yq L ds→ds.length≤10^6→(∀ H',aF H2 H'→Q (.bl true) H') →
   nW (B3 k k K a b) [none,none] (oU K 2 (ip (cQ 0) (ip (cQ 1) ub))) tK (mG (fu K L) [] E0 (qr (uZ 0) (qr (uZ 1) uY))) [some (.ref a),some (.ref b)] (fun x H1=>Bp K [x] H1 Q) H2:=by
  intro k a b us vs ds H2 ha hb du dw hs hl q
  have ul:=du.length
  have vl:=dw.length
  refine lP (xs:=us) (ys:=vs) (fun i zs H3=>aF H2 H3∧zs=(List.replicate i true).map V.bl) ⟨aF.refl _,rfl⟩ (by omega) (Nat.le_trans (by omega) (show 10^6≤sizeLine by decide)) (fun i zs H3 hi ⟨z1,z2⟩=>⟨nZ ha z1,nZ hb z1,by rw [z2,List.length_map,List.length_replicate];exact Nat.le_refl _⟩) ?_ ?_
  ·rintro i x y zs H3 p3 hx hy ⟨s3,rfl⟩ hp3
   obtain⟨d1,e1,v1⟩:=du.get hx
   obtain⟨d2,e2,v2⟩:=dw.get hy
   rw [e1] at e2
   cases e2
   have s4:=ao (o:=.tup [x,y]) hp3
   show oU K 2 _ _ [none,none] _ _
   refine⟨p3,_,rfl,bD.of ag,rfl,?_⟩
   generalize upd H3 p3 _=H4 at *
   k_data
   refine⟨True.intro,x,y,d1,rfl,dv.same (s3.trans s4) _ v1,dv.same (s3.trans s4) _ v2,xD hs e1,fun H5 s5=>⟨(s3.trans s4).trans s5,?_⟩⟩
   rw [List.replicate_succ',List.map_append]
   rfl
  ·rintro zs H3 p3 ⟨s3,rfl⟩ hp3
   refine vm (bs:=List.replicate us.length true) (aZ.of ag) ?_
   have:(List.replicate us.length true).all id=true:=by
    rw [List.all_eq_true]
    intro b hb
    exact (List.mem_replicate.mp hb).2
   rw [this]
   exact q _ (s3.trans (ao hp3))
 k_data
 cases d with
 | none =>
  cases hu
  cases hv
  refine cE (d:=.none) rfl ⟨false,bK.mpr rfl,?_⟩
  rw [if_neg (by decide)]
  refine cX (d:=.none) rfl ⟨false,bK.mpr rfl,?_⟩
  rw [if_neg (by decide)]
  refine cK (d:=.none) rfl (cK (d:=.none) rfl ⟨rfl,?_⟩)
  rw [if_pos rfl]
  exact⟨rfl,by rw [decide_eq_true rfl];exact q _ (aF.refl _)⟩
 | bool y =>
  cases hu
  cases hv
  refine cE (d:=.bool y) rfl ⟨false,bK.mpr rfl,?_⟩
  rw [if_neg (by decide)]
  refine cX (d:=.bool y) rfl ⟨false,bK.mpr rfl,?_⟩
  rw [if_neg (by decide)]
  refine cK (d:=.bool y) rfl (cK (d:=.bool y) rfl ⟨rfl,?_⟩)
  rw [if_pos rfl]
  exact⟨rfl,by rw [decide_eq_true rfl];exact q _ (aF.refl _)⟩
 | int y =>
  cases hu
  cases hv
  refine cE (d:=.int y) rfl ⟨false,bK.mpr rfl,?_⟩
  rw [if_neg (by decide)]
  refine cX (d:=.int y) rfl ⟨false,bK.mpr rfl,?_⟩
  rw [if_neg (by decide)]
  refine cK (d:=.int y) rfl (cK (d:=.int y) rfl ⟨rfl,?_⟩)
  rw [if_pos rfl]
  exact⟨rfl,by rw [decide_eq_true rfl];exact q _ (aF.refl _)⟩
 | str y =>
  cases hu
  cases hv
  refine cE (d:=.str y) rfl ⟨false,bK.mpr rfl,?_⟩
  rw [if_neg (by decide)]
  refine cX (d:=.str y) rfl ⟨false,bK.mpr rfl,?_⟩
  rw [if_neg (by decide)]
  refine cK (d:=.str y) rfl (cK (d:=.str y) rfl ⟨rfl,?_⟩)
  rw [if_pos rfl]
  exact⟨rfl,by rw [decide_eq_true rfl];exact q _ (aF.refl _)⟩
 | list ds =>
  simp only [sT] at hs
  refine cE hv ⟨false,bK.mpr rfl,?_⟩
  rw [if_neg (by decide)]
  refine cX hv ⟨true,bK.mpr rfl,?_⟩
  rw [if_pos rfl]
  refine cE hu (cE hv ⟨rfl,?_⟩)
  rw [if_neg (by intro z;exact z rfl)]
  refine cX hu (cX hv ⟨rfl,?_⟩)
  rw [if_neg (by intro z;exact z rfl)]
  obtain⟨pa,us,rfl,hSu,du⟩:=hu
  obtain⟨pb,vs,rfl,hSv,dw⟩:=hv
  have ul:=du.length
  have vl:=dw.length
  refine df hSu (df hSv ⟨rfl,?_⟩)
  rw [if_pos (by rw [ul,vl])]
  exact⟨pa,rfl,pb,rfl,.l,⟨_,hSu⟩,.l,⟨_,hSv⟩,sq .l pa pb us vs ds H hSu hSv du dw hs.2 hs.1 fun H' s'=>q H' s'⟩
 | tuple ds =>
  simp only [sT] at hs
  refine cE hv ⟨true,bK.mpr rfl,?_⟩
  rw [if_pos rfl]
  refine cE hu (cE hv ⟨rfl,?_⟩)
  rw [if_neg (by intro z;exact z rfl)]
  refine cX hu (cX hv ⟨rfl,?_⟩)
  rw [if_neg (by intro z;exact z rfl)]
  obtain⟨pa,us,rfl,hSu,du⟩:=hu
  obtain⟨pb,vs,rfl,hSv,dw⟩:=hv
  have ul:=du.length
  have vl:=dw.length
  refine ix hSu (ix hSv ⟨rfl,?_⟩)
  rw [if_pos (by rw [ul,vl])]
  exact⟨pa,rfl,pb,rfl,.t,⟨_,hSu⟩,.t,⟨_,hSv⟩,sq .t pa pb us vs ds H hSu hSv du dw hs.2 hs.1 fun H' s'=>q H' s'⟩
 | _=>simp only [sT] at hs
theorem pK (D:ax K mg "_law_same" (top 71)) (n_isinstance:mg "isinstance"=none) (n_bool:mg "bool"=none) (n_list:mg "list"=none) (n_tuple:mg "tuple"=none) (n_len:mg "len"=none) (n_zip:mg "zip"=none) (n_all:mg "all"=none):∀ L:Nat,Callee P w K mg base aO (L+1) "_law_same" ["_law_found","_law_due"] (fu K L)
 | 0=>uz D
 | L+1=>uA D (pK D n_isinstance n_bool n_list n_tuple n_len n_zip n_all L) n_isinstance n_bool n_list n_tuple n_len n_zip n_all
end
end K
namespace K
open PySem PySem.Spec PyProof.Rows L2
section
variable {P:Program} {w:World} {K:PySem.W.Frag} {mg:Str→Option Value} {base:Heap}
structure j5 (n d:Int):Prop where
 two:2≤d
 no:∀ e:Int,2≤e→e<d→¬e∣n
theorem j5.step {n d:Int} (h:j5 n d) (hk:¬d∣n):j5 n (d+1):=⟨by have:=h.two;omega,fun e e2 ed=>by
 rcases (by omega:e<d∨e=d) with z | z
 ·exact h.no e e2 z
 ·rw [z];exact hk⟩
theorem j5.top {n d:Int} (h:j5 n d) (hn:1<n) (hd:n<d*d):j5 n n:=⟨by omega,fun e e2 ed=>by
 rintro⟨c,hc⟩
 have h2:=h.two
 have c1:1<c:=by
  rcases (by omega:c≤1∨1<c) with z | z
  ·have:=Int.mul_le_mul_of_nonneg_left z (show 0≤e by omega)
   omega
  ·exact z
 have ed':d≤e:=by
  rcases (by omega:d≤e∨e<d) with z | z
  ·exact z
  ·exact absurd ⟨c,hc⟩ (h.no e e2 z)
 have cd':d≤c:=by
  rcases (by omega:d≤c∨c<d) with z | z
  ·exact z
  ·exact absurd ⟨e,by rw [hc,Int.mul_comm]⟩ (h.no c (by omega) z)
 have:=Int.mul_le_mul ed' cd' (by omega) (by omega)
 omega⟩
def la:Sp:=fun vs H Q _=>∃ n:Int,vs=[.int n]∧1≤n∧n≤10^9∧∀ ps p H',Num.Part n ps→ps.length≤29→aF H H'→H p=none→H' p=some (.lst ((ps.map (·.1)).map V.int))→Q (.ref p) H'
theorem eh:aA [("_law_n":Str),("_law_found":Str),("_law_d":Str)] [("_law_n":Str)] (ak (top 72)):=⟨rfl,rfl,rfl,by decide +kernel,rfl,by decide +kernel,by decide +kernel⟩
theorem pJ (D:ax K mg "_law_primes_of" (top 72)):Callee P w K mg base aO 1 "_law_primes_of" [("_law_n":Str)] la:=by
 refine aB D (fun _ _ _ _ _ _ us hl=>by obtain⟨_,rfl⟩:=cI hl;exact rfl) eh (fun vs H Q E h=>by obtain⟨_,rfl,_⟩:=h;rfl) (fun f cdv A outer s H vs Q E hr h=>?_)
 obtain⟨n,rfl,n1,n9,q⟩:=h
 have nd:=eh.nd
 refine⟨_,(ae (aq (i:=1) nd rfl (Or.inl rfl) (dG af)) (ae (aq (i:=2) nd rfl (Or.inl rfl) ah) (ae (bf PassesOwn.never (aw cw (pv 0) ah (az _)) (ae (c8 (aP (aw cw (av aL (pv 2) (pv 2)) (pv 0) (az _)) (ai (aq (i:=2) nd rfl (Or.inl rfl) (pv 0))) aI)) (ae (c8 (aP (aw bO (av aK (pv 0) (pv 2)) ah (az _)) (ai (dW (sG PySem.F.plainAttrs_list PySem.F.slot_list_append PySem.F.type_list_append gj (pv 1) (aa (pv 2) af)))) aI)) (ae (bf PassesOwn.never (aw bO (av aK (pv 0) (pv 2)) ah (az _)) (ai (aq (i:=0) nd rfl (Or.inl rfl) (av aU (pv 0) (pv 2))))) (ai (aq (i:=2) nd rfl (Or.inl rfl) (av bI (pv 2) ah))))))) (ai (aC (pv 1)))))),?_⟩
 show bz _ _ _ [some (.int n),none,none] H
 k_data
 refine⟨by decide,fun pp hpp=>?_⟩
 refine bh (α:=Int × Int) (fun x=>[some (.int x.1),some (.ref pp),some (.int x.2)]) (fun x H1=>aF H H1∧∃(ps:List (Int × Int)) (pr:Int),H1 pp=some (.lst ((ps.map (·.1)).map V.int))∧Num.Way n ps x.1 pr∧j5 x.1 x.2∧x.2≤10^9+10) (fun x=>(10^9+20-x.2).toNat+x.1.toNat*10^10) (n,2) rfl ⟨ao hpp,[],2,ag,.start (by omega),⟨by show (2:Int)≤2;decide,fun d d0 (d1:d<2)=>by omega⟩,by show (2:Int)≤10^9+10;decide⟩ ?_
 rintro⟨left,d⟩ H1 ⟨hs,ps,pr,epp,W,Ie,d9⟩
 replace W:Num.Way n ps left pr:=W
 replace Ie:j5 left d:=Ie
 replace d9:d≤10^9+10:=d9
 have l1:=W.pos
 have d2:=Ie.two
 have ln:left≤n:=by
  have z:=W.two
  have p0:=Num.bG (show (0:Int)<2 by decide) ps.length
  have:=Int.mul_le_mul_of_nonneg_right (show (1:Int)≤2^ps.length by omega) (show 0≤left by omega)
  omega
 have len:=W.len n9
 k_data
 refine aR (fun c3=>?_) (fun c3=>?_)
 ·refine⟨_,fun _ _ z=>z,fun σ' H'=>∃ e:Int,σ'=[some (.int left),some (.ref pp),some (.int e)]∧H'=H1∧j5 left e∧e≤left∧(e=d∨e∣left),?_,?_⟩
  ·k_data
   refine⟨Bd.of (by omega) (by omega),Bd.of (by omega) (by omega),aR (fun c=>?_) (fun c=>?_)⟩
   ·exact⟨Ie.top (by omega) (by omega),Int.le_refl _,.inr (Int.dvd_refl _)⟩
   ·have:=Int.mul_le_mul_of_nonneg_right (show 1≤d by omega) (show 0≤d by omega)
    exact⟨Ie,by omega,.inl True.intro⟩
  rintro σ' H' ⟨e,rfl,rfl,Je,el,ed⟩
  have e2:=Je.two
  k_data
  refine⟨fun σ' H2=>σ'=[some (.int left),some (.ref pp),some (.int e)]∧aF H H2∧H2 pp=some (.lst (((ps.map (·.1))++if left%e=0 then [e] else []).map V.int)),?_,?_⟩
  ·k_data
   refine⟨by omega,aR (fun c=>?_) (fun c=>?_)⟩
   ·refine⟨.inl ⟨rfl,_,aZ.of epp⟩,pp,_,_,rfl,rfl,epp,by rw [List.length_map,List.length_map];exact Nat.lt_of_le_of_lt (show ps.length≤29 by omega) (by decide),hs.upd hpp,?_⟩
    rw [ag,if_pos c,List.map_append (f:=V.int)]
    rfl
   ·rw [if_neg c,List.append_nil]
    exact⟨hs,epp⟩
  rintro σ' H2 ⟨rfl,s2,ep2⟩
  k_data
  refine bh (α:=Int × Nat) (fun x=>[some (.int x.1),some (.ref pp),some (.int e)]) (fun x H3=>H3=H2∧left=e^x.2*x.1∧1≤x.1∧x.1≤left) (fun x=>x.1.toNat) (left,0) rfl ⟨rfl,by rw [Int.pow_zero,Int.one_mul],by omega,Int.le_refl _⟩ ?_
  rintro⟨lf,k⟩ H3 ⟨rfl,f1,f2,f3⟩
  replace f1:left=e^k*lf:=f1
  replace f2:1≤lf:=f2
  replace f3:lf≤left:=f3
  k_data
  refine⟨by omega,?_⟩
  refine aR (fun c4=>?_) (fun c4=>?_)
  ·obtain⟨y,hy⟩:=Int.dvd_of_emod_eq_zero c4
   have ey:lf/e=y:=by rw [hy];exact Int.mul_ediv_cancel_left _ (by omega)
   have y1:1≤y:=by
    rcases (by omega:y≤0∨1≤y) with z | z
    ·have:=Int.mul_nonpos_of_nonneg_of_nonpos (show 0≤e by omega) z
     omega
    ·exact z
   have yl:y<lf:=by
    rw [hy]
    have:=Int.mul_le_mul_of_nonneg_right e2 (show 0≤y by omega)
    omega
   refine⟨_,fun _ _ z=>z,by omega,Bd.of (by omega) (by omega),(y,k+1),?_,rfl,?_,y1,by show y≤left;omega,by show y.toNat<lf.toNat;omega⟩
   ·rw [ey]
   ·show left=e^(k+1)*y
    rw [f1,hy,Int.pow_succ,Int.mul_assoc]
  ·have ng:¬e∣lf:=fun z=>c4 (Int.emod_eq_zero_of_dvd z)
   have Jl:j5 lf (e+1):=j5.step ⟨e2,fun d d2 de z=>Je.no d d2 de (by rw [f1];exact Int.dvd_mul_of_dvd_right z)⟩ ng
   rcases Nat.eq_zero_or_pos k with z | k1
   ·subst z
    rw [Int.pow_zero,Int.one_mul] at f1
    subst f1
    have:e=d:=ed.elim id fun z=>absurd z ng
    subst this
    rw [if_neg c4,List.append_nil] at ep2
    refine⟨(left,e+1),rfl,rfl,s2,⟨ps,ep2,pr,W,Jl,by show e+1≤10^9+10;omega⟩,?_⟩
    show (10^9+20-(e+1)).toNat+left.toNat*10^10<(10^9+20-e).toNat+left.toNat*10^10
    omega
   ·have el':e∣left:=by
     obtain⟨k',rfl⟩:∃ k',k=k'+1:=⟨k-1,by omega⟩
     rw [f1,Int.pow_succ]
     exact Int.dvd_mul_of_dvd_left ⟨e^k',Int.mul_comm _ _⟩
    have hL:Ld.h8 left e:=⟨e2,el',Je.no⟩
    have W2:=W.step n9 c3 hL f1 f2 k1 ng
    have lt:lf<left:=by
     obtain⟨k',rfl⟩:∃ k',k=k'+1:=⟨k-1,by omega⟩
     have p0:=Num.bG (show 0<e by omega) k'
     have h1:e≤e^(k'+1):=by
      rw [Int.pow_succ]
      have:=Int.mul_le_mul_of_nonneg_right (show 1≤e^k' by omega) (show 0≤e by omega)
      omega
     have:=Int.mul_le_mul_of_nonneg_right (show 2≤e^(k'+1) by omega) (show 0≤lf by omega)
     omega
    rw [if_pos (Int.emod_eq_zero_of_dvd el')] at ep2
    refine⟨(lf,e+1),rfl,rfl,s2,⟨ps++[(e,(k:Int))],by rw [List.map_append];exact ep2,e,W2,Jl,by show e+1≤10^9+10;omega⟩,?_⟩
    show (10^9+20-(e+1)).toNat+lf.toNat*10^10<(10^9+20-d).toNat+left.toNat*10^10
    omega
 ·have z:left=1:=by omega
  subst z
  exact q ps pp H1 W.done (W.len n9) hs hpp epp
end
end K
namespace K
open PySem PySem.Spec PyProof.Rows L2
section
variable {P:Program} {w:World} {K:PySem.W.Frag} {mg:Str→Option Value} {base:Heap} {C:Addr}
theorem wY:Num.Pm 999999937:=wX (n:=999999937) (by decide +kernel) (by decide) (by decide) (by decide)
def kX:Sp:=fun vs H Q _=>∃(p:Addr) (n:Nat),vs=[.ref p]∧Tp p n H∧n≤10^40∧∀ r H',Num.Pm r→r≤10^9→Off p H H'→Tp p (n+3) H'→Q (.int r) H'
theorem d5:aA [("_law_tape_here":Str),("_law_way":Str)] [("_law_tape_here":Str)] (ak (top 66)):=⟨rfl,rfl,rfl,by decide +kernel,rfl,by decide +kernel,by decide +kernel⟩
theorem pF (D:ax K mg "_law_any_prime" (top 66)) (c__law_draw:Callee P w K mg base aO 1 "_law_draw" ["_law_tape_here","_law_many"] kZ) (c__law_far:Callee P w K mg base aO 2 "_law_far" ["_law_tape_here","_law_many"] rC) (c__law_prime:Callee P w K mg base aO 2 "_law_prime" ["_law_n"] qd):Callee P w K mg base aO 3 "_law_any_prime" [("_law_tape_here":Str)] kX:=by
 refine aB D (fun _ _ _ _ _ _ us hl=>by obtain⟨_,rfl⟩:=cI hl;exact rfl) d5 (fun vs H Q E h=>by obtain⟨_,_,rfl,_⟩:=h;rfl) (fun f cdv A outer s H vs Q E hr h=>?_)
 obtain⟨p,n,rfl,tp,n9,q⟩:=h
 have nd:=d5.nd
 refine⟨_,(ae (aq (i:=1) nd rfl (Or.inl rfl) (aj c__law_draw (hr.mono (by decide)) rfl aG (aa (pv 0) (aa ah af)))) (ae (aP (aw dR (pv 1) ah (az _)) (ai (aC (aj c__law_prime (hr.mono (by decide)) rfl aG (aa (av bI ah (aj c__law_draw (hr.mono (by decide)) rfl aG (aa (pv 0) (aa ah af)))) af)))) aI) (ae (aP (aw dR (pv 1) ah (az _)) (ai (aC (aj c__law_prime (hr.mono (by decide)) rfl aG (aa (av bI ah (aj c__law_draw (hr.mono (by decide)) rfl aG (aa (pv 0) (aa ah af)))) af)))) aI) (ai (aC (aj c__law_prime (hr.mono (by decide)) rfl aG (aa (av bI ah (aj c__law_far (hr.mono (by decide)) rfl aG (aa (pv 0) (aa ah af)))) af))))))),?_⟩
 show bz _ _ _ [some (.ref p),none] H
 k_data
 refine⟨p,16,n,rfl,tp,by omega,by decide,by decide,fun w0 H1 w00 w01 o1 t1=>⟨_,rfl,aR (fun c=>?_) (fun c=>⟨_,rfl,aR (fun c1=>?_) (fun c1=>?_)⟩)⟩⟩
 ·refine⟨p,998,n+1,rfl,t1,by omega,by decide,by decide,fun r H2 r0 r1 o2 t2=>⟨_,rfl,2+r,100003,rfl,by omega,by omega,mh,by decide,fun x px xn x9 _=>?_⟩⟩
  exact q x H2 px (by omega) (o1.trans o2) (t2.more (by omega))
 ·refine⟨p,99000,n+1,rfl,t1,by omega,by decide,by decide,fun r H2 r0 r1 o2 t2=>⟨_,rfl,1000+r,100003,rfl,by omega,by omega,mh,by decide,fun x px xn x9 _=>?_⟩⟩
  exact q x H2 px (by omega) (o1.trans o2) (t2.more (by omega))
 ·refine⟨p,999999936,n+1,rfl,t1,by omega,by decide,fun r H2 r0 r1 o2 t2=>⟨_,rfl,2+r,999999937,rfl,by omega,by omega,wY,by decide,fun x px xn x9 _=>?_⟩⟩
  exact q x H2 px (Int.le_trans x9 (by decide)) (o1.trans o2) t2
end
end K
namespace K
open PySem PySem.Spec PyProof.Rows L2
section
variable {P:Program} {w:World} {K:PySem.W.Frag} {mg:Str→Option Value} {base:Heap}
def lg (K:PySem.W.Frag):Sp:=fun vs H Q _=>∃(i:Int),vs=[.int i]∧Q (.bl true) H
theorem gK:aA [("_law_thing":Str)] [("_law_thing":Str)] (ak (top 69)):=⟨rfl,rfl,rfl,by decide +kernel,rfl,by decide +kernel,by decide +kernel⟩
theorem uG (D:ax K mg "_law_whole" (top 69)) (n_isinstance:mg "isinstance"=none) (n_int:mg "int"=none) (n_bool:mg "bool"=none):Callee P w K mg base aO 1 "_law_whole" [("_law_thing":Str)] (lg K):=by
 refine aB D (fun _ _ _ _ _ _ us hl=>by obtain⟨_,rfl⟩:=cI hl;exact rfl) gK (fun vs H Q E h=>by obtain⟨_,rfl,_⟩:=h;rfl) (fun f cdv A outer s H vs Q E hr h=>?_)
 obtain⟨i,rfl,q⟩:=h
 have nd:=gK.nd
 refine⟨_,(ai (aC (ni (aH bw rfl n_isinstance PyProof.Rows.boot_isinstance (aa (pv 0) (aa (cn (v:=.ty "int") rfl n_int L2.boot_int rfl) af))) (nj (wV (aH bw rfl n_isinstance PyProof.Rows.boot_isinstance (aa (pv 0) (aa (cn (v:=.ty "bool") rfl n_bool L2.boot_bool rfl) af)))))))),?_⟩
 show h7 _ _ [some (.int i)] H
 k_data
 refine yN (d:=.int i) rfl ⟨true,rfl,?_⟩
 rw [if_pos rfl]
 exact cK (d:=.int i) rfl ⟨false,rfl,q⟩
end
end K
namespace K
open PySem PySem.Spec PyProof.Rows L2
section
variable {P:Program} {w:World} {K:PySem.W.Frag} {mg:Str→Option Value} {base:Heap}
def mD (K:PySem.W.Frag) (C:Addr):Sp:=fun vs H Q E=>∃(v:V) (p d g:Int) (rows:PyData),vs=[v,.int d]∧dv K H (.tuple [.int p,.int g,rows]) v∧Num.iV p (.tuple [.int p,.int g,rows]) ∧ -(10^60)≤d∧d≤10^60∧((d<1∨(p-1)%d≠0)→BQ C H E) ∧
 (1≤d→(p-1)%d=0→∀ H',aF H H'→Q (.int (g^((p-1)/d).toNat%p)) H')
theorem ju:aA [("paper":Str),("d":Str),("p":Str),("full":Str),("parts":Str)] [("paper":Str),("d":Str)] (ak (top 32)):=⟨rfl,rfl,rfl,by decide +kernel,rfl,by decide +kernel,by decide +kernel⟩
theorem rg {C C':Addr} (D:ax K mg "of_order" (top 32)) (c_power:Callee P w K mg base (c6 P w) 4 "power" ["n","a","e"] (cF C')) (x_NoOrder:qD K mg "NoOrder" C):Callee P w K mg base (c6 P w) 5 "of_order" [("paper":Str),("d":Str)] (mD K C):=by
 refine bH D (fun _ _ _ _ _ _ us hl=>by obtain⟨_,_,rfl⟩:=cL hl;exact rfl) ju (fun vs H Q E h=>by obtain⟨_,_,_,_,_,rfl,_⟩:=h;rfl) (fun f cdv A outer s H vs Q E hr h=>?_)
 obtain⟨v,p,d,g,rows,rfl,hd,hp,d0,d1,q1,q2⟩:=h
 obtain⟨pm,p9⟩:=iz hp
 have p2:=pm.two
 have nd:=ju.nd
 refine⟨_,(ae (dH (pv 0) (cu (n:=3) rfl (aD (ay (i:=2) nd rfl (Or.inl rfl) (.inr rfl)) (aD (ay (i:=3) nd rfl (Or.inl rfl) (.inr rfl)) (aD (ay (i:=4) nd rfl (Or.inl rfl) (.inr rfl)) aW))))) (ae (aP (PW.pt (dX (aw dR (pv 1) ah (az _)) (gZ (aw dS (av aK (av bY (pv 2) ah) (pv 1)) ah (az _))))) (ai (bZ (kK x_NoOrder rfl))) aI) (gF.l9 (ai (aC (aj c_power (hr.mono (by decide)) rfl aJ (aa (pv 2) (aa (pv 3) (aa (av aU (av bY (pv 2) ah) (pv 1)) af))))))))),?_⟩
 show bz _ _ _ [some v,some (.int d),none,none,none] H
 obtain⟨pp,y1,y2,vr,rfl,tS,e0,eg,dr⟩:=qK hd
 cases e0
 cases eg
 k_data
 refine⟨pp,_,rfl,tS,rfl,?_⟩
 k_data
 refine aR (fun c=>?_) (fun c=>⟨by omega,aR (fun c2=>?_) (fun c2=>?_)⟩)
 ·exact fun x hx=>dy x_NoOrder.cls (aF.refl _) hx (q1 (.inl c))
 ·exact fun x hx=>dy x_NoOrder.cls (aF.refl _) hx (q1 (.inr c2))
 ·exact⟨by omega,Bd.of (by omega) (by omega),p,g,(p-1)/d,rfl,by omega,by omega,fun _ H1 s1=>q2 (by omega) (by simpa using c2) H1 s1,fun z=>absurd z (by have:=Int.ediv_nonneg (show 0≤p-1 by omega) (show 0≤d by omega);omega)⟩
end
end K
namespace K
open PySem PySem.Spec PyProof.Rows L2
section
variable {P:Program} {w:World} {K:PySem.W.Frag} {mg:Str→Option Value} {base:Heap}
def Dg (p k d:Int):Prop:=∃ u v,Gcd.Av k (p-1) d u v
theorem Dg.pos {p k d:Int} (h:Dg p k d) (k0:0<k):0<d:=by
 obtain⟨u,v,B⟩:=h
 rcases Int.lt_or_eq_of_le B.g0 with z | z
 ·exact z
 ·have:=B.da;rw [← z] at this;have:=Int.zero_dvd.mp this;omega
theorem Dg.one {p k d d':Int} (h:Dg p k d) (h':Dg p k d'):d=d':=by
 obtain⟨u,v,B⟩:=h
 obtain⟨u',v',B'⟩:=h'
 have l1:d∣d':=by rw [← B'.lin];exact Int.dvd_add (Int.dvd_mul_of_dvd_right B.da) (Int.dvd_mul_of_dvd_right B.db)
 have l2:d'∣d:=by rw [← B.lin];exact Int.dvd_add (Int.dvd_mul_of_dvd_right B'.da) (Int.dvd_mul_of_dvd_right B'.db)
 exact Int.dvd_antisymm B.g0 B'.g0 l1 l2
def tq:Sp:=fun vs H Q _=>∃(p k a:Int),vs=[.int p,.int k,.int a]∧0<p∧p≤10^100∧0<k∧k≤10^100∧(p∣a→Q (.int 1) H)∧(¬p∣a→∀ d H',Dg p k d→aF H H'→Q (.int d) H')
theorem eA:aA [("p":Str),("k":Str),("a":Str)] [("p":Str),("k":Str),("a":Str)] (ak (top 34)):=⟨rfl,rfl,rfl,by decide +kernel,rfl,by decide +kernel,by decide +kernel⟩
theorem Bc (D:ax K mg "how_many_roots" (top 34)) (c_divisor:Callee P w K mg base aO 1 "divisor" ["a","b"] dA):Callee P w K mg base aO 2 "how_many_roots" [("p":Str),("k":Str),("a":Str)] tq:=by
 refine aB D (fun _ _ _ _ _ _ us hl=>by obtain⟨_,_,_,rfl⟩:=dQ hl;exact rfl) eA (fun vs H Q E h=>by obtain⟨_,_,_,rfl,_⟩:=h;rfl) (fun f cdv A outer s H vs Q E hr h=>?_)
 obtain⟨p,k,a,rfl,p0,p1,k0,k1,q1,q2⟩:=h
 have nd:=eA.nd
 refine⟨_,(ai (aC (eQ (aw bO (av aK (pv 2) (pv 0)) ah (az _)) ah (aV bB (aj c_divisor (hr.mono (by decide)) rfl aG (aa (pv 1) (aa (av bY (pv 0) ah) af))) ah (fun _ _=>rfl))))),?_⟩
 show h7 _ _ [some (.int p),some (.int k),some (.int a)] H
 k_data
 refine⟨p0,aR (fun c=>q1 (Int.dvd_of_emod_eq_zero c)) (fun c=>⟨k,p-1,rfl,⟨by omega,by omega⟩,⟨by omega,by omega⟩,fun g u v t H' B s' e=>cf (bD.of e) lu (q2 (fun z=>c (Int.emod_eq_zero_of_dvd z)) g H' ⟨u,v,B⟩ s')⟩)⟩
def su (e r:Int):PyData:=.tuple [.str "none",.int e,.int r]
def xJ (K:PySem.W.Frag):Sp:=fun vs H Q _=>∃(p k a:Int),vs=[.int p,.int k,.int a]∧Num.Pm p∧p≤10^100∧0<k∧k≤10^100∧(p∣a→Q .non H) ∧
 (¬p∣a→∀ d,Dg p k d→(Num.Al p (a^((p-1)/d).toNat) 1→∀ H',aF H H'→Q .non H')∧(¬Num.Al p (a^((p-1)/d).toNat) 1→∀ u H',aF H H'→dv K H' (su ((p-1)/d) (a^((p-1)/d).toNat%p)) u→Q u H'))
theorem gQ:aA [("p":Str),("k":Str),("a":Str),("e":Str),("rest":Str)] [("p":Str),("k":Str),("a":Str)] (ak (top 35)):=⟨rfl,rfl,rfl,by decide +kernel,rfl,by decide +kernel,by decide +kernel⟩
theorem zg {C:Addr} (D:ax K mg "shown_none" (top 35)) (c_how_many_roots:Callee P w K mg base aO 2 "how_many_roots" ["p","k","a"] tq) (c_power:Callee P w K mg base (c6 P w) 4 "power" ["n","a","e"] (cF C)):Callee P w K mg base aO 5 "shown_none" [("p":Str),("k":Str),("a":Str)] (xJ K):=by
 refine aB D (fun _ _ _ _ _ _ us hl=>by obtain⟨_,_,_,rfl⟩:=dQ hl;exact rfl) gQ (fun vs H Q E h=>by obtain⟨_,_,_,rfl,_⟩:=h;rfl) (fun f cdv A outer s H vs Q E hr h=>?_)
 obtain⟨p,k,a,rfl,pm,p1,k0,k1,q1,q2⟩:=h
 have p2:=pm.two
 have nd:=gQ.nd
 refine⟨_,(ae (aP (aw bO (av aK (pv 2) (pv 0)) ah (az _)) (ai (aC gY)) aI) (ae (aq (i:=3) nd rfl (Or.inl rfl) (av aU (av bY (pv 0) ah) (aj c_how_many_roots (hr.mono (by decide)) rfl aG (aa (pv 0) (aa (pv 1) (aa (pv 2) af)))))) (ae (aq (i:=4) nd rfl (Or.inl rfl) (aj c_power (hr.mono (by decide)) rfl aJ (aa (pv 0) (aa (pv 2) (aa (pv 3) af))))) (ai (aC (eQ (aw bO (pv 4) ah (az _)) gY (aM (aa bM (aa (pv 3) (aa (pv 4) af)))))))))),?_⟩
 show bz _ _ _ [some (.int p),some (.int k),some (.int a),none,none] H
 k_data
 refine⟨by omega,aR (fun c=>q1 (Int.dvd_of_emod_eq_zero c)) (fun c=>?_)⟩
 have na:¬p∣a:=fun z=>c (Int.emod_eq_zero_of_dvd z)
 refine⟨p,k,a,rfl,by omega,p1,k0,k1,fun z=>absurd z na,fun _ d H1 D s1=>?_⟩
 have d0:=D.pos k0
 have hd1:d≤p-1:=by obtain⟨u,v,B⟩:=id D;exact Int.le_of_dvd (by omega) B.db
 have e0:=Int.ediv_nonneg (show 0≤p-1 by omega) (show 0≤d by omega)
 obtain⟨q3,q4⟩:=q2 na d D
 refine⟨d,rfl,d0,Bd.of (by omega) (by omega),p,a,(p-1)/d,rfl,by omega,by omega,fun _ H2 s2=>⟨rfl,aR (fun c2=>?_) (fun c2=>⟨by show 3≤sizeLine;decide,fun t ht=>?_⟩)⟩,fun z=>absurd z (by omega)⟩
 ·have c3:=V.int.inj c2
  exact q3 (Num.Al.iff.mpr (by rw [c3,Int.emod_eq_of_lt (by decide) (by omega)])) H2 (s1.trans s2)
 ·have s3:=ao (o:=.tup [V.str "none",V.int ((p-1)/d),V.int (a^((p-1)/d).toNat%p)]) ht
  exact q4 (fun z=>c2 (by rw [Num.Al.iff.mp z,Int.emod_eq_of_lt (by decide) (by omega)])) _ _ ((s1.trans s2).trans s3) ⟨t,_,rfl,bD.of ag,_,_,rfl,rfl,_,_,rfl,rfl,_,_,rfl,rfl,rfl⟩
def qi:Sp:=fun vs H Q _=>∃(p r t m:Int),vs=[.int p,.int r,.int t,.int m]∧0<p∧p≤10^100∧0≤r∧r<p∧0≤t∧t<p∧0≤m∧m≤10^6∧∀ l H',aF H H'→H l=none→H' l=some (.lst (((List.range m.toNat).map fun i=>r*t^i%p).map V.int))→Q (.ref l) H'
theorem gL:aA [("p":Str),("root":Str),("turn":Str),("many":Str),("found":Str),("number":Str),("step":Str)] [("p":Str),("root":Str),("turn":Str),("many":Str)] (ak (top 54)):=⟨rfl,rfl,rfl,by decide +kernel,rfl,by decide +kernel,by decide +kernel⟩
theorem uF (D:ax K mg "all_turned" (top 54)) (n_range:mg "range"=none):Callee P w K mg base aO 1 "all_turned" [("p":Str),("root":Str),("turn":Str),("many":Str)] qi:=by
 refine aB D (fun _ _ _ _ _ _ us hl=>by obtain⟨_,_,_,_,rfl⟩:=sk hl;exact rfl) gL (fun vs H Q E h=>by obtain⟨_,_,_,_,rfl,_⟩:=h;rfl) (fun f cdv A outer s H vs Q E hr h=>?_)
 obtain⟨p,r,t,m,rfl,p0,p1,r0,r1,t0,t1,m0,m1,q⟩:=h
 have nd:=gL.nd
 refine⟨_,(ae (aq (i:=4) nd rfl (Or.inl rfl) (dG af)) (ae (aq (i:=5) nd rfl (Or.inl rfl) (pv 1)) (ae (cV PassesOwn.never rfl (eR rfl n_range (aa (pv 3) af)) (ay (i:=6) nd rfl (Or.inl rfl) (.inr rfl)) (ae (dW (sG PySem.F.plainAttrs_list PySem.F.slot_list_append PySem.F.type_list_append gj (pv 4) (aa (pv 5) af))) (ai (aq (i:=5) nd rfl (Or.inl rfl) (av aK (av aL (pv 5) (pv 2)) (pv 0)))))) (ai (aC (pv 4)))))),?_⟩
 show bz _ _ _ [some (.int p),some (.int r),some (.int t),some (.int m),none,none,none] H
 k_data
 refine⟨by decide,fun l hl=>?_⟩
 refine⟨by omega,by omega,?_⟩
 refine dF (fun i σ' H'=>(∃ o6,σ'=[some (.int p),some (.int r),some (.int t),some (.int m),some (.ref l),some (.int (r*t^i%p)),o6])∧H'=upd H l (.lst (((List.range i).map fun i=>r*t^i%p).map V.int))) ⟨⟨_,by rw [Int.pow_zero,Int.mul_one,Int.emod_eq_of_lt r0 r1]⟩,rfl⟩ ?_ ?_
 ·rintro i σ' H' hi ⟨⟨o6,rfl⟩,rfl⟩
  have hi6:i<10^6:=by omega
  k_data
  refine⟨.inl ⟨rfl,_,aZ.of ag⟩,yA ag (by rw [List.length_map,List.length_range];exact Nat.lt_of_lt_of_le hi6 (by decide)) ?_⟩
  have m0:=Int.emod_nonneg (r*t^i) (show p≠0 by omega)
  have m1:=Int.emod_lt_of_pos (r*t^i) p0
  refine⟨Bd.of (by omega) (by omega),Bd.of (by omega) (by omega),p0,?_,?_⟩
  ·rw [Num.Al.iff.mp ((Num.Al.rest p (r*t^i)).mul (Num.Al.refl p t)),Int.mul_assoc,← Int.pow_succ]
  ·rw [tL,List.range_succ,List.map_append (f:=fun i=>r*t^i%p)];rfl
 ·rintro σ' H' ⟨⟨o6,rfl⟩,rfl⟩
  k_data
  exact q l _ (ao hl) hl ag
end
end K
namespace K
open PySem PySem.Spec PyProof.Rows L2
section
variable {P:Program} {w:World} {K:PySem.W.Frag} {mg:Str→Option Value} {base:Heap} {C:Addr}
theorem rO {C:Addr} {H:Hp} {Q:VK} {E:XK} {p a z:Int} (pm:Num.Pm p) (p9:p≤10^9) (na:¬p∣a) (q:∀ r H',0≤r→r<p→Num.Al p r (Num.Pz (p-1) a z)→aF H H'→Q (.int r) H'):cF C [.int p,.int a,.int z] H Q E:=by
 have p2:=pm.two
 obtain⟨n0,hf⟩:=Num.ik pm na
 refine⟨p,a,z,rfl,by omega,by omega,fun z0 H' s=>q _ _ (Int.emod_nonneg _ (by omega)) (Int.emod_lt_of_pos _ (by omega)) ((Num.Al.rest _ _).trans (Num.fQ n0 hf z0).symm) s,fun z0 g gd=>⟨fun g1 b H' b0 b1 hb s=>?_,fun g1=>?_⟩⟩
 ·exact q _ _ (Int.emod_nonneg _ (by omega)) (Int.emod_lt_of_pos _ (by omega)) ((Num.Al.rest _ _).trans (Num.Bo n0 hf (pm.co na) z0 hb)) s
 ·have:=Int.le_of_dvd (by omega) gd.dn
  rcases Int.lt_or_eq_of_le this with c | c
  ·exact absurd gd.dn (pm.no g (by omega) c)
  ·exact absurd (c▸gd.da) na
theorem rN {C:Addr} {H:Hp} {Q:VK} {E:XK} {n a:Int} (n0:0<n) (n9:n≤10^100) (co:Num.Co a n) (q:∀ r H',0≤r→r<n→n∣r*a-1→aF H H'→Q (.int r) H'):dB C [.int n,.int a] H Q E:=by
 refine⟨n,a,rfl,n0,by omega,fun g gd=>⟨fun _ r H' r0 r1 hr s=>q r H' r0 r1 hr s,fun g1=>?_⟩⟩
 obtain⟨u,v,e⟩:=co
 have:g∣1:=by rw [← e];exact Int.dvd_add (Int.dvd_mul_of_dvd_right gd.da) (Int.dvd_mul_of_dvd_right gd.dn)
 have:=Int.le_of_dvd (by decide) this
 omega
theorem yB {CN CF:Addr} {H:Hp} {Q:VK} {E:XK} {v:V} {p g a b:Int} {rows:PyData} {e z:Nat} (hd:dv K H (.tuple [.int p,.int g,rows]) v) (hp:Num.iV p (.tuple [.int p,.int g,rows])) (sm:∀ q,Num.Pm q→q∣(e:Int)→q≤10^6)
  (o:Num.Ord p b e) (ze:z<e) (al:Num.Al p a (b^z)) (b0:-(10^60)≤b) (b1:b≤10^60) (a0:-(10^60)≤a) (a1:a≤10^60)
  (q:∀ t r H',aF H H'→bD K H' t [.int z,r]→Q (.ref t) H'):nP K C CN CF [v,.int b,.int a,.non] H Q E:=by
 obtain⟨pm,p9⟩:=iz hp
 have nb:¬p∣b:=pm.unit o.co
 have na:¬p∣a:=pm.unit ((o.co.pow z).wk al.symm)
 refine⟨v,.non,p,b,a,g,rows,none,rfl,hd,hp,b0,b1,a0,a1,rfl,fun h=>h.elim (fun h=>absurd h na) fun h=>absurd h nb,fun _ _ e' o' _=>?_⟩
 have ee:=o'.wK o
 subst ee
 refine⟨fun n1=>absurd ?_ n1,fun x xe alx ps hps=>⟨fun h6 u H' post hu=>?_,fun m hm _ m6=>?_⟩⟩
 ·have h1:=al.pow e'
  rw [Num.bp,Nat.mul_comm] at h1
  exact h1.trans (Num.aN o.one)
 ·have:=Num.uP o xe ze alx al
  subst this
  obtain⟨po,ys,rfl,hSo,ve,r1,rfl,h1,vr,r2,rfl,hvr,z⟩:=hu
  cases z
  cases h1
  exact q _ _ _ post hSo
 ·obtain⟨y,hy,rfl⟩:=List.mem_map.mp hm
  have hy2:=hps.ok y hy
  have:=sm y.1 hy2.1 (by rw [← hps.prod];exact Num.eJ hy hy2.2.1)
  omega
def mE (K:PySem.W.Frag):Sp:=fun vs H Q _=>∃(v:V) (p g k a d:Int) (rows:PyData),vs=[v,.int k,.int a]∧dv K H (.tuple [.int p,.int g,rows]) v∧Num.iV p (.tuple [.int p,.int g,rows])∧0<k∧k≤10^100∧¬p∣a∧Dg p k d∧d≤10^6∧Num.Al p (a^((p-1)/d).toNat) 1 ∧
 ∀ r H',0≤r→r<p→Num.Al p (r^k.toNat) a→aF H H'→Q (.int r) H'
theorem jv:aA [("paper":Str),("k":Str),("a":Str),("p":Str),("full":Str),("parts":Str),("many":Str),("inner":Str),("outer":Str),("g":Str),("u":Str),("v":Str),("outer_root":Str),("base":Str),("exponent":Str),("inner_root":Str)] [("paper":Str),("k":Str),("a":Str)] (ak (top 55)):=⟨rfl,rfl,rfl,by decide +kernel,rfl,by decide +kernel,by decide +kernel⟩
theorem rh {C0 C1 CN CF:Addr} (D:ax K mg "one_root" (top 55)) (c_how_many_roots:Callee P w K mg base aO 2 "how_many_roots" ["p","k","a"] tq) (c_whole_of:Callee P w K mg base aO 1 "whole_of" ["parting"] (jU K)) (c_parting_in:Callee P w K mg base aO 1 "parting_in" ["parts"] (nN K)) (c_divisor:Callee P w K mg base aO 1 "divisor" ["a","b"] dA) (c_power:Callee P w K mg base (c6 P w) 4 "power" ["n","a","e"] (cF C0)) (c_inverse:Callee P w K mg base (c6 P w) 3 "inverse" ["n","a"] (dB C1)) (c_which:jH P w K mg base (c6 P w) 15 "which" ["paper","b","a","kept"] [.none] (nP K C CN CF)):Callee P w K mg base aO 16 "one_root" [("paper":Str),("k":Str),("a":Str)] (mE K):=by
 refine aB D (fun _ _ _ _ _ _ us hl=>by obtain⟨_,_,_,rfl⟩:=dQ hl;exact rfl) jv (fun vs H Q E h=>by obtain⟨_,_,_,_,_,_,_,rfl,_⟩:=h;rfl) (fun f cdv A outer s H vs Q E hr h=>?_)
 obtain⟨v,p,g,k,a,d,rows,rfl,hd,pap,k0,k1,na,D,d6,h1,q⟩:=h
 obtain⟨pm,p9⟩:=iz pap
 have p2:=pm.two
 obtain⟨g',ps,ds,e',hg,hP,hl29,hds⟩:=jQ pap
 simp only [PyData.tuple.injEq,List.cons.injEq,PyData.int.injEq,and_true,true_and] at e'
 obtain⟨rfl,rfl⟩:=e'
 have nd:=jv.nd
 refine⟨_,(ae (dH (pv 0) (cu (n:=3) rfl (aD (ay (i:=3) nd rfl (Or.inl rfl) (.inr rfl)) (aD (ay (i:=4) nd rfl (Or.inl rfl) (.inr rfl)) (aD (ay (i:=5) nd rfl (Or.inl rfl) (.inr rfl)) aW))))) (ae (aq (i:=6) nd rfl (Or.inr rfl) (aj c_how_many_roots (hr.mono (by decide)) rfl aG (aa (pv 3) (aa (pv 1) (aa (pv 2) af))))) (ae (aq (i:=7) nd rfl (Or.inl rfl) (aj c_whole_of (hr.mono (by decide)) rfl aG (aa (fO rfl (cJ (N':=["prime","times","many"]) (js:=[none,none,some 6]) rfl rfl (by decide +kernel) (by decide +kernel) (by repeat (first | exact True.intro | refine⟨rfl,?_⟩)) (by repeat (first | exact True.intro | refine⟨rfl,?_⟩ | refine⟨True.intro,?_⟩)) (by repeat (first | exact True.intro | refine⟨⟨rfl,rfl,.inl rfl,.inl rfl⟩,?_⟩))) (cp (aj c_parting_in (hr.mono (by decide)) rfl aG (aa (pv 5) af))) (fun _ _ _ _=>(dU K rfl (n:=2) rfl (aD (ay (i:=0) (show List.Nodup [("prime":Str),("times":Str),("many":Str)] from by decide +kernel) rfl (Or.inl rfl) (.inr rfl)) (aD (ay (i:=1) (show List.Nodup [("prime":Str),("times":Str),("many":Str)] from by decide +kernel) rfl (Or.inl rfl) (.inr rfl)) aW)))) (fun _ _ _ _=>(pQ (aw bO (av aK (pv 2) (pv 0)) ah (az _)))) (fun _ _ _ _=>(aM (aa (pv 0) (aa (pv 1) af))))) af))) (ae (aq (i:=8) nd rfl (Or.inl rfl) (av aU (av bY (pv 3) ah) (pv 7))) (ae (dH (aj c_divisor (hr.mono (by decide)) rfl aG (aa (pv 7) (aa (pv 8) af))) (cu (n:=3) rfl (aD (ay (i:=9) nd rfl (Or.inl rfl) (.inr rfl)) (aD (ay (i:=10) nd rfl (Or.inl rfl) (.inr rfl)) (aD (ay (i:=11) nd rfl (Or.inl rfl) (.inr rfl)) aW))))) (ae (aq (i:=12) nd rfl (Or.inl rfl) (aj c_power (hr.mono (by decide)) rfl aJ (aa (pv 3) (aa (pv 2) (aa (av aL (av aL (pv 10) (pv 7)) (aj c_inverse (hr.mono (by decide)) rfl aJ (aa (pv 8) (aa (pv 1) af)))) af))))) (ae (aq (i:=13) nd rfl (Or.inl rfl) (aj c_power (hr.mono (by decide)) rfl aJ (aa (pv 3) (aa (pv 4) (aa (pv 8) af))))) (ae (aq (i:=14) nd rfl (Or.inl rfl) (aV bB (wN c_which (.cons (show RelV V.non _ from rfl) .nil) (hr.mono (by decide)) rfl aJ (aa (pv 0) (aa (pv 13) (aa (aj c_power (hr.mono (by decide)) rfl aJ (aa (pv 3) (aa (pv 2) (aa (av aL (pv 11) (pv 8)) af)))) af)))) ah (fun _ _=>rfl))) (ae (aq (i:=15) nd rfl (Or.inl rfl) (aj c_power (hr.mono (by decide)) rfl aJ (aa (pv 3) (aa (pv 13) (aa (av aL (av aU (pv 14) (pv 6)) (aj c_inverse (hr.mono (by decide)) rfl aJ (aa (av aU (pv 7) (pv 6)) (aa (av aU (pv 1) (pv 6)) af)))) af))))) (ai (aC (av aK (av aL (pv 12) (pv 15)) (pv 3))))))))))))),?_⟩
 show bz _ _ _ [some v,some (.int k),some (.int a),none,none,none,none,none,none,none,none,none,none,none,none,none] H
 obtain⟨pp,y1,y2,vr,rfl,tS,e0,eg,dr⟩:=qK (id hd)
 cases e0
 cases eg
 k_data
 refine⟨pp,_,rfl,tS,rfl,?_⟩
 k_data
 refine⟨p,k,a,rfl,by omega,by omega,k0,k1,fun z=>absurd z na,fun _ d' H1 D' s1=>?_⟩
 cases D.one D'
 have d0:=D.pos k0
 obtain⟨du,dw,B⟩:=D
 refine⟨vr,_,ps,rfl,dv.same s1 _ dr,z8 hds,by rw [Num.bJ];exact Nat.le_trans hl29 (by decide),fun l us H2 s2 fl el dl=>⟨l,rfl,⟨_,aZ.of el⟩,?_⟩⟩
 have ul:us.length=ps.length:=by rw [dl.length,List.length_map]
 have R:=Num.zF (g:=g) (a:=a) p2 hP k0 B
 have hpm:∀ y∈ps,Num.Pm y.1:=fun y hy=>(hP.ok y hy).1
 refine bW (xs:=us) (fun i ys H'=>aF H2 H'∧aQ K H' (((ps.take i).filter fun y=>decide (d%y.1=0)).map jG) ys∧ys.length≤i) ⟨aF.refl _,rfl,Nat.le_refl _⟩ (by rw [ul];exact Nat.le_trans hl29 (by decide)) (fun i ys H' _ h=>⟨aZ.of (h.1 _ _ el),h.2.2⟩) ?_ ?_
 ·rintro i x ys H3 hx ⟨s3,d3,l3⟩
  obtain⟨dd,hdd,hv⟩:=(aQ.same s3 _ dl).get hx
  rw [List.getElem?_map,Option.map_eq_some_iff] at hdd
  obtain⟨⟨y1,y2⟩,hy,rfl⟩:=hdd
  obtain⟨pt,zs,rfl,hSt,x1,r1,rfl,e1,x2,r2,rfl,e2,z⟩:=hv
  cases z
  cases e1
  cases e2
  have yp:=(hpm _ (List.mem_of_getElem? hy)).two
  have tk:ps.take (i+1)=ps.take i++[(y1,y2)]:=by rw [List.take_add_one,hy];rfl
  simp only [dc,List.map_cons,List.map_nil,Option.join]
  k_data
  refine⟨pt,_,rfl,hSt,rfl,?_⟩
  k_data
  refine⟨⟨rfl,True.intro⟩,_,rfl,d,rfl,by omega,?_⟩
  rw [tk,List.filter_append,List.map_append]
  refine aR (fun c=>⟨by show 2≤sizeLine;decide,fun pn hpn=>?_⟩) (fun c=>?_)
  ·have s4:=ao (o:=.tup [V.int y1,V.int y2]) hpn
   refine⟨s3.trans s4,?_,by simp;omega⟩
   rw [List.filter_cons_of_pos (by simp [c])]
   exact (aQ.same s4 _ d3).append ⟨_,_,rfl,⟨pn,_,rfl,bD.of ag,_,_,rfl,rfl,_,_,rfl,rfl,rfl⟩,rfl⟩
  ·refine⟨s3,?_,by omega⟩
   rw [List.filter_cons_of_neg (by simp [c])]
   simpa using d3
 ·rintro ys H3 l2 ⟨s3,d3,l3⟩ hl2
  rw [ul,List.take_length] at d3
  have s4:=ao (o:=.lst ys) hl2
  have e4:upd H3 l2 (.lst ys) l2=some (.lst ys):=ag
  generalize upd H3 l2 (.lst ys)=H4 at *
  have d4:=aQ.same s4 _ d3
  generalize hF:(ps.filter fun y=>decide (d%y.1=0))=F at *
  have hFp:∀ y∈F,y∈ps∧d%y.1=0:=fun y hy=>by
   rw [← hF] at hy
   have:=List.mem_filter.mp hy
   exact⟨this.1,by simpa using this.2⟩
  have i0:=R.i0
  have o0:=R.o0
  have io:=R.io
  have iN:((Num.eN F:Nat):Int)≤p-1:=Int.le_of_dvd (by omega) ⟨_,io.symm⟩
  have oN:(p-1)/((Num.eN F:Nat):Int)≤p-1:=Int.le_of_dvd (by omega) ⟨_,by rw [Int.mul_comm];exact io.symm⟩
  refine⟨l2,ys,F,rfl,e4,d4,fun y hy=>?_,by omega,fun H5 s5=>⟨_,rfl,i0,Bd.of (by omega) (by omega),?_⟩⟩
  ·have:=(hP.ok y (hFp y hy).1)
   have:=this.1.two
   omega
  generalize hI:((Num.eN F:Nat):Int)=I at *
  generalize hO:(p-1)/I=O at *
  have eF:I.toNat=Num.eN F:=by omega
  refine⟨I,O,rfl,⟨by omega,by omega⟩,⟨by omega,by omega⟩,fun gg u v t H6 B2 s6 e6=>⟨t,_,rfl,bD.of e6,rfl,?_⟩⟩
  have g1:gg=1:=by
   obtain⟨s',t',e'⟩:=R.cio
   have:gg∣1:=by rw [← e'];exact Int.dvd_add (Int.dvd_mul_of_dvd_right B2.da) (Int.dvd_mul_of_dvd_right B2.db)
   have h2:=Int.le_of_dvd (by decide) this
   have h0:=B2.g0
   rcases Int.lt_or_eq_of_le h0 with z | z
   ·omega
   ·rw [← z] at this;have:=Int.zero_dvd.mp this;omega
  subst g1
  have lin:=B2.lin
  have bu:=B2.bu
  have bv:=B2.bv
  k_data
  have uI:-(10^20)≤u*I∧u*I≤10^20:=by
   have h1:(u*I).natAbs≤10^9*10^9:=by rw [Int.natAbs_mul];exact Nat.mul_le_mul (by omega) (by omega)
   omega
  refine⟨Bd.of (by omega) (by omega),Bd.of (by omega) (by omega),rN o0 (by omega) R.cko fun iv H7 iv0 iv1 hiv s7=>⟨iv,rfl,Bd.of (by omega) (by omega),Bd.of (by omega) (by omega),rO pm p9 na fun r1 H8 r10 r11 hr1 s8=>?_⟩⟩
  have lf:=hg.ord
  refine⟨p,g,O,rfl,by omega,by omega,fun _ H9 s9=>?_,fun z=>absurd z (by omega)⟩
  have hb:=Num.Al.rest p (g^O.toNat)
  have b0:=Int.emod_nonneg (g^O.toNat) (show p≠0 by omega)
  have b1:=Int.emod_lt_of_pos (g^O.toNat) (show 0<p by omega)
  generalize g^O.toNat%p=b at *
  refine⟨Bd.of (by omega) (by omega),Bd.of (by omega) (by omega),rO pm p9 na fun c H10 c0 c1 hc s10=>?_⟩
  have ob:=R.base lf hb
  obtain⟨x,xI,hx⟩:=Num.pR pm ob (R.D3 pm na hc)
  have dx:=R.dx pm na lf h1 hb hc hx
  have sm:∀ q,Num.Pm q→q∣((I.toNat:Nat):Int)→q≤10^6:=fun q hq hdv=>by
   rcases Classical.em (∃ y∈F,y.1=q) with⟨y,hy,rfl⟩ | hn
   ·have:=Int.le_of_dvd d0 (Int.dvd_of_emod_eq_zero (hFp y hy).2)
    omega
   ·refine absurd ?_ (Num.zZ hq (b:=F) (fun y hy=>hpm y (hFp y hy).1) fun y hy z=>hn ⟨y,hy,z⟩)
    rw [eF] at hdv
    have q2:=hq.two
    rw [← Int.toNat_of_nonneg (show 0≤q by omega)] at hdv
    exact Int.natCast_dvd_natCast.mp hdv
  have S10:aF H H10:=((((((((s1.trans s2).trans s3).trans s4).trans s5).trans s6).trans s7).trans s8).trans s9).trans s10
  refine yB (dv.same S10 _ hd) pap sm ob xI hx (by omega) (by omega) (by omega) (by omega) fun tt rr H11 s11 hT=>cf hT lu ?_
  have Id:0<I/d:=by
   obtain⟨y,hy⟩:=R.di
   rw [hy,Int.mul_ediv_cancel_left _ (by omega)]
   rcases Int.lt_trichotomy y 0 with z | z | z
   ·have:=Int.mul_neg_of_pos_of_neg d0 z;omega
   ·rw [z,Int.mul_zero] at hy;omega
   ·exact z
  have Id2:I/d≤I:=Int.ediv_le_self _ (by omega)
  have x0:0≤(x:Int)/d:=Int.ediv_nonneg (by omega) (by omega)
  have x1:(x:Int)/d≤x:=Int.ediv_le_self _ (by omega)
  refine⟨_,rfl,d0,Bd.of (by omega) (by omega),d0,Bd.of (by omega) (by omega),d0,Bd.of (by omega) (by omega),rN Id (by omega) R.cki fun w' H12 w0 w1 hw s12=>?_⟩
  refine⟨w',rfl,Bd.of (by omega) (by omega),Bd.of (by omega) (by omega),p,b,_,rfl,by omega,by omega,fun _ H13 s13=>⟨r1,rfl,_,rfl,Bd.of (by omega) (by omega),Bd.of (by have:=Int.emod_nonneg (b^((x:Int)/d*w').toNat) (show p≠0 by omega);omega) (by have:=Int.emod_lt_of_pos (b^((x:Int)/d*w').toNat) (show 0<p by omega);omega),by omega,?_⟩,fun z=>absurd z (Int.not_lt.mpr (Int.mul_nonneg x0 w0))⟩
  exact q _ H13 (Int.emod_nonneg _ (by omega)) (Int.emod_lt_of_pos _ (by omega)) (((Num.Al.rest p _).pow _).trans (R.root k0 pm na lf lin hiv hr1 hb hc hx dx w0 hw (Num.Al.rest p _))) (((S10.trans s11).trans s12).trans s13)
end
end K
namespace K
open PySem PySem.Spec PyProof.Rows L2
section
variable {P:Program} {w:World} {K:PySem.W.Frag} {mg:Str→Option Value} {base:Heap} {C:Addr}
structure mM (p k a d:Int) (rs:List Int):Prop where
 rise:rs.Pairwise (·<·)
 len:(rs.length:Int)=d
 ok:∀ r∈rs,0≤r∧r<p∧Num.Al p (r^k.toNat) a
def yg (r t:Int):PyData:=.tuple [.str "turned",.int r,.int t]
def tF (K:PySem.W.Frag) (CM:Addr) (M:Int):Sp:=fun vs H Q E=>∃(v:V) (p g k a:Int) (rows:PyData),vs=[v,.int k,.int a]∧dv K H (.tuple [.int p,.int g,rows]) v∧Num.iV p (.tuple [.int p,.int g,rows])∧0<k∧k≤10^60 ∧
 (p∣a→∀ t l s H',aF H H'→H l=none→bD K H' t [.ref l,s]→H' l=some (.lst [.int 0])→dv K H' (.tuple [.str "nought"]) s→Q (.ref t) H') ∧
 (¬p∣a→∀ d,Dg p k d →
  (¬Num.Al p (a^((p-1)/d).toNat) 1→∀ t l s H',aF H H'→H l=none→bD K H' t [.ref l,s]→H' l=some (.lst [])→dv K H' (su ((p-1)/d) (a^((p-1)/d).toNat%p)) s→Q (.ref t) H') ∧
  (Num.Al p (a^((p-1)/d).toNat) 1→(400<d→ym CM "many" (.int d) H E)∧(d≤400→d≤M∧∀ rs r0 tn t l s H',mM p k a d rs→rs[0]?=some r0→0≤tn→tn<p→Num.Ord p tn d.toNat→aF H H'→H l=none→bD K H' t [.ref l,s]→H' l=some (.lst (rs.map V.int))→dv K H' (yg r0 tn) s→Q (.ref t) H')))
theorem uN {p:Int} (pm:Num.Pm p) {r t k a d:Int} {ns:List Int} (k0:0<k) (d0:0<d) (dk:d∣k) (r0:0≤r) (r1:r<p) (nr:¬p∣r) (hr:Num.Al p (r^k.toNat) a) (ot:Num.Ord p t d.toNat) (hp:ns.Perm ((List.range d.toNat).map fun i=>r*t^i%p)) (hs:ns.Pairwise (·≤·)):mM p k a d ns:=by
 have p2:=pm.two
 have nd:((List.range d.toNat).map fun i=>r*t^i%p).Nodup:=by
  refine List.pairwise_map.mpr ?_
  refine List.Pairwise.imp_of_mem (fun {i j} hi hj h e=>h (Num.va pm ot nr (List.mem_range.mp hi) (List.mem_range.mp hj) (Num.Al.iff.mpr e))) List.nodup_range
 have nd':=hp.nodup_iff.mpr nd
 refine⟨?_,?_,fun x hx=>?_⟩
 ·exact (hs.and nd').imp fun⟨h1,h2⟩=>by omega
 ·have:=hp.length_eq
  rw [List.length_map,List.length_range] at this
  omega
 ·obtain⟨i,_,rfl⟩:=List.mem_map.mp (hp.mem_iff.mp hx)
  refine⟨Int.emod_nonneg _ (by omega),Int.emod_lt_of_pos _ (by omega),((Num.Al.rest p _).pow _).trans (Num.vb pm ot ?_ hr i)⟩
  have:((d.toNat:Nat):Int)∣((k.toNat:Nat):Int):=by rw [Int.toNat_of_nonneg (by omega),Int.toNat_of_nonneg (by omega)];exact dk
  exact Int.natCast_dvd_natCast.mp this
theorem pY:aA [("paper":Str),("k":Str),("a":Str),("p":Str),("none":Str),("many":Str),("turn":Str),("found":Str)] [("paper":Str),("k":Str),("a":Str)] (ak (top 53)):=⟨rfl,rfl,rfl,by decide +kernel,rfl,by decide +kernel,by decide +kernel⟩
theorem wF {CN CM:Addr} (D:ax K mg "roots" (top 53)) (c_shown_none:Callee P w K mg base aO 5 "shown_none" ["p","k","a"] (xJ K)) (c_how_many_roots:Callee P w K mg base aO 2 "how_many_roots" ["p","k","a"] tq) (c_of_order:Callee P w K mg base (c6 P w) 5 "of_order" ["paper","d"] (mD K CN)) (c_all_turned:Callee P w K mg base aO 1 "all_turned" ["p","root","turn","many"] qi) (c_one_root:Callee P w K mg base aO 16 "one_root" ["paper","k","a"] (mE K)) (x_TooMany:mN P w K mg base "TooMany" CM "many") (g_MOST_TOLD:∃ t,mg "MOST_TOLD"=some (.int 400 t)) (n_sorted:mg "sorted"=none):Callee P w K mg base (c6 P w) 17 "roots" [("paper":Str),("k":Str),("a":Str)] (tF K CM 400):=by
 refine bH D (fun _ _ _ _ _ _ us hl=>by obtain⟨_,_,_,rfl⟩:=dQ hl;exact rfl) pY (fun vs H Q E h=>by obtain⟨_,_,_,_,_,_,rfl,_⟩:=h;rfl) (fun f cdv A outer s H vs Q E hr h=>?_)
 obtain⟨v,p,g,k,a,rows,rfl,hd,pap,k0,k1,q1,q2⟩:=h
 obtain⟨pm,p9⟩:=iz pap
 have p2:=pm.two
 obtain⟨t0,g_MOST_TOLD⟩:=g_MOST_TOLD
 have nd:=pY.nd
 refine⟨_,(ae (aq (i:=3) nd rfl (Or.inl rfl) (aV bB (pv 0) ah (fun _ _=>rfl))) (ae (aP (aw bO (av aK (pv 2) (pv 3)) ah (az _)) (gF.l9 (ai (aC (aM (aa (dG (aa ah af)) (aa (aM (aa bM af)) af)))))) aI) (ae (aq (i:=4) nd rfl (Or.inl rfl) (aj c_shown_none (hr.mono (by decide)) rfl aG (aa (pv 3) (aa (pv 1) (aa (pv 2) af))))) (ae (aP (aw sE (pv 4) gY (az _)) (gF.l9 (ai (aC (aM (aa (dG af) (aa (pv 4) af)))))) aI) (ae (aq (i:=5) nd rfl (Or.inl rfl) (aj c_how_many_roots (hr.mono (by decide)) rfl aG (aa (pv 3) (aa (pv 1) (aa (pv 2) af))))) (ae (aP (aw cw (pv 5) (jR (v:=.int 400) rfl g_MOST_TOLD ⟨_,rfl⟩) (az _)) (ai (bZ (i7 x_TooMany (hr.mono (by decide)) rfl (aa (pv 5) af)))) aI) (gF.l9 (ae (aq (i:=6) nd rfl (Or.inl rfl) (aj c_of_order (hr.mono (by decide)) rfl aJ (aa (pv 0) (aa (pv 5) af)))) (ae (aq (i:=7) nd rfl (Or.inl rfl) (aH mQ rfl n_sorted PyProof.Rows.boot_sorted (aa (aj c_all_turned (hr.mono (by decide)) rfl aG (aa (pv 3) (aa (aj c_one_root (hr.mono (by decide)) rfl aG (aa (pv 0) (aa (pv 1) (aa (pv 2) af)))) (aa (pv 6) (aa (pv 5) af))))) af))) (ai (aC (aM (aa (pv 7) (aa (aM (aa bM (aa (aV iu (pv 7) ah (fun _ _=>rfl)) (aa (pv 6) af)))) af)))))))))))))),?_⟩
 show bz _ _ _ [some v,some (.int k),some (.int a),none,none,none,none,none] H
 obtain⟨pp,y1,y2,vr,rfl,tS,e0,eg,dr⟩:=qK (id hd)
 cases e0
 cases eg
 k_data
 refine cf tS lu ⟨p,rfl,by omega,aR (fun c=>⟨by decide,fun l hl=>⟨by decide,fun s hs=>⟨by show 2≤sizeLine;decide,fun t ht=>?_⟩⟩⟩) (fun c=>?_)⟩
 ·have s1:=ao (o:=.lst [V.int 0]) hl
  have s2:=ao (o:=.tup [V.str "nought"]) hs
  have s3:=ao (o:=.tup [V.ref l,V.ref s]) ht
  exact q1 (Int.dvd_of_emod_eq_zero c) t l (.ref s) _ ((s1.trans s2).trans s3) hl (bD.of ag) (s3 _ _ (s2 _ _ ag)) ⟨s,_,rfl,bD.of (s3 _ _ ag),_,_,rfl,rfl,rfl⟩
 have na:¬p∣a:=fun z=>c (Int.emod_eq_zero_of_dvd z)
 refine⟨p,k,a,rfl,pm,by omega,k0,by omega,fun z=>absurd z na,fun _ d D=>⟨fun al H1 s1=>?_,fun nal u H1 s1 hu=>?_⟩⟩
 ·refine aR (fun c2=>absurd rfl c2) (fun _=>?_)
  refine⟨p,k,a,rfl,by omega,by omega,k0,by omega,fun z=>absurd z na,fun _ d' H2 D' s2=>⟨d',rfl,?_⟩⟩
  cases D.one D'
  have d0:=D.pos k0
  have hdv:d∣p-1:=by obtain⟨u,v,B⟩:=id D;exact B.db
  have hdk:d∣k:=by obtain⟨u,v,B⟩:=id D;exact B.da
  have hd1:d≤p-1:=Int.le_of_dvd (by omega) hdv
  obtain⟨q3,q4⟩:=(q2 na d D).2 al
  refine aR (fun c4 x dx hx hdx nx=>gf x_TooMany.cls (s1.trans s2) hx hdx nx (q3 c4)) (fun c4=>?_)
  obtain⟨d63,q5⟩:=q4 (by omega)
  obtain⟨g',ps,ds,e',hg,hP,hl29,hds⟩:=jQ pap
  simp only [PyData.tuple.injEq,List.cons.injEq,PyData.int.injEq,and_true,true_and] at e'
  obtain⟨rfl,rfl⟩:=e'
  refine⟨.ref pp,p,d,g,_,rfl,dv.same (s1.trans s2) _ hd,pap,by omega,by omega,fun z=>absurd z (by have:=Int.emod_eq_zero_of_dvd hdv;omega),fun _ _ H3 s3=>?_⟩
  have ot:Num.Ord p (g^((p-1)/d).toNat%p) d.toNat:=by
   have e1:((p-1)/d).toNat=(p-1).toNat/d.toNat:=by
    have:(((p-1).toNat/d.toNat:Nat):Int)=(p-1)/d:=by rw [Int.natCast_ediv,Int.toNat_of_nonneg (by omega),Int.toNat_of_nonneg (by omega)]
    rw [← this,Int.toNat_natCast]
   rw [e1]
   refine Num.kG (Num.Al.rest p _).symm (Num.jP hg.ord ?_)
   have:((d.toNat:Nat):Int)∣(((p-1).toNat:Nat):Int):=by rw [Int.toNat_of_nonneg (by omega),Int.toNat_of_nonneg (by omega)];exact hdv
   exact Int.natCast_dvd_natCast.mp this
  have t0:=Int.emod_nonneg (g^((p-1)/d).toNat) (show p≠0 by omega)
  have t1:=Int.emod_lt_of_pos (g^((p-1)/d).toNat) (show 0<p by omega)
  generalize g^((p-1)/d).toNat%p=tn at *
  refine⟨.ref pp,p,g,k,a,d,_,rfl,dv.same ((s1.trans s2).trans s3) _ hd,pap,k0,by omega,na,D,by omega,al,fun r H4 r0 r1 hr s4=>⟨p,r,tn,d,rfl,by omega,by omega,r0,r1,t0,t1,by omega,by omega,fun l H5 s5 hl el=>⟨l,_,rfl,aZ.of el,fun l2 ns hp hs hl2=>?_⟩⟩⟩
  have nr:¬p∣r:=fun z=>by
   have k0':k.toNat=(k.toNat-1)+1:=by omega
   have h1:p∣r^k.toNat:=by rw [k0',Int.pow_succ];exact Int.dvd_mul_of_dvd_right z
   have h2:p∣r^k.toNat-a:=hr
   have:=Int.dvd_sub h1 h2
   rw [show r^k.toNat-(r^k.toNat-a)=a by omega] at this
   exact na this
  have RO:=uN pm k0 d0 hdk r0 r1 nr hr ot hp hs
  have S5:=(((s1.trans s2).trans s3).trans s4).trans s5
  have s6:=ao (o:=.lst (ns.map V.int)) hl2
  have e6:upd H5 l2 (.lst (ns.map V.int)) l2=some (.lst (ns.map V.int)):=ag
  generalize upd H5 l2 (.lst (ns.map V.int))=H6 at *
  have ln:=RO.len
  match ns,RO,ln,e6 with
  | [],_,ln,_=>simp at ln;omega
  | n0::nr',RO,ln,e6 =>
   k_data
   refine v5 (aZ.of e6) (Int.le_refl 0) rfl ⟨by show 3≤sizeLine;decide,fun s hs'=>⟨by show 2≤sizeLine;decide,fun t ht=>?_⟩⟩
   have s7:=ao (o:=.tup [V.str "turned",V.int n0,V.int tn]) hs'
   have s8:=ao (o:=.tup [V.ref l2,V.ref s]) ht
   exact q5 (n0::nr') n0 tn t l2 (.ref s) _ RO rfl t0 t1 ot (((S5.trans s6).trans s7).trans s8) (S5.free hl2) (bD.of ag) (s8 _ _ (s7 _ _ e6)) ⟨s,_,rfl,bD.of (s8 _ _ ag),_,_,rfl,rfl,_,_,rfl,rfl,_,_,rfl,rfl,rfl⟩
 ·have un:u≠.non:=by obtain⟨_,_,rfl,_⟩:=hu;intro z;cases z
  refine aR (fun _=>?_) (fun c2=>absurd un c2)
  refine⟨by decide,fun l hl=>⟨by show 2≤sizeLine;decide,fun t ht=>?_⟩⟩
  have s2:=ao (o:=.lst []) hl
  have s3:=ao (o:=.tup [V.ref l,u]) ht
  exact (q2 na d D).1 nal t l u _ ((s1.trans s2).trans s3) (s1.free hl) (bD.of ag) (s3 _ _ ag) (dv.same (s2.trans s3) _ hu)
end
end K
namespace K
open PySem PySem.Spec PyProof.Rows L2
section
variable {P:Program} {w:World} {K:PySem.W.Frag} {mg:Str→Option Value} {base:Heap}
theorem zB {a d L:Int} (hd:0<d) (h0:-L≤a) (h1:a≤L):-L≤a/d∧a/d≤L:=by
 have L0:0≤L:=by omega
 have h2:L*1≤L*d:=Int.mul_le_mul_of_nonneg_left (show 1≤d by omega) L0
 refine⟨Int.le_ediv_of_mul_le hd (by rw [Int.neg_mul];omega),Int.ediv_le_of_le_mul hd (by omega)⟩
def Am (K:PySem.W.Frag):Sp:=fun vs H Q _=>∃(a:Addr) (ns:List Int),vs=[.ref a]∧aZ K H a (ns.map V.int)∧ns.length≤63∧∀ H',Q (.bl true) H'
end
end K
namespace K
open PySem PySem.Spec PyProof.Rows L2
section
variable {P:Program} {w:World} {K:PySem.W.Frag} {mg:Str→Option Value} {base:Heap} {C:Addr}
def gc (k p:Int):Nat:=Nat.gcd k.toNat (p-1).toNat
theorem AM {p k d:Int} (h:Dg p k d) (p1:1≤p) (k0:0<k):d=(gc k p:Nat):=by
 have d0:=h.pos k0
 unfold gc
 obtain⟨u,v,B⟩:=h
 have e1:((k.toNat:Nat):Int)=k:=Int.toNat_of_nonneg (by omega)
 have e2:(((p-1).toNat:Nat):Int)=p-1:=Int.toNat_of_nonneg (by omega)
 have e3:((d.toNat:Nat):Int)=d:=Int.toNat_of_nonneg (by omega)
 have h1:d.toNat∣Nat.gcd k.toNat (p-1).toNat:=Nat.dvd_gcd (Int.natCast_dvd_natCast.mp (by rw [e3,e1];exact B.da)) (Int.natCast_dvd_natCast.mp (by rw [e3,e2];exact B.db))
 have h2:Nat.gcd k.toNat (p-1).toNat∣d.toNat:=by
  refine Int.natCast_dvd_natCast.mp ?_
  rw [e3,← B.lin]
  refine Int.dvd_add (Int.dvd_mul_of_dvd_right ?_) (Int.dvd_mul_of_dvd_right ?_)
  ·rw [← e1];exact Int.natCast_dvd_natCast.mpr (by rw [e1];exact Nat.gcd_dvd_left _ _)
  ·rw [← e2];exact Int.natCast_dvd_natCast.mpr (by rw [e2];exact Nat.gcd_dvd_right _ _)
 have:=Nat.dvd_antisymm h1 h2
 omega
theorem rM {H:Hp} {Q:VK} {E:XK} {k p:Int} (k0:0≤k) (p1:1≤p) (q:Q (.int (gc k p:Nat)) H):iJ [.int k,.int (p-1)] H Q E :=
 ⟨k.toNat,(p-1).toNat,by rw [Int.toNat_of_nonneg k0,Int.toNat_of_nonneg (by omega)],q⟩
def qf:Sp:=fun vs H Q _=>∃(t:Addr) (n:Nat) (p:Int),vs=[.ref t,.int p]∧Tp t n H∧n≤10^40∧2≤p∧p≤10^9∧∀ k H',1≤k→k≤60000→gc k p≤400→Off t H H'→Tp t (n+3) H'→Q (.int k) H'
theorem fz:aA [("_law_tape_here":Str),("_law_p":Str),("_law_k":Str)] [("_law_tape_here":Str),("_law_p":Str)] (ak (top 68)):=⟨rfl,rfl,rfl,by decide +kernel,rfl,by decide +kernel,by decide +kernel⟩
theorem uB (D:ax K mg "_law_small_k" (top 68)) (c__law_draw:Callee P w K mg base aO 1 "_law_draw" ["_law_tape_here","_law_many"] kZ) (c__law_common:Callee P w K mg base aO 1 "_law_common" ["_law_one","_law_other"] iJ):Callee P w K mg base aO 2 "_law_small_k" [("_law_tape_here":Str),("_law_p":Str)] qf:=by
 refine aB D (fun _ _ _ _ _ _ us hl=>by obtain⟨_,_,rfl⟩:=cL hl;exact rfl) fz (fun vs H Q E h=>by obtain⟨_,_,_,rfl,_⟩:=h;rfl) (fun f cdv A outer s H vs Q E hr h=>?_)
 obtain⟨t,n,p,rfl,tp,n9,p2,p9,q⟩:=h
 have nd:=fz.nd
 refine⟨_,(ae (aq (i:=2) nd rfl (Or.inl rfl) (av bI ah (aj c__law_draw (hr.mono (by decide)) rfl aG (aa (pv 0) (aa ah af))))) (ae (c8 (aP (aw bO (aj c__law_draw (hr.mono (by decide)) rfl aG (aa (pv 0) (aa ah af))) ah (az _)) (ai (aq (i:=2) nd rfl (Or.inl rfl) (av aL (pv 2) (av bI ah (aj c__law_draw (hr.mono (by decide)) rfl aG (aa (pv 0) (aa ah af))))))) aI)) (ae (bf PassesOwn.never (aw cw (aj c__law_common (hr.mono (by decide)) rfl aG (aa (pv 2) (aa (av bY (pv 1) ah) af))) ah (az _)) (ai (aq (i:=2) nd rfl (Or.inl rfl) (av aU (pv 2) ah)))) (ai (aC (pv 2)))))),?_⟩
 show bz _ _ _ [some (.ref t),some (.int p),none] H
 k_data
 refine⟨t,60,n,rfl,tp,by omega,by decide,by decide,fun r1 H1 r10 r11 o1 t1=>⟨_,rfl,?_⟩⟩
 refine⟨fun σ' H'=>∃ k:Int,σ'=[some (.ref t),some (.int p),some (.int k)]∧1≤k∧k≤60000∧Off t H H'∧Tp t (n+3) H',?_,?_⟩
 ·k_data
  refine⟨t,2,_,rfl,t1,by omega,by decide,by decide,fun r2 H2 r20 r21 o2 t2=>⟨rfl,aR (fun c=>?_) (fun c=>⟨by omega,by omega,o1.trans o2,t2.more (by omega)⟩)⟩⟩
  refine⟨t,1000,_,rfl,t2,by omega,by decide,by decide,fun r3 H3 r30 r31 o3 t3=>⟨_,rfl,Bd.of (by omega) (by omega),Bd.of (by omega) (by omega),?_⟩⟩
  have h1:(1+r1)*(1+r3)≤60*1000:=Int.mul_le_mul (by omega) (by omega) (by omega) (by omega)
  have h2:1*1≤(1+r1)*(1+r3):=Int.mul_le_mul (by omega) (by omega) (by omega) (by omega)
  exact⟨by omega,by omega,(o1.trans o2).trans o3,t3⟩
 rintro σ' H2 ⟨k0,rfl,k1,k2,o2,t2⟩
 k_data
 refine bh (α:=Int) (fun k=>[some (.ref t),some (.int p),some (.int k)]) (fun k H'=>H'=H2∧1≤k∧k≤60000) (fun k=>k.toNat) k0 rfl ⟨rfl,k1,k2⟩ ?_
 rintro k H' ⟨rfl,k1,k2⟩
 replace k1:1≤k:=k1
 replace k2:k≤60000:=k2
 k_data
 have gk:gc k p≤k.toNat:=Nat.le_of_dvd (by omega) (Nat.gcd_dvd_left _ _)
 refine rM (by omega) (by omega) ⟨_,rfl,aR (fun c=>?_) (fun c=>q k _ k1 k2 (by omega) o2 t2)⟩
 exact⟨_,fun _ _ z=>z,yn (by decide),k/2,rfl,rfl,by omega,by omega,by omega⟩
def k8:Sp:=fun vs H Q _=>∃(p a:Int) (e:Nat),vs=[.int p,.int a,.int (e:Int)]∧Num.Pm p∧p≤10^9∧1≤a∧a<p∧Num.Ord p a e∧e≤10^9∧∀ H',aF H H'→Q (.bl true) H'
theorem d7:aA [("_law_p":Str),("_law_a":Str),("_law_e":Str)] [("_law_p":Str),("_law_a":Str),("_law_e":Str)] (ak (top 73)):=⟨rfl,rfl,rfl,by decide +kernel,rfl,by decide +kernel,by decide +kernel⟩
theorem pG (D:ax K mg "_law_has_order" (top 73)) (c__law_whole:Callee P w K mg base aO 1 "_law_whole" ["_law_thing"] (lg K)) (c__law_power:Callee P w K mg base aO 1 "_law_power" ["_law_n","_law_a","_law_e"] i9) (c__law_primes_of:Callee P w K mg base aO 1 "_law_primes_of" ["_law_n"] la) (n_any:mg "any"=none):Callee P w K mg base aO 2 "_law_has_order" [("_law_p":Str),("_law_a":Str),("_law_e":Str)] k8:=by
 refine aB D (fun _ _ _ _ _ _ us hl=>by obtain⟨_,_,_,rfl⟩:=dQ hl;exact rfl) d7 (fun vs H Q E h=>by obtain⟨_,_,_,rfl,_⟩:=h;rfl) (fun f cdv A outer s H vs Q E hr h=>?_)
 obtain⟨p,a,e,rfl,pm,p9,a1,a2,o,e9,q⟩:=h
 have nd:=d7.nd
 have p2:=pm.two
 refine⟨_,(ae (aP (PW.pt (dX (fj (bN (aj c__law_whole (hr.mono (by decide)) rfl aG (aa (pv 1) af)) (fun _=>rfl))) (dX (aw dR (pv 1) ah (az _)) (dX (aw Ag (pv 1) (pv 0) (az _)) (gZ (aw dS (aj c__law_power (hr.mono (by decide)) rfl aG (aa (pv 0) (aa (pv 1) (aa (pv 2) af)))) ah (az _))))))) (ai (aC jo)) aI) (ai (aC (wV (aH (vp rfl) rfl n_any L2.boot_any (aa (fO rfl (cJ (N':=["_law_q","_law_p","_law_a","_law_e"]) (js:=[none,some 0,some 1,some 2]) rfl rfl (by decide +kernel) (by decide +kernel) (by repeat (first | exact True.intro | refine⟨rfl,?_⟩)) (by repeat (first | exact True.intro | refine⟨rfl,?_⟩ | refine⟨True.intro,?_⟩)) (by repeat (first | exact True.intro | refine⟨⟨rfl,rfl,.inl rfl,.inl rfl⟩,?_⟩))) (cp (aj c__law_primes_of (hr.mono (by decide)) rfl aG (aa (pv 2) af))) (fun _ _ _ _=>(ay (i:=0) (show List.Nodup [("_law_q":Str),("_law_p":Str),("_law_a":Str),("_law_e":Str)] from by decide +kernel) rfl (Or.inl rfl) (.inr rfl))) (fun _ _ _ _=>bQ) (fun _ _ _ _=>(dh bO (aj c__law_power (hr.mono (by decide)) rfl aG (aa (pv 1) (aa (pv 2) (aa (av aU (pv 3) (pv 0)) af)))) ah (az _)))) af)))))),?_⟩
 show bz _ _ _ [some (.int p),some (.int a),some (.int (e:Int))] H
 k_data
 have e0:=o.pos
 have one:a^e%p=1:=by rw [Num.Al.iff.mp o.one,Int.emod_eq_of_lt (by decide) (by omega)]
 refine⟨a,rfl,true,rfl,?_⟩
 rw [if_neg (by decide),if_neg (by omega),if_neg (by omega)]
 refine⟨p,a,_,rfl,by omega,by omega,by omega,by omega,by omega,rfl,aR (fun c=>absurd (by rw [Int.toNat_natCast,one]) c) (fun _=>?_)⟩
 refine⟨_,rfl,by omega,by omega,fun ps l H1 hps lps s1 fl el=>⟨l,rfl,⟨_,aZ.of el⟩,?_⟩⟩
 refine bW (xs:=(ps.map (·.1)).map V.int) (fun i ys H'=>H'=H1∧ys=(List.replicate i false).map V.bl) ⟨rfl,rfl⟩ (by rw [List.length_map,List.length_map];exact Nat.le_trans lps (by decide)) (fun i ys H' hi h=>⟨aZ.of (h.1▸el),by rw [h.2];simp⟩) ?_ ?_
 ·rintro i v ys H2 hx ⟨rfl,rfl⟩
  rw [List.getElem?_map] at hx
  obtain⟨y0,hy0,rfl⟩:=Option.map_eq_some_iff.mp hx
  rw [List.getElem?_map] at hy0
  obtain⟨y,hy,rfl⟩:=Option.map_eq_some_iff.mp hy0
  have hym:=List.mem_of_getElem? hy
  obtain⟨yp,y1,_⟩:=hps.ok y hym
  have y2:=yp.two
  have yd:y.1∣(e:Int):=by rw [← hps.prod];exact Num.eJ hym y1
  have yd':y.1.toNat∣e:=by
   rw [← Int.toNat_of_nonneg (show 0≤y.1 by omega)] at yd
   exact Int.natCast_dvd_natCast.mp yd
  have yl:=Int.le_of_dvd (by omega) yd
  have nm:Num.Nm y.1.toNat:=⟨by omega,fun z z2 zl hz=>yp.no z (by omega) (by omega) (by
   rw [← Int.toNat_of_nonneg (show 0≤y.1 by omega)]
   exact Int.natCast_dvd_natCast.mpr hz)⟩
  have no:=o.DJ nm yd'
  have ee:((e:Int)/y.1).toNat=e/y.1.toNat:=by
   have:((e/y.1.toNat:Nat):Int)=(e:Int)/y.1:=by rw [Int.natCast_ediv,Int.toNat_of_nonneg (by omega)]
   rw [← this,Int.toNat_natCast]
  simp only [dc,List.map_cons,List.map_nil,Option.join]
  k_data
  refine⟨⟨rfl,rfl,rfl,True.intro⟩,_,rfl,_,rfl,_,rfl,_,rfl,by omega,Bd.of (by omega) (by omega),p,a,_,rfl,by omega,by omega,by omega,by omega,Int.ediv_nonneg (by omega) (by omega),rfl,rfl,?_⟩
  rw [ee]
  rw [show decide (V.int (a^(e/y.1.toNat)%p)=V.int 1)=false from decide_eq_false fun z=>no (Num.Al.iff.mpr (by rw [V.int.inj z,Int.emod_eq_of_lt (by decide) (by omega)])),List.replicate_succ',List.map_append]
  rfl
 ·rintro ys H2 pl ⟨rfl,rfl⟩ hpl
  refine AH (aZ.of ag) ⟨_,rfl,?_⟩
  have:(List.replicate ((ps.map (·.1)).map V.int).length false).any id=false:=by simp
  rw [this]
  exact q _ (s1.trans (ao hpl))
end
end K
namespace K
open PySem PySem.Spec PyProof.Rows L2
section
variable {P:Program} {w:World} {K:PySem.W.Frag} {mg:Str→Option Value} {base:Heap} {C:Addr}
def Dw (rs:List Int) (r t:Int):PyData:=.tuple [.list (rs.map PyData.int),yg r t]
theorem j9 {H:Hp}:∀{ns:List Int},aQ K H (ns.map PyData.int) (ns.map V.int)
 | []=>rfl
 | n::r=>⟨_,_,rfl,rfl,j9⟩
def kW (K:PySem.W.Frag):Sp:=fun vs H Q _=>∃(t l:Addr) (s:V) (p k a d r0 tn:Int) (rs:List Int),vs=[.ref t,.int p,.int k,.int a,.int d]∧bD K H t [.ref l,s]∧H l=some (.lst (rs.map V.int))∧dv K H (yg r0 tn) s∧Num.Pm p∧p≤10^9∧0<k∧k≤10^60∧mM p k a d rs∧d≤10^6∧rs[0]?=some r0∧0≤tn∧tn<p∧Num.Ord p tn d.toNat∧∀ H',aF H H'→Q (.bl true) H'
theorem dZ:aA [("_law_found":Str),("_law_p":Str),("_law_k":Str),("_law_a":Str),("_law_d":Str),("_law_last":Str),("_law_x":Str),("_law_shown":Str)] [("_law_found":Str),("_law_p":Str),("_law_k":Str),("_law_a":Str),("_law_d":Str)] (ak (top 74)):=⟨rfl,rfl,rfl,by decide +kernel,rfl,by decide +kernel,by decide +kernel⟩
theorem pE (D:ax K mg "_law_all_roots" (top 74)) (c__law_whole:Callee P w K mg base aO 1 "_law_whole" ["_law_thing"] (lg K)) (c__law_power:Callee P w K mg base aO 1 "_law_power" ["_law_n","_law_a","_law_e"] i9) (c__law_same:Callee P w K mg base aO 7 "_law_same" ["_law_found","_law_due"] (fu K 6)) (c__law_has_order:Callee P w K mg base aO 2 "_law_has_order" ["_law_p","_law_a","_law_e"] k8) (n_isinstance:mg "isinstance"=none) (n_tuple:mg "tuple"=none) (n_list:mg "list"=none) (n_len:mg "len"=none):Callee P w K mg base aO 8 "_law_all_roots" [("_law_found":Str),("_law_p":Str),("_law_k":Str),("_law_a":Str),("_law_d":Str)] (kW K):=by
 refine aB D (fun _ _ _ _ _ _ us hl=>by obtain⟨_,_,_,_,_,rfl⟩:=v8 hl;exact rfl) dZ (fun vs H Q E h=>by obtain⟨_,_,_,_,_,_,_,_,_,_,rfl,_⟩:=h;rfl) (fun f cdv A outer s' H vs Q E hr h=>?_)
 obtain⟨t,l,s,p,k,a,d,r0,tn,rs,rfl,hT,el,hs,pm,p9,k0,k1,RO,d6,er,t0,t1,ot,q⟩:=h
 have p2:=pm.two
 have nd:=dZ.nd
 refine⟨_,(ae (aP (PW.pt (dX (fj (bN (aH bw rfl n_isinstance PyProof.Rows.boot_isinstance (aa (pv 0) (aa (cn (v:=.ty "tuple") rfl n_tuple L2.boot_tuple rfl) af))) (fun _=>rfl))) (dX (aw dS (aH bC rfl n_len PySem.boot_len (aa (pv 0) af)) ah (az _)) (dX (fj (bN (aH bw rfl n_isinstance PyProof.Rows.boot_isinstance (aa (aV bB (pv 0) ah (fun _ _=>rfl)) (aa (cn (v:=.ty "list") rfl n_list L2.boot_list rfl) af))) (fun _=>rfl))) (gZ (aw dS (aH bC rfl n_len PySem.boot_len (aa (aV bB (pv 0) ah (fun _ _=>rfl)) af)) (pv 4) (az _))))))) (ai (aC jo)) aI) (ae (aq (i:=5) nd rfl (Or.inl rfl) (mf jc ah)) (ae (cV PassesOwn.never rfl (cp (aV bB (pv 0) ah (fun _ _=>rfl))) (ay (i:=6) nd rfl (Or.inl rfl) (.inr rfl)) (ae (aP (PW.pt (dX (fj (bN (aj c__law_whole (hr.mono (by decide)) rfl aG (aa (pv 6) af)) (fun _=>rfl))) (dX (aw wL (pv 6) (pv 5) (az _)) (dX (aw Ag (pv 6) (pv 1) (az _)) (gZ (aw dS (aj c__law_power (hr.mono (by decide)) rfl aG (aa (pv 1) (aa (pv 6) (aa (pv 2) af)))) (av aK (pv 3) (pv 1)) (az _))))))) (ai (aC jo)) aI) (ai (aq (i:=5) nd rfl (Or.inl rfl) (pv 6))))) (ae (aq (i:=7) nd rfl (Or.inl rfl) (aV bB (pv 0) ah (fun _ _=>rfl))) (ae (aP (PW.pt (dX (fj (bN (aH bw rfl n_isinstance PyProof.Rows.boot_isinstance (aa (pv 7) (aa (cn (v:=.ty "tuple") rfl n_tuple L2.boot_tuple rfl) af))) (fun _=>rfl))) (dX (aw dS (aH bC rfl n_len PySem.boot_len (aa (pv 7) af)) ah (az _)) (gZ (fj (bN (aj c__law_same (hr.mono (by decide)) rfl aG (aa (iA By (pv 7) jS (gu ah)) (aa (aM (aa bM (aa (aV iu (aV bB (pv 0) ah (fun _ _=>rfl)) ah (fun _ _=>rfl)) af))) af))) (fun _=>rfl))))))) (ai (aC jo)) aI) (ai (aC (aj c__law_has_order (hr.mono (by decide)) rfl aG (aa (pv 1) (aa (aV bB (pv 7) ah (fun _ _=>rfl)) (aa (pv 4) af))))))))))),?_⟩
 show bz _ _ _ [some (.ref t),some (.int p),some (.int k),some (.int a),some (.int d),none,none,none] H
 obtain⟨ps,x1,x2,x3,rfl,hTs,h1,h2,h3⟩:=qK hs
 cases h1
 cases h2
 cases h3
 have hL:dv K H (.list (rs.map PyData.int)) (.ref l):=dv.lst el j9
 have hD:dv K H (Dw rs r0 tn) (.ref t):=⟨t,_,rfl,hT,_,_,rfl,hL,.one hs⟩
 k_data
 refine cE hD ⟨true,rfl,?_⟩
 rw [if_neg (by decide)]
 refine ix hT ⟨rfl,?_⟩
 rw [if_neg (by simp)]
 refine cf hT lu (cX hL ⟨true,rfl,?_⟩)
 rw [if_neg (by decide)]
 refine cf hT lu (df (aZ.of el) ⟨rfl,?_⟩)
 rw [List.length_map,RO.len,if_neg (by simp)]
 refine cf hT lu ⟨l,rfl,⟨_,aZ.of el⟩,?_⟩
 have key:∀(i j:Nat) x y,i<j→rs[i]?=some x→rs[j]?=some y→x<y:=fun i j x y hij hx hy=>by
  obtain⟨h1,rfl⟩:=List.getElem?_eq_some_iff.mp hx
  obtain⟨h2,rfl⟩:=List.getElem?_eq_some_iff.mp hy
  exact List.pairwise_iff_getElem.mp RO.rise i j h1 h2 hij
 refine eO (xs:=rs.map V.int) (fun i σ' H'=>(∃ last o6,σ'=[some (.ref t),some (.int p),some (.int k),some (.int a),some (.int d),some (.int last),o6,none]∧∀(j:Nat) x,i≤j→rs[j]?=some x→last<x)∧H'=H) ⟨⟨-1,_,rfl,fun j x _ hx=>by have:=(RO.ok x (List.mem_of_getElem? hx)).1;omega⟩,rfl⟩ (fun i σ' H' _ h=>aZ.of (h.2▸el)) ?_ ?_
 ·rintro i v σ' H' hx ⟨⟨last,o6,rfl,hl⟩,rfl⟩
  rw [List.getElem?_map] at hx
  obtain⟨x,hx',rfl⟩:=Option.map_eq_some_iff.mp hx
  obtain⟨x0,x1,xa⟩:=RO.ok x (List.mem_of_getElem? hx')
  have lx:=hl i x (Nat.le_refl _) hx'
  k_data
  refine⟨x,rfl,true,rfl,?_⟩
  rw [if_neg (by decide),if_neg (by omega),if_neg (by omega)]
  refine⟨p,x,k,rfl,by omega,by omega,by omega,by omega,by omega,by omega,rfl,aR (fun c=>absurd (by rw [Num.Al.iff.mp xa]) c) (fun _=>?_)⟩
  exact⟨fun j y hj hy=>key i j x y (by omega) hx' hy,rfl⟩
 ·rintro σ' H' ⟨⟨last,o6,rfl,hl⟩,rfl⟩
  k_data
  refine cf hT rfl (cE hs ⟨true,rfl,?_⟩)
  rw [if_neg (by decide)]
  refine ix hTs ⟨rfl,?_⟩
  rw [if_neg (by simp)]
  refine⟨ps,_,rfl,hTs,fun z=>absurd (show HT.cP 3 3 (some 2)=3 from z.2) (by decide),fun pq hpq=>?_⟩
  have s1:=ao (o:=.tup (gB [V.str "turned",V.int r0,V.int tn] none (some 2))) hpq
  have e1:upd H' pq (.tup (gB [V.str "turned",V.int r0,V.int tn] none (some 2))) pq=some (.tup [V.str "turned",V.int r0]):=ag
  generalize upd H' pq (.tup (gB [V.str "turned",V.int r0,V.int tn] none (some 2)))=H1 at *
  refine cf (hT.same s1) lu (v5 (aZ.of (s1 _ _ el)) (Int.le_refl 0) (v:=.int r0) (by show (List.map V.int rs)[0]?=_;rw [List.getElem?_map,er];rfl) ⟨by show 2≤sizeLine;decide,fun pr hpr=>?_⟩)
  have s2:=ao (o:=.tup [V.str "turned",V.int r0]) hpr
  refine⟨.ref pq,.ref pr,.tuple [.str "turned",.int r0],rfl,⟨pq,_,rfl,bD.of (s2 _ _ e1),_,_,rfl,rfl,.one rfl⟩,⟨pr,_,rfl,bD.of ag,_,_,rfl,rfl,.one rfl⟩,by simp [sT,yq],fun H2 s3=>⟨true,rfl,?_⟩⟩
  rw [if_neg (by decide)]
  have S2:=(s1.trans s2).trans s3
  have d0:0≤d:=by have:=RO.len;omega
  have tn1:tn≠0:=fun z=>pm.unit ot.co (by rw [z];exact Int.dvd_zero p)
  exact cf (hTs.same S2) rfl ⟨p,tn,d.toNat,by rw [Int.toNat_of_nonneg d0],pm,p9,by omega,t1,ot,by omega,fun H3 s4=>q H3 (S2.trans s4)⟩
def tj (K:PySem.W.Frag):Sp:=fun vs H Q _=>∃(v:V) (p g k a:Int) (rows:PyData),vs=[v,.int k,.int a]∧dv K H (.tuple [.int p,.int g,rows]) v∧Num.iV p (.tuple [.int p,.int g,rows])∧0<k∧k≤10^50 ∧ -(10^60)≤a∧a≤10^60∧gc k p≤400∧∀ H',aF H H'→Q (.bl true) H'
theorem iD:aA [("_law_paper":Str),("_law_k":Str),("_law_a":Str),("_law_p":Str),("_law_d":Str),("_law_found":Str),("_law_rest":Str)] [("_law_paper":Str),("_law_k":Str),("_law_a":Str)] (ak (top 75)):=⟨rfl,rfl,rfl,by decide +kernel,rfl,by decide +kernel,by decide +kernel⟩
theorem wu {CM:Addr} (D:ax K mg "_law_good" (top 75)) (c__law_common:Callee P w K mg base aO 1 "_law_common" ["_law_one","_law_other"] iJ) (c_roots:Callee P w K mg base (c6 P w) 17 "roots" ["paper","k","a"] (tF K CM 400)) (c__law_same:Callee P w K mg base aO 7 "_law_same" ["_law_found","_law_due"] (fu K 6)) (c__law_power:Callee P w K mg base aO 1 "_law_power" ["_law_n","_law_a","_law_e"] i9) (c__law_all_roots:Callee P w K mg base aO 8 "_law_all_roots" ["_law_found","_law_p","_law_k","_law_a","_law_d"] (kW K)):Callee P w K mg base aO 18 "_law_good" [("_law_paper":Str),("_law_k":Str),("_law_a":Str)] (tj K):=by
 refine aB D (fun _ _ _ _ _ _ us hl=>by obtain⟨_,_,_,rfl⟩:=dQ hl;exact rfl) iD (fun vs H Q E h=>by obtain⟨_,_,_,_,_,_,rfl,_⟩:=h;rfl) (fun f cdv A outer s' H vs Q E hr h=>?_)
 obtain⟨v,p,g,k,a,rows,rfl,hd,pap,k0,k1,a0,a1,g4,q⟩:=h
 obtain⟨pm,p9⟩:=iz pap
 have p2:=pm.two
 have nd:=iD.nd
 refine⟨_,(ae (aq (i:=3) nd rfl (Or.inl rfl) (aV bB (pv 0) ah (fun _ _=>rfl))) (ae (aq (i:=4) nd rfl (Or.inl rfl) (aj c__law_common (hr.mono (by decide)) rfl aG (aa (pv 1) (aa (av bY (pv 3) ah) af)))) (ae (aq (i:=5) nd rfl (Or.inl rfl) (aj c_roots (hr.mono (by decide)) rfl aJ (aa (pv 0) (aa (pv 1) (aa (pv 2) af))))) (ae (aP (aw bO (av aK (pv 2) (pv 3)) ah (az _)) (ai (aC (aj c__law_same (hr.mono (by decide)) rfl aG (aa (pv 5) (aa (aM (aa (dG (aa ah af)) (aa (aM (aa bM af)) af))) af))))) aI) (ae (aq (i:=6) nd rfl (Or.inl rfl) (aj c__law_power (hr.mono (by decide)) rfl aG (aa (pv 3) (aa (pv 2) (aa (av aU (av bY (pv 3) ah) (pv 4)) af))))) (ae (aP (aw dS (pv 6) ah (az _)) (ai (aC (aj c__law_same (hr.mono (by decide)) rfl aG (aa (pv 5) (aa (aM (aa (dG af) (aa (aM (aa bM (aa (av aU (av bY (pv 3) ah) (pv 4)) (aa (pv 6) af)))) af))) af))))) aI) (ai (aC (aj c__law_all_roots (hr.mono (by decide)) rfl aG (aa (pv 5) (aa (pv 3) (aa (pv 1) (aa (pv 2) (aa (pv 4) af)))))))))))))),?_⟩
 show bz _ _ _ [some v,some (.int k),some (.int a),none,none,none,none] H
 obtain⟨pp,y1,y2,vr,rfl,tS,e0,eg,dr⟩:=qK (id hd)
 cases e0
 cases eg
 k_data
 have dgc:∀ d,Dg p k d→d=(gc k p:Nat):=fun d D=>AM D (by omega) k0
 have lstD:∀{H':Hp} {t l:Addr} {s:V} {ns:List Int} {d:PyData},bD K H' t [.ref l,s]→H' l=some (.lst (ns.map V.int))→dv K H' d s→dv K H' (.tuple [.list (ns.map PyData.int),d]) (.ref t):=fun hT el hs=>⟨_,_,rfl,hT,_,_,rfl,dv.lst el j9,.one hs⟩
 refine cf tS lu ⟨p,rfl,rM (by omega) (by omega) ⟨.ref pp,p,g,k,a,rows,rfl,hd,pap,k0,by omega,fun pa t l s H1 s1 fl hT el hs=>⟨p,rfl,by omega,aR (fun c=>⟨by decide,fun l2 hl2=>⟨by decide,fun sn hsn=>⟨by show 2≤sizeLine;decide,fun t2 ht2=>?_⟩⟩⟩) (fun c=>absurd (Int.emod_eq_zero_of_dvd pa) c)⟩,fun na d D=>?_⟩⟩
 ·have s2:=ao (o:=.lst [V.int 0]) hl2
  have s3:=ao (o:=.tup [V.str "nought"]) hsn
  have s4:=ao (o:=.tup [V.ref l2,V.ref sn]) ht2
  have S4:=(s2.trans s3).trans s4
  exact⟨.ref t,.ref t2,.tuple [.list ([0].map PyData.int),.tuple [.str "nought"]],rfl,dv.same S4 _ (lstD hT el hs),lstD (ns:=[0]) (bD.of ag) (s4 _ _ (s3 _ _ ag)) ⟨sn,_,rfl,bD.of (s4 _ _ ag),.one rfl⟩,by simp [sT,yq],fun H' s'=>q H' ((s1.trans S4).trans s')⟩
 cases dgc d D
 have d0:=D.pos k0
 have hd1:((gc k p:Nat):Int)≤p-1:=by obtain⟨u,v,B⟩:=id D;exact Int.le_of_dvd (by omega) B.db
 have e0:=Int.ediv_nonneg (show 0≤p-1 by omega) (show 0≤((gc k p:Nat):Int) by omega)
 have pw:∀{H':Hp} {Q':VK},Q' (.int (a^((p-1)/((gc k p:Nat):Int)).toNat%p)) H'→i9 [.int p,.int a,.int ((p-1)/((gc k p:Nat):Int))] H' Q' E0:=fun h=>⟨p,a,_,rfl,by omega,by omega,by omega,by omega,e0,h⟩
 have c':¬a%p=0:=fun z=>na (Int.dvd_of_emod_eq_zero z)
 refine⟨fun nal t l s H1 s1 fl hT el hs=>⟨p,rfl,by omega,aR (fun c=>absurd c c') (fun c=>⟨p,rfl,_,rfl,d0,Bd.of (by omega) (by omega),pw ⟨rfl,aR (fun c2=>?_) (fun c2=>?_)⟩⟩)⟩,fun al=>⟨fun c4=>absurd c4 (by omega),fun c4=>⟨c4,fun rs r0 tn t l s H1 RO er t0 t1 ot s1 fl hT el hs=>⟨p,rfl,by omega,aR (fun c=>absurd c c') (fun c=>⟨p,rfl,_,rfl,d0,Bd.of (by omega) (by omega),pw ⟨rfl,aR (fun c2=>?_) (fun c2=>?_)⟩⟩)⟩⟩⟩⟩
 ·refine⟨by decide,fun l2 hl2=>⟨p,rfl,_,rfl,d0,Bd.of (by omega) (by omega),by show 3≤sizeLine;decide,fun sn hsn=>⟨by show 2≤sizeLine;decide,fun t2 ht2=>?_⟩⟩⟩
  have s2:=ao (o:=.lst []) hl2
  have s3:=ao (o:=.tup [V.str "none",V.int ((p-1)/((gc k p:Nat):Int)),V.int (a^((p-1)/((gc k p:Nat):Int)).toNat%p)]) hsn
  have s4:=ao (o:=.tup [V.ref l2,V.ref sn]) ht2
  have S4:=(s2.trans s3).trans s4
  exact⟨.ref t,.ref t2,.tuple [.list ([].map PyData.int),su _ _],rfl,dv.same S4 _ (lstD (ns:=[]) hT el hs),lstD (ns:=[]) (bD.of ag) (s4 _ _ (s3 _ _ ag)) ⟨sn,_,rfl,bD.of (s4 _ _ ag),_,_,rfl,rfl,_,_,rfl,rfl,.one rfl⟩,by simp [su,sT,yq],fun H' s'=>q H' ((s1.trans S4).trans s')⟩
 ·refine absurd (Num.Al.iff.mpr ?_) nal
  rw [show a^((p-1)/((gc k p:Nat):Int)).toNat%p=1 from V.int.inj (by simpa using c2),Int.emod_eq_of_lt (by decide) (by omega)]
 ·refine absurd ?_ c2
  rw [Num.Al.iff.mp al,Int.emod_eq_of_lt (by decide) (by omega)]
 ·exact⟨t,l,s,p,k,a,_,r0,tn,rs,rfl,hT,el,hs,pm,p9,k0,by omega,RO,by omega,er,t0,t1,ot,fun H' s'=>q H' (s1.trans s')⟩
def CZ (K:PySem.W.Frag) (t0:Addr) (p g:Int) (rows:PyData) (v:V) (n:Nat) (H:Hp):Prop:=Tp t0 n H∧dv K H (.tuple [.int p,.int g,rows]) v
theorem xE:aA [("_law_script":Str),("_law_tape_here":Str),("_law_p":Str),("_law_paper":Str),("_law_k":Str),("_law_turn":Str),("_law_a":Str)] [("_law_script":Str)] (ak (top 76)):=⟨rfl,rfl,rfl,by decide +kernel,rfl,by decide +kernel,by decide +kernel⟩
theorem Be {fl:Addr} {fdl:FuncData} (F:vg K "law" "law" (top 76) fl fdl) (c__law_tape:Callee P w K mg base aO 1 "_law_tape" ["_law_script"] (xO K)) (c__law_draw:Callee P w K mg base aO 1 "_law_draw" ["_law_tape_here","_law_many"] kZ) (c__law_any_prime:Callee P w K mg base aO 3 "_law_any_prime" ["_law_tape_here"] kX) (c_prime_paper:Callee P w K mg base (c6 P w) 67 "prime_paper" ["n"] (qc K)) (c__law_small_k:Callee P w K mg base aO 2 "_law_small_k" ["_law_tape_here","_law_p"] qf) (c__law_far:Callee P w K mg base aO 2 "_law_far" ["_law_tape_here","_law_many"] rC) (c__law_power:Callee P w K mg base aO 1 "_law_power" ["_law_n","_law_a","_law_e"] i9) (c__law_good:Callee P w K mg base aO 18 "_law_good" ["_law_paper","_law_k","_law_a"] (tj K)) (n_range:mg "range"=none):cS P w K mg base aO 68 fl fdl [("_law_script":Str)] (Am K):=by
 refine yJ F xE (fun vs H Q E h=>by obtain⟨a,b,rfl,_⟩:=h;rfl) (fun cdv A outer s H vs Q E hr h=>?_)
 obtain⟨sc,ns,rfl,hS,h63,q⟩:=h
 have nd:=xE.nd
 refine⟨_,(ae (aq (i:=1) nd rfl (Or.inl rfl) (aj c__law_tape (hr.mono (by decide)) rfl aG (aa (pv 0) af))) (ae (aq (i:=2) nd rfl (Or.inl rfl) (aj c__law_any_prime (hr.mono (by decide)) rfl aG (aa (pv 1) af))) (ae (aq (i:=3) nd rfl (Or.inl rfl) (aj c_prime_paper (hr.mono (by decide)) rfl aJ (aa (pv 2) af))) (ae (aq (i:=4) nd rfl (Or.inl rfl) (aj c__law_small_k (hr.mono (by decide)) rfl aG (aa (pv 1) (aa (pv 2) af)))) (ae (cV PassesOwn.never rfl (eR rfl n_range (aa ah af)) (ay (i:=5) nd rfl (Or.inl rfl) (.inr rfl)) (ae (aq (i:=6) nd rfl (Or.inl rfl) (aj c__law_far (hr.mono (by decide)) rfl aG (aa (pv 1) (aa (pv 2) af)))) (ae (c8 (aP (aw cw (aj c__law_draw (hr.mono (by decide)) rfl aG (aa (pv 1) (aa ah af))) ah (az _)) (ai (aq (i:=6) nd rfl (Or.inl rfl) (aj c__law_power (hr.mono (by decide)) rfl aG (aa (pv 2) (aa (pv 6) (aa (pv 4) af)))))) aI)) (ae (c8 (aP (aw bO (pv 5) ah (az _)) (ai (aq (i:=6) nd rfl (Or.inl rfl) (av bY (pv 6) (av aL (pv 2) (av bI ah (aj c__law_draw (hr.mono (by decide)) rfl aG (aa (pv 1) (aa ah af)))))))) aI)) (ai (aP (fj (bN (aj c__law_good (hr.mono (by decide)) rfl aG (aa (pv 3) (aa (pv 4) (aa (pv 6) af)))) (fun _=>rfl))) (ai (aC jo)) aI)))))) (ai (aC jo))))))),?_⟩
 show bz _ _ _ [some (.ref sc),none,none,none,none,none,none] H
 k_data
 refine⟨sc,ns,rfl,hS,h63,fun t0 H1 s1 f1 tp1=>⟨t0,0,rfl,tp1,by decide,fun p H2 pm p9 o2 tp2=>⟨p,rfl,pm,p9,fun d v H3 pap s3 hv=>?_⟩⟩⟩
 have p2:=pm.two
 have nl:=zo pap
 obtain⟨g,ps,ds,rfl,hg,hP,hl29,hds⟩:=jQ pap
 generalize hrows:PyData.tuple (Num.rowsOf ps ds)=rows at *
 refine⟨t0,_,p,rfl,tp2.same s3,by decide,p2,p9,fun k H4 k1 k2 k4 o4 t4=>?_⟩
 have hv4:=(tp2.same s3).Cc o4.Cq nl hv
 refine dF (fun i σ' H'=>(∃ o5 o6,σ'=[some (.ref sc),some (.ref t0),some (.int p),some v,some (.int k),o5,o6])∧CZ K t0 p g rows v (6+4*i) H') ⟨⟨_,_,rfl⟩,t4,hv4⟩ ?_ ?_
 ·rintro i σ' H5 hi ⟨⟨o5,o6,rfl⟩,t5,hv5⟩
  have hi3:i<3:=by simpa using hi
  k_data
  refine⟨t0,p,_,rfl,t5,by omega,by omega,fun r6 H6 r60 r61 o6 t6=>?_⟩
  have hv6:=t5.Cc o6.Cq nl hv5
  refine⟨fun σ' H'=>∃ a:Int,σ'=[some (.ref sc),some (.ref t0),some (.int p),some v,some (.int k),some (.int (i:Int)),some (.int a)]∧0≤a∧a<p∧CZ K t0 p g rows v (9+4*i) H',?_,?_⟩
  ·k_data
   refine⟨t0,4,_,rfl,t6,by omega,by decide,by decide,fun r7 H7 r70 r71 o7 t7=>⟨_,rfl,aR (fun c=>?_) (fun c=>⟨r60,r61,t7.more (by omega),t6.Cc o7.Cq nl hv6⟩)⟩⟩
   exact⟨p,r6,k,rfl,by omega,by omega,by omega,by omega,by omega,_,rfl,Int.emod_nonneg _ (by omega),Int.emod_lt_of_pos _ (by omega),t7.more (by omega),t6.Cc o7.Cq nl hv6⟩
  rintro σ' H7 ⟨a,rfl,a0,a1,t7,hv7⟩
  k_data
  refine⟨fun σ' H'=>∃ a:Int,σ'=[some (.ref sc),some (.ref t0),some (.int p),some v,some (.int k),some (.int (i:Int)),some (.int a)] ∧ -(10^60)≤a∧a≤10^60∧CZ K t0 p g rows v (10+4*i) H',?_,?_⟩
  ·k_data
   refine aR (fun c=>?_) (fun c=>⟨by omega,by omega,t7.more (by omega),hv7⟩)
   refine⟨t0,1000,_,rfl,t7,by omega,by decide,by decide,fun r8 H8 r80 r81 o8 t8=>⟨_,rfl,Bd.of (by omega) (by omega),Bd.of (by omega) (by omega),?_,?_,t8.more (by omega),t7.Cc o8.Cq nl hv7⟩⟩
   ·have h1:p*(1+r8)≤10^9*1000:=Int.mul_le_mul p9 (by omega) (by omega) (by decide)
    omega
   ·have h2:0≤p*(1+r8):=Int.mul_nonneg (by omega) (by omega)
    omega
  rintro σ' H8 ⟨a,rfl,a0,a1,t8,hv8⟩
  k_data
  refine⟨v,p,g,k,a,rows,rfl,hv8,pap,by omega,by omega,a0,a1,k4,fun H9 s9=>⟨true,rfl,?_⟩⟩
  rw [if_neg (by decide)]
  exact⟨(t8.same s9).more (by omega),dv.same s9 _ hv8⟩
 ·rintro σ' H5 ⟨⟨o5,o6,rfl⟩,t5,hv5⟩
  k_data
  exact q H5
end
end K
namespace PySem.W.Fast
theorem tw3365576705737686803:True:=⟨⟩
theorem tw10599015617421364288:True:=⟨⟩
theorem tw7650296277283499296:True:=⟨⟩
theorem tw11379555916608419136:True:=⟨⟩
theorem tw15291219127502626112:True:=⟨⟩
theorem tw640685299842730432:True:=⟨⟩
theorem tw12324878110633885248:True:=⟨⟩
theorem tw656534791975726688:True:=⟨⟩
theorem tw16796677601280588416:True:=⟨⟩
theorem tw18255356073395235520:True:=⟨⟩
theorem tw7274033093818825825:True:=⟨⟩
theorem tw16823375173124559105:True:=⟨⟩
theorem tw17593170407512545761:True:=⟨⟩
theorem tw10139484913256390113:True:=⟨⟩
theorem tw6927857018554779137:True:=⟨⟩
theorem tw11903561478202206785:True:=⟨⟩
theorem tw16149390149470485057:True:=⟨⟩
theorem tw12836668468529662561:True:=⟨⟩
theorem tw6253523741101235809:True:=⟨⟩
theorem tw3274063677374912289:True:=⟨⟩
theorem tw4141248134122552482:True:=⟨⟩
theorem tw9514942701773617442:True:=⟨⟩
theorem tw10850108557273101634:True:=⟨⟩
theorem tw15388896996566838754:True:=⟨⟩
theorem tw17506952819364637314:True:=⟨⟩
theorem tw13225613238410550210:True:=⟨⟩
theorem tw5775500926399238114:True:=⟨⟩
theorem tw10910984619650769091:True:=⟨⟩
theorem tw10586329599290029347:True:=⟨⟩
theorem tw248749597783258403:True:=⟨⟩
theorem tw9459847534758623523:True:=⟨⟩
theorem tw8626576653947778371:True:=⟨⟩
theorem tw1012511823864257219:True:=⟨⟩
theorem tw17418545769902359331:True:=⟨⟩
theorem tw16834625697152859075:True:=⟨⟩
theorem tw4727945959087076452:True:=⟨⟩
theorem tw5578740838120182948:True:=⟨⟩
theorem tw17861370993211785412:True:=⟨⟩
theorem tw7464892281220679940:True:=⟨⟩
theorem tw12694231604930230596:True:=⟨⟩
theorem tw10011294628346385796:True:=⟨⟩
theorem tw4986915820549679588:True:=⟨⟩
theorem tw6165262754588787204:True:=⟨⟩
theorem tw13208186303284909636:True:=⟨⟩
theorem tw367544251274596996:True:=⟨⟩
theorem tw16510956791268004644:True:=⟨⟩
theorem tw12230611825707999108:True:=⟨⟩
theorem tw1912150085361190820:True:=⟨⟩
theorem tw10854401976352605156:True:=⟨⟩
theorem tw14340321600192345060:True:=⟨⟩
theorem tw13046242216589990021:True:=⟨⟩
theorem tw4796231835563357413:True:=⟨⟩
theorem tw1780919819877061893:True:=⟨⟩
theorem tw10782430650261789989:True:=⟨⟩
theorem tw15205659684814942597:True:=⟨⟩
theorem tw11896806332717656549:True:=⟨⟩
theorem tw5377014914017224229:True:=⟨⟩
theorem tw4878973937688278725:True:=⟨⟩
theorem tw9431209279767256837:True:=⟨⟩
theorem tw11440217255682958117:True:=⟨⟩
theorem tw9532595470948767589:True:=⟨⟩
theorem tw2493866573124972421:True:=⟨⟩
theorem tw15836779450028347494:True:=⟨⟩
theorem tw3640925013250283718:True:=⟨⟩
theorem tw13644118762557287622:True:=⟨⟩
theorem tw1800831713220461798:True:=⟨⟩
theorem tw13704841038417146182:True:=⟨⟩
theorem tw8071545223893081127:True:=⟨⟩
theorem tw10747776102120602695:True:=⟨⟩
theorem tw13994032745079922759:True:=⟨⟩
theorem tw15438664310545482855:True:=⟨⟩
theorem tw8422710366562749799:True:=⟨⟩
theorem tw3838809270900276807:True:=⟨⟩
theorem tw3512909716582685447:True:=⟨⟩
theorem tw1082350068286173991:True:=⟨⟩
theorem tw14785592473682380647:True:=⟨⟩
theorem tw15698007070301945000:True:=⟨⟩
theorem tw5229328065197000168:True:=⟨⟩
theorem tw9120422226223853096:True:=⟨⟩
theorem tw8069000211064669896:True:=⟨⟩
theorem tw1627424572808064872:True:=⟨⟩
theorem tw14724920459499983816:True:=⟨⟩
theorem tw16483382270629746825:True:=⟨⟩
theorem tw4105817214240120105:True:=⟨⟩
theorem tw7311259048556538281:True:=⟨⟩
theorem tw14721615100364309993:True:=⟨⟩
theorem tw2630419354542232041:True:=⟨⟩
theorem tw10117082654931177993:True:=⟨⟩
theorem tw9934135751087822377:True:=⟨⟩
theorem tw9148697012923523657:True:=⟨⟩
theorem tw14638371818570069833:True:=⟨⟩
theorem tw18099612283611597705:True:=⟨⟩
theorem tw17743430193978299273:True:=⟨⟩
theorem tw561806773570985066:True:=⟨⟩
theorem tw14321212570834474442:True:=⟨⟩
theorem tw2212100956056759754:True:=⟨⟩
theorem tw17076713097490773706:True:=⟨⟩
theorem tw14460167543636559594:True:=⟨⟩
theorem tw14148961396671851242:True:=⟨⟩
theorem tw17589786975017147242:True:=⟨⟩
theorem tw14229039180809032618:True:=⟨⟩
theorem tw17255228700486965323:True:=⟨⟩
theorem tw8209997355784943851:True:=⟨⟩
theorem tw11137512779985373419:True:=⟨⟩
theorem tw17131255099704513963:True:=⟨⟩
theorem tw18442874876342886827:True:=⟨⟩
theorem tw7790166037149307339:True:=⟨⟩
theorem tw15207134542460265963:True:=⟨⟩
theorem tw14723944060309273515:True:=⟨⟩
theorem tw17547942406778163276:True:=⟨⟩
theorem tw2947151093024493644:True:=⟨⟩
theorem tw14082103415006035020:True:=⟨⟩
theorem tw318728811474754668:True:=⟨⟩
theorem tw6571128177883772012:True:=⟨⟩
theorem tw8916608813123776684:True:=⟨⟩
theorem tw8725039095150663852:True:=⟨⟩
theorem tw14017993625014168748:True:=⟨⟩
theorem tw9811284720547111116:True:=⟨⟩
theorem tw10880703091739027660:True:=⟨⟩
theorem tw11627289912388925676:True:=⟨⟩
theorem tw11689823515082740140:True:=⟨⟩
theorem tw16008242182168444364:True:=⟨⟩
theorem tw8699016163252593164:True:=⟨⟩
theorem tw10194671929650698828:True:=⟨⟩
theorem tw14196143956310875788:True:=⟨⟩
theorem tw8774884702230016652:True:=⟨⟩
theorem tw3668191770081817260:True:=⟨⟩
theorem tw8451625686225973996:True:=⟨⟩
theorem tw14046250016945243916:True:=⟨⟩
theorem tw1244957528164388716:True:=⟨⟩
theorem tw16429370149380185036:True:=⟨⟩
theorem tw1352853336595079213:True:=⟨⟩
theorem tw8551764233499053197:True:=⟨⟩
theorem tw7993529961879096685:True:=⟨⟩
theorem tw5256191401213097325:True:=⟨⟩
theorem tw2571944451666301453:True:=⟨⟩
theorem tw3952201459120030253:True:=⟨⟩
theorem tw11547208694303323693:True:=⟨⟩
theorem tw7400101480438320749:True:=⟨⟩
theorem tw10933844452250533517:True:=⟨⟩
theorem tw6190341012380889997:True:=⟨⟩
theorem tw8471873416661235758:True:=⟨⟩
theorem tw14975606132728884398:True:=⟨⟩
theorem tw1169027882578171118:True:=⟨⟩
theorem tw10550521727584241230:True:=⟨⟩
theorem tw3310584833412584014:True:=⟨⟩
theorem tw3620334540978840142:True:=⟨⟩
theorem tw4936878794673104590:True:=⟨⟩
theorem tw9945320289925832430:True:=⟨⟩
theorem tw15626449348616114094:True:=⟨⟩
theorem tw2248937809916773326:True:=⟨⟩
theorem tw14734275513317654671:True:=⟨⟩
theorem tw2879975506404305071:True:=⟨⟩
theorem tw17539498926302598543:True:=⟨⟩
theorem tw7311290374935585327:True:=⟨⟩
theorem tw17813541820087157327:True:=⟨⟩
theorem tw1483547848303079119:True:=⟨⟩
theorem tw6485083796233361135:True:=⟨⟩
theorem tw16910187831053774735:True:=⟨⟩
theorem tw15542466420595393552:True:=⟨⟩
theorem tw5283922299391951920:True:=⟨⟩
theorem tw5190771221209086288:True:=⟨⟩
theorem tw11865094684985890288:True:=⟨⟩
theorem tw5335726424307421680:True:=⟨⟩
theorem tw1437959283611239952:True:=⟨⟩
theorem tw11340172488797049520:True:=⟨⟩
theorem tw9815898451865003728:True:=⟨⟩
theorem tw5828678195911795857:True:=⟨⟩
theorem tw3471690175024722193:True:=⟨⟩
theorem tw1225514276739583281:True:=⟨⟩
theorem tw17322518117286772049:True:=⟨⟩
theorem tw8425112661260380529:True:=⟨⟩
theorem tw216058661516329329:True:=⟨⟩
theorem tw2512791105259932049:True:=⟨⟩
theorem tw8300042662245087633:True:=⟨⟩
theorem tw7280071210847124881:True:=⟨⟩
theorem tw1870856078251559441:True:=⟨⟩
theorem tw8832693321479206417:True:=⟨⟩
theorem tw17000629076697945681:True:=⟨⟩
theorem tw8184506857173883473:True:=⟨⟩
theorem tw2208075849057968753:True:=⟨⟩
theorem tw8446910410885949233:True:=⟨⟩
theorem tw14922914130399094609:True:=⟨⟩
theorem tw12113940032193423249:True:=⟨⟩
theorem tw15311558773644003313:True:=⟨⟩
theorem tw7647077442058738834:True:=⟨⟩
theorem tw1922730400770166034:True:=⟨⟩
theorem tw14163160289429078322:True:=⟨⟩
theorem tw2354151324394589586:True:=⟨⟩
theorem tw12184563904819126706:True:=⟨⟩
theorem tw3812026916380452306:True:=⟨⟩
theorem tw11202262465472396818:True:=⟨⟩
theorem tw10255846484209170002:True:=⟨⟩
theorem tw10831180898691510898:True:=⟨⟩
theorem tw15831636822895241906:True:=⟨⟩
theorem tw10054844200466673362:True:=⟨⟩
theorem tw13185773880618852178:True:=⟨⟩
theorem tw13097772693326502067:True:=⟨⟩
theorem tw6152836057906193619:True:=⟨⟩
theorem tw3576532047858644211:True:=⟨⟩
theorem tw10197495360672159987:True:=⟨⟩
theorem tw395003294313415987:True:=⟨⟩
theorem tw8882022517058378035:True:=⟨⟩
theorem tw10760135870106613267:True:=⟨⟩
theorem tw4808680544629058291:True:=⟨⟩
theorem tw8233921272616551219:True:=⟨⟩
theorem tw9625203402436150227:True:=⟨⟩
theorem tw18218156237277872340:True:=⟨⟩
theorem tw331917397009157428:True:=⟨⟩
theorem tw12010283030641740116:True:=⟨⟩
theorem tw5803814379769908660:True:=⟨⟩
theorem tw1176725847694748180:True:=⟨⟩
theorem tw6561539337527890516:True:=⟨⟩
theorem tw17216487892578685524:True:=⟨⟩
theorem tw1775660344170539828:True:=⟨⟩
theorem tw16447818063591698324:True:=⟨⟩
theorem tw10528457739388994484:True:=⟨⟩
theorem tw5808163435330863060:True:=⟨⟩
theorem tw14636170914765655028:True:=⟨⟩
theorem tw13283590944536103989:True:=⟨⟩
theorem tw13614365955641665589:True:=⟨⟩
theorem tw16370933027629445205:True:=⟨⟩
theorem tw2030409955566828629:True:=⟨⟩
theorem tw10662750544493692021:True:=⟨⟩
theorem tw4377421189399973301:True:=⟨⟩
theorem tw13288527533120439733:True:=⟨⟩
theorem tw16245976911653833269:True:=⟨⟩
theorem tw12073660397730646677:True:=⟨⟩
theorem tw9832382662949628725:True:=⟨⟩
theorem tw13153976158158289813:True:=⟨⟩
theorem tw5113872345467418742:True:=⟨⟩
theorem tw13280092828150497462:True:=⟨⟩
theorem tw2670169931418956054:True:=⟨⟩
theorem tw4421586585329692150:True:=⟨⟩
theorem tw3905575082945561142:True:=⟨⟩
theorem tw18088542612399494806:True:=⟨⟩
theorem tw14963683876947260086:True:=⟨⟩
theorem tw5616613509942535894:True:=⟨⟩
theorem tw453046065974497078:True:=⟨⟩
theorem tw17951340880449169527:True:=⟨⟩
theorem tw16958150163764532535:True:=⟨⟩
theorem tw2930408019809438199:True:=⟨⟩
theorem tw18225829215717144087:True:=⟨⟩
theorem tw17099028004175815319:True:=⟨⟩
theorem tw5538042961524048567:True:=⟨⟩
theorem tw5243557909739358935:True:=⟨⟩
theorem tw5325033233026304823:True:=⟨⟩
theorem tw11193587719375995735:True:=⟨⟩
theorem tw12807654877324023671:True:=⟨⟩
theorem tw2453307735925736343:True:=⟨⟩
theorem tw11910832089014795191:True:=⟨⟩
theorem tw1348389901442539608:True:=⟨⟩
theorem tw18175000833722283192:True:=⟨⟩
theorem tw4581017829850875256:True:=⟨⟩
theorem tw2587306273768623480:True:=⟨⟩
theorem tw353054922164744632:True:=⟨⟩
theorem tw2620320847008620024:True:=⟨⟩
theorem tw16933306703347513848:True:=⟨⟩
theorem tw12681590068827950616:True:=⟨⟩
theorem tw1072449566074320440:True:=⟨⟩
theorem tw9298383856341730872:True:=⟨⟩
theorem tw10771244240344103544:True:=⟨⟩
theorem tw14955587145511745208:True:=⟨⟩
theorem tw3841956923794884376:True:=⟨⟩
theorem tw5368654519321907128:True:=⟨⟩
theorem tw13401424940387647448:True:=⟨⟩
theorem tw12740828936651928568:True:=⟨⟩
theorem tw3452568283356271737:True:=⟨⟩
theorem tw7199805285039179929:True:=⟨⟩
theorem tw5199051052470153433:True:=⟨⟩
theorem tw740191962274381273:True:=⟨⟩
theorem tw13895035791171602009:True:=⟨⟩
theorem tw12742108749207295705:True:=⟨⟩
theorem tw12384721650169412313:True:=⟨⟩
theorem tw17593154936216693625:True:=⟨⟩
theorem tw14672494079967909753:True:=⟨⟩
theorem tw8199913540763302873:True:=⟨⟩
theorem tw17363542996413940729:True:=⟨⟩
theorem tw989595817955958810:True:=⟨⟩
theorem tw5321253039503652986:True:=⟨⟩
theorem tw4924716968305075450:True:=⟨⟩
theorem tw12252346054241918394:True:=⟨⟩
theorem tw11606038984204736954:True:=⟨⟩
theorem tw9073209878103526970:True:=⟨⟩
theorem tw6154446749485998650:True:=⟨⟩
theorem tw15115078366151255642:True:=⟨⟩
theorem tw18383877521210971962:True:=⟨⟩
theorem tw14036377258499211098:True:=⟨⟩
theorem tw352921299975177178:True:=⟨⟩
theorem tw8364551595219021883:True:=⟨⟩
theorem tw17243898770299976763:True:=⟨⟩
theorem tw9118579788306804827:True:=⟨⟩
theorem tw8464001338650526875:True:=⟨⟩
theorem tw17903098435068132859:True:=⟨⟩
theorem tw237103980257239675:True:=⟨⟩
theorem tw12270732271716946843:True:=⟨⟩
theorem tw1495239308064178236:True:=⟨⟩
theorem tw6084617309590303868:True:=⟨⟩
theorem tw2831884833447807356:True:=⟨⟩
theorem tw6200680922108594716:True:=⟨⟩
theorem tw3304330209481726492:True:=⟨⟩
theorem tw9613688982812249660:True:=⟨⟩
theorem tw7157624868395218716:True:=⟨⟩
theorem tw12127157316029199164:True:=⟨⟩
theorem tw6733487966710711260:True:=⟨⟩
theorem tw12437877410675725341:True:=⟨⟩
theorem tw536838602465823773:True:=⟨⟩
theorem tw1212876414755023933:True:=⟨⟩
theorem tw5573686959846546589:True:=⟨⟩
theorem tw15156841282054657245:True:=⟨⟩
theorem tw8746645024093825341:True:=⟨⟩
theorem tw3835770455611960669:True:=⟨⟩
theorem tw2136447758407419389:True:=⟨⟩
theorem tw2182878759837897245:True:=⟨⟩
theorem tw7054600395163696829:True:=⟨⟩
theorem tw13635338599173524221:True:=⟨⟩
theorem tw5806529466305610557:True:=⟨⟩
theorem tw14851552481481254813:True:=⟨⟩
theorem tw18230954862443526077:True:=⟨⟩
theorem tw6289344889870641182:True:=⟨⟩
theorem tw2739817364466756638:True:=⟨⟩
theorem tw8238276751035625566:True:=⟨⟩
theorem tw14752164916962420926:True:=⟨⟩
theorem tw6876969085483670878:True:=⟨⟩
theorem tw10259268623588871614:True:=⟨⟩
theorem tw10573386213657732670:True:=⟨⟩
theorem tw3560861826893843198:True:=⟨⟩
theorem tw16903675511046637374:True:=⟨⟩
theorem tw8955491018341755774:True:=⟨⟩
theorem tw13912254010724399070:True:=⟨⟩
theorem tw9337463764925517822:True:=⟨⟩
theorem tw4226621779768281471:True:=⟨⟩
theorem tw8901422063608109439:True:=⟨⟩
theorem tw5043813084161699359:True:=⟨⟩
theorem tw1716728110072763039:True:=⟨⟩
theorem tw12008744712739996383:True:=⟨⟩
theorem tw17646846290236998623:True:=⟨⟩
theorem tw5825691198052938751:True:=⟨⟩
end PySem.W.Fast
namespace K
open PySem PySem.Spec PyProof.Rows L2
theorem ue:j4 "TooFar.__init__" "part" "part" (inClass (top 5) 0):=⟨⟨rfl,rfl,rfl,by decide +kernel,rfl,by decide +kernel,by decide +kernel⟩,⟨_,_,_,_,rfl,fun _=>rfl,fun _=>rfl⟩,rfl,rfl,by decide,by decide,fun _ _ _ _ _ _ us hl=>match us,hl with | [_,_],_=>rfl⟩
theorem qQ:j4 "NoPrime.__init__" "divisor" "divisor" (inClass (top 6) 0):=⟨⟨rfl,rfl,rfl,by decide +kernel,rfl,by decide +kernel,by decide +kernel⟩,⟨_,_,_,_,rfl,fun _=>rfl,fun _=>rfl⟩,rfl,rfl,by decide,by decide,fun _ _ _ _ _ _ us hl=>match us,hl with | [_,_],_=>rfl⟩
theorem mW:j4 "NoInverse.__init__" "divisor" "divisor" (inClass (top 7) 0):=⟨⟨rfl,rfl,rfl,by decide +kernel,rfl,by decide +kernel,by decide +kernel⟩,⟨_,_,_,_,rfl,fun _=>rfl,fun _=>rfl⟩,rfl,rfl,by decide,by decide,fun _ _ _ _ _ _ us hl=>match us,hl with | [_,_],_=>rfl⟩
theorem qR:j4 "TooMany.__init__" "many" "many" (inClass (top 8) 0):=⟨⟨rfl,rfl,rfl,by decide +kernel,rfl,by decide +kernel,by decide +kernel⟩,⟨_,_,_,_,rfl,fun _=>rfl,fun _=>rfl⟩,rfl,rfl,by decide,by decide,fun _ _ _ _ _ _ us hl=>match us,hl with | [_,_],_=>rfl⟩
end K
open PySem PySem.W PyProof.Rows L2
set_option maxHeartbeats 0 in
theorem PySem.Challenge.cw_rootprime_k51_roots_of_great_primes_holds : PySem.Challenge.rw_rootprime_k51_roots_of_great_primes.Holds := by
 w_on;o_law;k_head;(case hw=>w_witness2)
 k_fill
 refine L2.yh (l:=PySem.Challenge.rw_rootprime_k51_roots_of_great_primes) (n:=63) (k:=68) (x := "_law_script") (CX:=L2.aO) (sp:=K.Am) rfl (by decide) rfl ⟨rfl,by decide,by decide⟩ (fun w h Y=>PySem.W.kIn_of Y) ?F ?S ?C
 case F =>
  intro w mg fa h KX G hmg
  have d_least_divisor:L2.ax (L2.bj KX) mg "least_divisor" (K.top 11):=by
   dsimp only [L2.bj]
   refine' L2.aE KX G ?a ?l ?c ?k
   (case a=>k_is);(case l=>k_is);(case c=>k_is);(case k=>k_is)
  have d_least_divisor_from:L2.ax (L2.bj KX) mg "least_divisor_from" (K.top 12):=by
   dsimp only [L2.bj]
   refine' L2.aE KX G ?a ?l ?c ?k
   (case a=>k_is);(case l=>k_is);(case c=>k_is);(case k=>k_is)
  have d_parted:L2.ax (L2.bj KX) mg "parted" (K.top 13):=by
   dsimp only [L2.bj]
   refine' L2.aE KX G ?a ?l ?c ?k
   (case a=>k_is);(case l=>k_is);(case c=>k_is);(case k=>k_is)
  have d_whole_of:L2.ax (L2.bj KX) mg "whole_of" (K.top 14):=by
   dsimp only [L2.bj]
   refine' L2.aE KX G ?a ?l ?c ?k
   (case a=>k_is);(case l=>k_is);(case c=>k_is);(case k=>k_is)
  have d_divisor:L2.ax (L2.bj KX) mg "divisor" (K.top 16):=by
   dsimp only [L2.bj]
   refine' L2.aE KX G ?a ?l ?c ?k
   (case a=>k_is);(case l=>k_is);(case c=>k_is);(case k=>k_is)
  have d_inverse:L2.ax (L2.bj KX) mg "inverse" (K.top 17):=by
   dsimp only [L2.bj]
   refine' L2.aE KX G ?a ?l ?c ?k
   (case a=>k_is);(case l=>k_is);(case c=>k_is);(case k=>k_is)
  have d_primes_in:L2.ax (L2.bj KX) mg "primes_in" (K.top 20):=by
   dsimp only [L2.bj]
   refine' L2.aE KX G ?a ?l ?c ?k
   (case a=>k_is);(case l=>k_is);(case c=>k_is);(case k=>k_is)
  have d_parting_in:L2.ax (L2.bj KX) mg "parting_in" (K.top 21):=by
   dsimp only [L2.bj]
   refine' L2.aE KX G ?a ?l ?c ?k
   (case a=>k_is);(case l=>k_is);(case c=>k_is);(case k=>k_is)
  have d_power:L2.ax (L2.bj KX) mg "power" (K.top 23):=by
   dsimp only [L2.bj]
   refine' L2.aE KX G ?a ?l ?c ?k
   (case a=>k_is);(case l=>k_is);(case c=>k_is);(case k=>k_is)
  have d_is_least:L2.ax (L2.bj KX) mg "is_least" (K.top 24):=by
   dsimp only [L2.bj]
   refine' L2.aE KX G ?a ?l ?c ?k
   (case a=>k_is);(case l=>k_is);(case c=>k_is);(case k=>k_is)
  have d_order_from:L2.ax (L2.bj KX) mg "order_from" (K.top 26):=by
   dsimp only [L2.bj]
   refine' L2.aE KX G ?a ?l ?c ?k
   (case a=>k_is);(case l=>k_is);(case c=>k_is);(case k=>k_is)
  have d_most_times:L2.ax (L2.bj KX) mg "most_times" (K.top 27):=by
   dsimp only [L2.bj]
   refine' L2.aE KX G ?a ?l ?c ?k
   (case a=>k_is);(case l=>k_is);(case c=>k_is);(case k=>k_is)
  have d_raised:L2.ax (L2.bj KX) mg "raised" (K.top 28):=by
   dsimp only [L2.bj]
   refine' L2.aE KX G ?a ?l ?c ?k
   (case a=>k_is);(case l=>k_is);(case c=>k_is);(case k=>k_is)
  have d_times_in_order:L2.ax (L2.bj KX) mg "times_in_order" (K.top 29):=by
   dsimp only [L2.bj]
   refine' L2.aE KX G ?a ?l ?c ?k
   (case a=>k_is);(case l=>k_is);(case c=>k_is);(case k=>k_is)
  have d_times_to_one:L2.ax (L2.bj KX) mg "times_to_one" (K.top 30):=by
   dsimp only [L2.bj]
   refine' L2.aE KX G ?a ?l ?c ?k
   (case a=>k_is);(case l=>k_is);(case c=>k_is);(case k=>k_is)
  have d_order:L2.ax (L2.bj KX) mg "order" (K.top 31):=by
   dsimp only [L2.bj]
   refine' L2.aE KX G ?a ?l ?c ?k
   (case a=>k_is);(case l=>k_is);(case c=>k_is);(case k=>k_is)
  have d_of_order:L2.ax (L2.bj KX) mg "of_order" (K.top 32):=by
   dsimp only [L2.bj]
   refine' L2.aE KX G ?a ?l ?c ?k
   (case a=>k_is);(case l=>k_is);(case c=>k_is);(case k=>k_is)
  have d_how_many_roots:L2.ax (L2.bj KX) mg "how_many_roots" (K.top 34):=by
   dsimp only [L2.bj]
   refine' L2.aE KX G ?a ?l ?c ?k
   (case a=>k_is);(case l=>k_is);(case c=>k_is);(case k=>k_is)
  have d_shown_none:L2.ax (L2.bj KX) mg "shown_none" (K.top 35):=by
   dsimp only [L2.bj]
   refine' L2.aE KX G ?a ?l ?c ?k
   (case a=>k_is);(case l=>k_is);(case c=>k_is);(case k=>k_is)
  have d_small_steps:L2.ax (L2.bj KX) mg "small_steps" (K.top 38):=by
   dsimp only [L2.bj]
   refine' L2.aE KX G ?a ?l ?c ?k
   (case a=>k_is);(case l=>k_is);(case c=>k_is);(case k=>k_is)
  have d_put_together:L2.ax (L2.bj KX) mg "put_together" (K.top 40):=by
   dsimp only [L2.bj]
   refine' L2.aE KX G ?a ?l ?c ?k
   (case a=>k_is);(case l=>k_is);(case c=>k_is);(case k=>k_is)
  have d_first_apart:L2.ax (L2.bj KX) mg "first_apart" (K.top 41):=by
   dsimp only [L2.bj]
   refine' L2.aE KX G ?a ?l ?c ?k
   (case a=>k_is);(case l=>k_is);(case c=>k_is);(case k=>k_is)
  have d_are_apart:L2.ax (L2.bj KX) mg "are_apart" (K.top 42):=by
   dsimp only [L2.bj]
   refine' L2.aE KX G ?a ?l ?c ?k
   (case a=>k_is);(case l=>k_is);(case c=>k_is);(case k=>k_is)
  have d_both_together:L2.ax (L2.bj KX) mg "both_together" (K.top 43):=by
   dsimp only [L2.bj]
   refine' L2.aE KX G ?a ?l ?c ?k
   (case a=>k_is);(case l=>k_is);(case c=>k_is);(case k=>k_is)
  have d_which:L2.mK (L2.bj KX) mg "which" (K.top 46) #[.none]:=by
   dsimp only [L2.bj]
   refine' L2.tW KX G ?a ?l ?c ?k ?t ?e
   (case a=>k_is);(case l=>k_is);(case c=>k_is);(case k=>k_is);(case t=>k_is);(case e=>rfl)
  have d_refuse_far:L2.ax (L2.bj KX) mg "refuse_far" (K.top 47):=by
   dsimp only [L2.bj]
   refine' L2.aE KX G ?a ?l ?c ?k
   (case a=>k_is);(case l=>k_is);(case c=>k_is);(case k=>k_is)
  have d_sought:L2.ax (L2.bj KX) mg "sought" (K.top 48):=by
   dsimp only [L2.bj]
   refine' L2.aE KX G ?a ?l ?c ?k
   (case a=>k_is);(case l=>k_is);(case c=>k_is);(case k=>k_is)
  have d_digits:L2.ax (L2.bj KX) mg "digits" (K.top 49):=by
   dsimp only [L2.bj]
   refine' L2.aE KX G ?a ?l ?c ?k
   (case a=>k_is);(case l=>k_is);(case c=>k_is);(case k=>k_is)
  have d_steps_to:L2.ax (L2.bj KX) mg "steps_to" (K.top 50):=by
   dsimp only [L2.bj]
   refine' L2.aE KX G ?a ?l ?c ?k
   (case a=>k_is);(case l=>k_is);(case c=>k_is);(case k=>k_is)
  have d_number_of:L2.ax (L2.bj KX) mg "number_of" (K.top 51):=by
   dsimp only [L2.bj]
   refine' L2.aE KX G ?a ?l ?c ?k
   (case a=>k_is);(case l=>k_is);(case c=>k_is);(case k=>k_is)
  have d_roots:L2.ax (L2.bj KX) mg "roots" (K.top 53):=by
   dsimp only [L2.bj]
   refine' L2.aE KX G ?a ?l ?c ?k
   (case a=>k_is);(case l=>k_is);(case c=>k_is);(case k=>k_is)
  have d_all_turned:L2.ax (L2.bj KX) mg "all_turned" (K.top 54):=by
   dsimp only [L2.bj]
   refine' L2.aE KX G ?a ?l ?c ?k
   (case a=>k_is);(case l=>k_is);(case c=>k_is);(case k=>k_is)
  have d_one_root:L2.ax (L2.bj KX) mg "one_root" (K.top 55):=by
   dsimp only [L2.bj]
   refine' L2.aE KX G ?a ?l ?c ?k
   (case a=>k_is);(case l=>k_is);(case c=>k_is);(case k=>k_is)
  have d_prime_paper:L2.ax (L2.bj KX) mg "prime_paper" (K.top 57):=by
   dsimp only [L2.bj]
   refine' L2.aE KX G ?a ?l ?c ?k
   (case a=>k_is);(case l=>k_is);(case c=>k_is);(case k=>k_is)
  have d_parting_paper:L2.ax (L2.bj KX) mg "parting_paper" (K.top 58):=by
   dsimp only [L2.bj]
   refine' L2.aE KX G ?a ?l ?c ?k
   (case a=>k_is);(case l=>k_is);(case c=>k_is);(case k=>k_is)
  have d_least_full:L2.ax (L2.bj KX) mg "least_full" (K.top 59):=by
   dsimp only [L2.bj]
   refine' L2.aE KX G ?a ?l ?c ?k
   (case a=>k_is);(case l=>k_is);(case c=>k_is);(case k=>k_is)
  have d__law_tape:L2.ax (L2.bj KX) mg "_law_tape" (K.top 61):=by
   dsimp only [L2.bj]
   refine' L2.aE KX G ?a ?l ?c ?k
   (case a=>k_is);(case l=>k_is);(case c=>k_is);(case k=>k_is)
  have d__law_draw:L2.ax (L2.bj KX) mg "_law_draw" (K.top 62):=by
   dsimp only [L2.bj]
   refine' L2.aE KX G ?a ?l ?c ?k
   (case a=>k_is);(case l=>k_is);(case c=>k_is);(case k=>k_is)
  have d__law_far:L2.ax (L2.bj KX) mg "_law_far" (K.top 63):=by
   dsimp only [L2.bj]
   refine' L2.aE KX G ?a ?l ?c ?k
   (case a=>k_is);(case l=>k_is);(case c=>k_is);(case k=>k_is)
  have d__law_is_prime:L2.ax (L2.bj KX) mg "_law_is_prime" (K.top 64):=by
   dsimp only [L2.bj]
   refine' L2.aE KX G ?a ?l ?c ?k
   (case a=>k_is);(case l=>k_is);(case c=>k_is);(case k=>k_is)
  have d__law_prime:L2.ax (L2.bj KX) mg "_law_prime" (K.top 65):=by
   dsimp only [L2.bj]
   refine' L2.aE KX G ?a ?l ?c ?k
   (case a=>k_is);(case l=>k_is);(case c=>k_is);(case k=>k_is)
  have d__law_any_prime:L2.ax (L2.bj KX) mg "_law_any_prime" (K.top 66):=by
   dsimp only [L2.bj]
   refine' L2.aE KX G ?a ?l ?c ?k
   (case a=>k_is);(case l=>k_is);(case c=>k_is);(case k=>k_is)
  have d__law_common:L2.ax (L2.bj KX) mg "_law_common" (K.top 67):=by
   dsimp only [L2.bj]
   refine' L2.aE KX G ?a ?l ?c ?k
   (case a=>k_is);(case l=>k_is);(case c=>k_is);(case k=>k_is)
  have d__law_small_k:L2.ax (L2.bj KX) mg "_law_small_k" (K.top 68):=by
   dsimp only [L2.bj]
   refine' L2.aE KX G ?a ?l ?c ?k
   (case a=>k_is);(case l=>k_is);(case c=>k_is);(case k=>k_is)
  have d__law_whole:L2.ax (L2.bj KX) mg "_law_whole" (K.top 69):=by
   dsimp only [L2.bj]
   refine' L2.aE KX G ?a ?l ?c ?k
   (case a=>k_is);(case l=>k_is);(case c=>k_is);(case k=>k_is)
  have d__law_power:L2.ax (L2.bj KX) mg "_law_power" (K.top 70):=by
   dsimp only [L2.bj]
   refine' L2.aE KX G ?a ?l ?c ?k
   (case a=>k_is);(case l=>k_is);(case c=>k_is);(case k=>k_is)
  have d__law_same:L2.ax (L2.bj KX) mg "_law_same" (K.top 71):=by
   dsimp only [L2.bj]
   refine' L2.aE KX G ?a ?l ?c ?k
   (case a=>k_is);(case l=>k_is);(case c=>k_is);(case k=>k_is)
  have d__law_primes_of:L2.ax (L2.bj KX) mg "_law_primes_of" (K.top 72):=by
   dsimp only [L2.bj]
   refine' L2.aE KX G ?a ?l ?c ?k
   (case a=>k_is);(case l=>k_is);(case c=>k_is);(case k=>k_is)
  have d__law_has_order:L2.ax (L2.bj KX) mg "_law_has_order" (K.top 73):=by
   dsimp only [L2.bj]
   refine' L2.aE KX G ?a ?l ?c ?k
   (case a=>k_is);(case l=>k_is);(case c=>k_is);(case k=>k_is)
  have d__law_all_roots:L2.ax (L2.bj KX) mg "_law_all_roots" (K.top 74):=by
   dsimp only [L2.bj]
   refine' L2.aE KX G ?a ?l ?c ?k
   (case a=>k_is);(case l=>k_is);(case c=>k_is);(case k=>k_is)
  have d__law_good:L2.ax (L2.bj KX) mg "_law_good" (K.top 75):=by
   dsimp only [L2.bj]
   refine' L2.aE KX G ?a ?l ?c ?k
   (case a=>k_is);(case l=>k_is);(case c=>k_is);(case k=>k_is)
  have d_law:L2.ax (L2.bj KX) mg "law" (K.top 76):=by
   dsimp only [L2.bj]
   refine' L2.aE KX G ?a ?l ?c ?k
   (case a=>k_is);(case l=>k_is);(case c=>k_is);(case k=>k_is)
  have n_abs:mg "abs"=none:=PySem.W.mg_none_of KX G (by k_is)
  have n_int:mg "int"=none:=PySem.W.mg_none_of KX G (by k_is)
  have n_range:mg "range"=none:=PySem.W.mg_none_of KX G (by k_is)
  have n_tuple:mg "tuple"=none:=PySem.W.mg_none_of KX G (by k_is)
  have n_all:mg "all"=none:=PySem.W.mg_none_of KX G (by k_is)
  have n_list:mg "list"=none:=PySem.W.mg_none_of KX G (by k_is)
  have n_min:mg "min"=none:=PySem.W.mg_none_of KX G (by k_is)
  have n_max:mg "max"=none:=PySem.W.mg_none_of KX G (by k_is)
  have n_len:mg "len"=none:=PySem.W.mg_none_of KX G (by k_is)
  have n_zip:mg "zip"=none:=PySem.W.mg_none_of KX G (by k_is)
  have n_enumerate:mg "enumerate"=none:=PySem.W.mg_none_of KX G (by k_is)
  have n_sorted:mg "sorted"=none:=PySem.W.mg_none_of KX G (by k_is)
  have n_isinstance:mg "isinstance"=none:=PySem.W.mg_none_of KX G (by k_is)
  have n_bool:mg "bool"=none:=PySem.W.mg_none_of KX G (by k_is)
  have n_any:mg "any"=none:=PySem.W.mg_none_of KX G (by k_is)
  refine' L2.bT (PySem.W.mg_of (n := "PrimeError") KX G ?xa) (fun a_PrimeError=>?g1)
  (case xa=>k_is)
  refine' L2.bT (L2.eB KX a_PrimeError ?l ?c2 ?c3 ?e1 ?e2 ?e3 ?e4 ?e5 ?e6 ?ob ?kp) (fun c_PrimeError=>?g2)
  (case l=>k_is);(case c2=>rfl);(case c3=>rfl);(case e1=>k_is);(case e2=>k_is);(case e3=>k_is);(case e4=>k_is);(case e5=>k_is);(case e6=>k_is);(case ob=>exact⟨_,_,_,_,_,_,_,_,_,_,_,_,_,_,_,_,rfl,rfl,rfl,rfl⟩);(case kp=>k_is)
  refine' L2.bT (L2.jX a_PrimeError c_PrimeError.2 c_PrimeError.1 ?i) (fun x_PrimeError=>?g3)
  (case i=>k_is)
  refine' L2.bT (PySem.W.mg_of (n := "NoNumber") KX G ?xa) (fun a_NoNumber=>?g4)
  (case xa=>k_is)
  refine' L2.bT (L2.eB KX a_NoNumber ?l ?c2 ?c3 ?e1 ?e2 ?e3 ?e4 ?e5 ?e6 ?ob ?kp) (fun c_NoNumber=>?g5)
  (case l=>k_is);(case c2=>rfl);(case c3=>rfl);(case e1=>k_is);(case e2=>k_is);(case e3=>k_is);(case e4=>k_is);(case e5=>k_is);(case e6=>k_is);(case ob=>exact⟨_,_,_,_,_,_,_,_,_,_,_,_,_,_,_,_,rfl,rfl,rfl,rfl⟩);(case kp=>k_is)
  refine' L2.bT (L2.jX a_NoNumber c_NoNumber.2 c_NoNumber.1 ?i) (fun x_NoNumber=>?g6)
  (case i=>k_is)
  refine' L2.bT (PySem.W.mg_of (n := "Nought") KX G ?xa) (fun a_Nought=>?g7)
  (case xa=>k_is)
  refine' L2.bT (L2.eB KX a_Nought ?l ?c2 ?c3 ?e1 ?e2 ?e3 ?e4 ?e5 ?e6 ?ob ?kp) (fun c_Nought=>?g8)
  (case l=>k_is);(case c2=>rfl);(case c3=>rfl);(case e1=>k_is);(case e2=>k_is);(case e3=>k_is);(case e4=>k_is);(case e5=>k_is);(case e6=>k_is);(case ob=>exact⟨_,_,_,_,_,_,_,_,_,_,_,_,_,_,_,_,rfl,rfl,rfl,rfl⟩);(case kp=>k_is)
  refine' L2.bT (L2.jX a_Nought c_Nought.2 c_Nought.1 ?i) (fun x_Nought=>?g9)
  (case i=>k_is)
  refine' L2.bT (PySem.W.mg_of (n := "NoOrder") KX G ?xa) (fun a_NoOrder=>?g10)
  (case xa=>k_is)
  refine' L2.bT (L2.eB KX a_NoOrder ?l ?c2 ?c3 ?e1 ?e2 ?e3 ?e4 ?e5 ?e6 ?ob ?kp) (fun c_NoOrder=>?g11)
  (case l=>k_is);(case c2=>rfl);(case c3=>rfl);(case e1=>k_is);(case e2=>k_is);(case e3=>k_is);(case e4=>k_is);(case e5=>k_is);(case e6=>k_is);(case ob=>exact⟨_,_,_,_,_,_,_,_,_,_,_,_,_,_,_,_,rfl,rfl,rfl,rfl⟩);(case kp=>k_is)
  refine' L2.bT (L2.jX a_NoOrder c_NoOrder.2 c_NoOrder.1 ?i) (fun x_NoOrder=>?g12)
  (case i=>k_is)
  refine' L2.bT (PySem.W.mg_of (n := "TooFar") KX G ?xa) (fun a_TooFar=>?g13)
  (case xa=>k_is)
  refine' L2.bT (L2.eB KX a_TooFar ?l ?c2 ?c3 ?e1 ?e2 ?e3 ?e4 ?e5 ?e6 ?ob ?kp) (fun c_TooFar=>?g14)
  (case l=>k_is);(case c2=>rfl);(case c3=>rfl);(case e1=>k_is);(case e2=>k_is);(case e3=>k_is);(case e4=>k_is);(case e5=>k_is);(case e6=>k_is);(case ob=>exact⟨_,_,_,_,_,_,_,_,_,_,_,_,_,_,_,_,rfl,rfl,rfl,rfl⟩);(case kp=>k_is)
  refine' L2.bT (L2.jY K.ue a_TooFar c_TooFar.2 c_TooFar.1 ?nf ?i ?fn ?l ?cc ?kk) (fun x_TooFar=>?g15)
  (case nf=>k_is);(case i=>k_is);(case fn=>k_is);(case l=>k_is);(case cc=>k_is);(case kk=>k_is)
  refine' L2.bT (PySem.W.mg_of (n := "NoPrime") KX G ?xa) (fun a_NoPrime=>?g16)
  (case xa=>k_is)
  refine' L2.bT (L2.eB KX a_NoPrime ?l ?c2 ?c3 ?e1 ?e2 ?e3 ?e4 ?e5 ?e6 ?ob ?kp) (fun c_NoPrime=>?g17)
  (case l=>k_is);(case c2=>rfl);(case c3=>rfl);(case e1=>k_is);(case e2=>k_is);(case e3=>k_is);(case e4=>k_is);(case e5=>k_is);(case e6=>k_is);(case ob=>exact⟨_,_,_,_,_,_,_,_,_,_,_,_,_,_,_,_,rfl,rfl,rfl,rfl⟩);(case kp=>k_is)
  refine' L2.bT (L2.jY K.qQ a_NoPrime c_NoPrime.2 c_NoPrime.1 ?nf ?i ?fn ?l ?cc ?kk) (fun x_NoPrime=>?g18)
  (case nf=>k_is);(case i=>k_is);(case fn=>k_is);(case l=>k_is);(case cc=>k_is);(case kk=>k_is)
  refine' L2.bT (PySem.W.mg_of (n := "NoInverse") KX G ?xa) (fun a_NoInverse=>?g19)
  (case xa=>k_is)
  refine' L2.bT (L2.eB KX a_NoInverse ?l ?c2 ?c3 ?e1 ?e2 ?e3 ?e4 ?e5 ?e6 ?ob ?kp) (fun c_NoInverse=>?g20)
  (case l=>k_is);(case c2=>rfl);(case c3=>rfl);(case e1=>k_is);(case e2=>k_is);(case e3=>k_is);(case e4=>k_is);(case e5=>k_is);(case e6=>k_is);(case ob=>exact⟨_,_,_,_,_,_,_,_,_,_,_,_,_,_,_,_,rfl,rfl,rfl,rfl⟩);(case kp=>k_is)
  refine' L2.bT (L2.jY K.mW a_NoInverse c_NoInverse.2 c_NoInverse.1 ?nf ?i ?fn ?l ?cc ?kk) (fun x_NoInverse=>?g21)
  (case nf=>k_is);(case i=>k_is);(case fn=>k_is);(case l=>k_is);(case cc=>k_is);(case kk=>k_is)
  refine' L2.bT (PySem.W.mg_of (n := "TooMany") KX G ?xa) (fun a_TooMany=>?g22)
  (case xa=>k_is)
  refine' L2.bT (L2.eB KX a_TooMany ?l ?c2 ?c3 ?e1 ?e2 ?e3 ?e4 ?e5 ?e6 ?ob ?kp) (fun c_TooMany=>?g23)
  (case l=>k_is);(case c2=>rfl);(case c3=>rfl);(case e1=>k_is);(case e2=>k_is);(case e3=>k_is);(case e4=>k_is);(case e5=>k_is);(case e6=>k_is);(case ob=>exact⟨_,_,_,_,_,_,_,_,_,_,_,_,_,_,_,_,rfl,rfl,rfl,rfl⟩);(case kp=>k_is)
  refine' L2.bT (L2.jY K.qR a_TooMany c_TooMany.2 c_TooMany.1 ?nf ?i ?fn ?l ?cc ?kk) (fun x_TooMany=>?g24)
  (case nf=>k_is);(case i=>k_is);(case fn=>k_is);(case l=>k_is);(case cc=>k_is);(case kk=>k_is)
  refine' L2.bT (PySem.W.mg_of (n := "Kept") KX G ?xa) (fun a_Kept=>?g25)
  (case xa=>k_is)
  refine' L2.bT (L2.A7 KX a_Kept ?p1 ?p2 ?p3 ?p4 ?p5 ?p6) (fun o_Kept=>?g26)
  (case p1=>k_is);(case p2=>k_is);(case p3=>k_is);(case p4=>k_is);(case p5=>k_is);(case p6=>k_is)
  refine' L2.bT (L2.kC (m := "__init__") (qual := "Kept.__init__") (st:=L2.inClass (K.top 37) 0) o_Kept ?xa ?fn ?kk ?l ?cc) (fun m_Kept___init__=>?g27)
  (case xa=>k_is);(case fn=>k_is);(case kk=>k_is);(case l=>k_is);(case cc=>k_is)
  refine' L2.bT (L2.kC (m := "steps") (qual := "Kept.steps") (st:=L2.inClass (K.top 37) 1) o_Kept ?xa ?fn ?kk ?l ?cc) (fun m_Kept_steps=>?g28)
  (case xa=>k_is);(case fn=>k_is);(case kk=>k_is);(case l=>k_is);(case cc=>k_is)
  refine' L2.bT (L2.kC (m := "tables") (qual := "Kept.tables") (st:=L2.inClass (K.top 37) 2) o_Kept ?xa ?fn ?kk ?l ?cc) (fun m_Kept_tables=>?g29)
  (case xa=>k_is);(case fn=>k_is);(case kk=>k_is);(case l=>k_is);(case cc=>k_is)
  refine' L2.bT (L2.kC (m := "used_table") (qual := "Kept.used_table") (st:=L2.inClass (K.top 37) 3) o_Kept ?xa ?fn ?kk ?l ?cc) (fun m_Kept_used_table=>?g30)
  (case xa=>k_is);(case fn=>k_is);(case kk=>k_is);(case l=>k_is);(case cc=>k_is)
  refine' L2.bT (L2.kC (m := "add_steps") (qual := "Kept.add_steps") (st:=L2.inClass (K.top 37) 4) o_Kept ?xa ?fn ?kk ?l ?cc) (fun m_Kept_add_steps=>?g31)
  (case xa=>k_is);(case fn=>k_is);(case kk=>k_is);(case l=>k_is);(case cc=>k_is)
  refine' L2.bT (L2.mZ (f := "most") o_Kept ?xa) (fun na_most=>?g32)
  (case xa=>k_is)
  refine' L2.bT (L2.mZ (f := "counted") o_Kept ?xa) (fun na_counted=>?g33)
  (case xa=>k_is)
  refine' L2.bT (L2.mZ (f := "laid") o_Kept ?xa) (fun na_laid=>?g34)
  (case xa=>k_is)
  refine' L2.bT (PySem.W.mg_of (n := "GREATEST") KX G ?xa) (fun g_GREATEST=>?g35)
  (case xa=>k_is)
  refine' L2.bT (PySem.W.mg_of (n := "FARTHEST") KX G ?xa) (fun g_FARTHEST=>?g36)
  (case xa=>k_is)
  refine' L2.bT (PySem.W.mg_of (n := "MOST_TOLD") KX G ?xa) (fun g_MOST_TOLD=>?g37)
  (case xa=>k_is)
  refine L2.yP hmg d_law (fun _ _ _ _ _ _ _=>rfl) fun base f fd kb F=>?_
  have dvr:=fun P w=>K.qY (P:=P) (w:=w) (base:=base) d_divisor n_abs
  have inv:=fun P w=>K.qZ (P:=P) (w:=w) (base:=base) d_inverse (dvr P w) (x_NoInverse _ _ _)
  have pw:=fun P w=>K.wD (P:=P) (w:=w) (base:=base) d_power (inv P w) n_abs
  have lt:=fun P w=>K.rb (P:=P) (w:=w) (base:=base) d_is_least (pw P w) n_all
  have fr:=fun P w=>K.y4 (P:=P) (w:=w) (base:=base) d_least_divisor_from
  have ls:=fun P w=>K.wz (P:=P) (w:=w) (base:=base) d_least_divisor (fr P w) x_NoNumber (x_TooFar _ _ _) ⟨_,g_GREATEST⟩
  have pd:=fun P w=>K.uw (P:=P) (w:=w) (base:=base) d_parted (fr P w) x_NoNumber (x_TooFar _ _ _) ⟨_,g_GREATEST⟩
  have pi:=fun P w=>K.pI (P:=P) (w:=w) (base:=base) d_primes_in
  have pp:=fun P w=>K.Bk (K.me (P:=P) (w:=w) (base:=base) d_prime_paper d_parting_paper (ls P w) (pd P w) (K.m8 d_least_full (lt P w)) (pi P w) (x_NoPrime _ _ _) n_tuple 30).1
  have ra:=fun P w=>K.uy (P:=P) (w:=w) (base:=base) d_raised (pw P w) n_range
  have wo:=fun P w=>K.wJ (P:=P) (w:=w) (base:=base) d_whole_of n_range
  have od:=fun P w=>K.wA (P:=P) (w:=w) (base:=base) d_order (K.m9 d_order_from (K.pH d_parting_in) (K.wC d_parting_in) (K.y9 d_most_times) (ra P w) (K.pL d_times_in_order (ra P w) (K.wH d_times_to_one (pw P w)) n_len 6) (wo P w) (pw P w) n_min n_zip n_tuple) x_Nought
  have put:=fun P w=>K.Bf (P:=P) (w:=w) (base:=base) d_put_together (K.wq d_first_apart (K.wm d_are_apart (dvr P w)) n_enumerate) (K.yX d_both_together (dvr P w) (inv P w))
  have ki:=fun P w=>K.wx (P:=P) (w:=w) (mg:=mg) (base:=base) m_Kept___init__ o_Kept.cls na_most na_counted na_laid
  have ka:=fun P w=>K.y7 (P:=P) (w:=w) (mg:=mg) (base:=base) m_Kept_add_steps o_Kept.cls na_counted
  have kt:=fun P w=>K.rf (P:=P) (w:=w) (mg:=mg) (base:=base) m_Kept_tables o_Kept.cls na_laid n_list
  have ku:=fun P w=>K.wy (P:=P) (w:=w) (mg:=mg) (base:=base) m_Kept_used_table o_Kept.cls na_laid na_most n_len (K.wG d_small_steps n_len) (ka P w) (kt P w)
  have dg:=fun P w=>K.ur (P:=P) (w:=w) (base:=base) d_digits o_Kept.cls (pw P w) (inv P w) (ku P w) (ka P w) (K.zh d_number_of) (K.ri d_steps_to) n_len n_range n_tuple
  have so:=fun P w=>K.uC (P:=P) (w:=w) (base:=base) d_sought o_Kept.cls o_Kept (ki P w) (dg P w) (K.wB d_parting_in) (wo P w) (K.zi d_number_of) (put P w) n_len n_tuple
  have whD:=fun P w=>K.wI (P:=P) (w:=w) (base:=base) d_which (od P w) (pw P w) (K.Bb d_refuse_far (x_TooFar _ _ _) ⟨_,g_FARTHEST⟩ n_max) (pi P w) (so P w) x_Nought
  have dw:=fun P w=>K.yY (P:=P) (w:=w) (base:=base) d__law_draw n_len
  have lp:=fun P w=>K.y8 (P:=P) (w:=w) (base:=base) d__law_power
  have cm:=fun P w=>K.uq (P:=P) (w:=w) (base:=base) d__law_common
  have fa:=fun P w=>K.yZ (P:=P) (w:=w) (base:=base) d__law_far (dw P w)
  have sa:=fun P w=>K.pK (P:=P) (w:=w) (base:=base) d__law_same n_isinstance n_bool n_list n_tuple n_len n_zip n_all 6
  have wt:=fun P w=>K.uG (P:=P) (w:=w) (base:=base) d__law_whole n_isinstance n_int n_bool
  have hm:=fun P w=>K.Bc (P:=P) (w:=w) (base:=base) d_how_many_roots (dvr P w)
  have on:=fun P w=>K.rh (P:=P) (w:=w) (base:=base) d_one_root (hm P w) (wo P w) (K.pH d_parting_in) (dvr P w) (pw P w) (inv P w) (whD P w)
  have rt:=fun P w=>K.wF (P:=P) (w:=w) (base:=base) d_roots (K.zg d_shown_none (hm P w) (pw P w)) (hm P w) (K.rg d_of_order (pw P w) x_NoOrder) (K.uF d_all_turned n_range) (on P w) (x_TooMany _ _ _) ⟨_,g_MOST_TOLD⟩ n_sorted
  exact K.Be F (K.zj d__law_tape) (dw _ _) (K.pF d__law_any_prime (dw _ _) (fa _ _) (K.ux d__law_prime (K.uu d__law_is_prime n_int))) (pp _ _) (K.uB d__law_small_k (dw _ _) (cm _ _)) (fa _ _) (lp _ _) (K.wu d__law_good (cm _ _) (rt _ _) (sa _ _) (lp _ _) (K.pE d__law_all_roots (wt _ _) (lp _ _) (sa _ _) (K.pG d__law_has_order (wt _ _) (lp _ _) (K.pJ d__law_primes_of) n_any) n_isinstance n_tuple n_list n_len)) n_range
 case S=>exact fun K H a ns hl hO hS=>⟨a,ns,rfl,hS,hl,fun _=>rfl⟩
 case C=>exact fun _ _ _ _ z=>z
