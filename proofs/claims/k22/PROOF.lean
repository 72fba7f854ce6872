import PyProof.Rows.All
import Wide.All
import OpenK.AllK
import Wide.FinOn
import Lean
import PyProof.EqAt
import PyProof.EqKinds
import PyProof.TupleCall
import KE.KRevSl
import PyProof.NeData
import PyProof.P3Eq
import PyProof.Rows.Range3
import PyProof.EnumMake
import PyProof.Draws
import PyProof.ZipIter
import PySem.Challenge.RW_rootprime_k22_whole_only_primes_have_pap
set_option Elab.async false
set_option linter.all false
set_option maxRecDepth 100000
namespace L2
open PySem PySem.Spec PyProof.Rows
abbrev Key := Sum Int Str
def keyIs : Key → Value → Bool
  | .inl k, v => Value.isInt k v
  | .inr x, v => Value.isStrOf x v
def keyH (w : World) : Key → Int
  | .inl k => hashInt k
  | .inr x => hashStr w x
theorem keyIs_shape : ∀ {k : Key} {v : Value}, keyIs k v = true → (∃ i t, k = Sum.inl i ∧ v = Value.int i t) ∨ (∃ x t, k = Sum.inr x ∧ v = Value.str x t)
  | .inl i, v, h => by
    obtain ⟨t, e⟩ := Value.isInt_shape (k := i) (v := v) h
    exact .inl ⟨i, t, rfl, e⟩
  | .inr x, v, h => by
    obtain ⟨t, e⟩ := Value.isStrOf_shape (x := x) (v := v) h
    exact .inr ⟨x, t, rfl, e⟩
theorem key_ll (a b : Int) : decide ((Sum.inl a : Key) = Sum.inl b) = (a == b) := by
  by_cases e : a = b
  · subst e; simp
  · have h : ¬ (Sum.inl a : Key) = Sum.inl b := fun q => e (Sum.inl.inj q)
    rw [decide_eq_false h]
    exact (beq_eq_false_iff_ne.mpr e).symm
theorem key_rr (a b : Str) : decide ((Sum.inr a : Key) = Sum.inr b) = decide (a = b) := by
  by_cases e : a = b
  · subst e; simp
  · have h : ¬ (Sum.inr a : Key) = Sum.inr b := fun q => e (Sum.inr.inj q)
    rw [decide_eq_false h, decide_eq_false e]
theorem key_lr (a : Int) (b : Str) : decide ((Sum.inl a : Key) = Sum.inr b) = false := decide_eq_false (fun q => nomatch q)
theorem key_rl (a : Str) (b : Int) : decide ((Sum.inr a : Key) = Sum.inl b) = false := decide_eq_false (fun q => nomatch q)
def mixKind (prog : Program) (w : World) : PySem.KeyKind prog w Key where
  is := keyIs
  hash := keyH w
  inj := fun v a b ha hb => by
    rcases keyIs_shape ha with ⟨i, t, rfl, rfl⟩ | ⟨x, t, rfl, rfl⟩
    · rcases keyIs_shape hb with ⟨j, u, rfl, e⟩ | ⟨y, u, rfl, e⟩
      · injection e with e1 _; rw [e1]
      · exact nomatch e
    · rcases keyIs_shape hb with ⟨j, u, rfl, e⟩ | ⟨y, u, rfl, e⟩
      · exact nomatch e
      · injection e with e1 _; rw [e1]
  byValue := fun k v h => by
    rcases keyIs_shape h with ⟨i, t, rfl, rfl⟩ | ⟨x, t, rfl, rfl⟩ <;> rfl
  pyHash := fun hv h => by
    rcases keyIs_shape hv with ⟨i, t, rfl, rfl⟩ | ⟨x, t, rfl, rfl⟩
    · exact wpAny_pyHash_int h
    · exact wpAny_pyHash_str h
  eqBool := fun hu hv h => by
    rcases keyIs_shape hu with ⟨i, t, rfl, rfl⟩ | ⟨x, t, rfl, rfl⟩
    · rcases keyIs_shape hv with ⟨j, u, rfl, rfl⟩ | ⟨y, u, rfl, rfl⟩
      · rw [key_ll] at h; exact wpAny_eqBool_int h
      · rw [key_lr] at h; exact SeqAt.EqAt.int_str i t y u _ _ _ _ h
    · rcases keyIs_shape hv with ⟨j, u, rfl, rfl⟩ | ⟨y, u, rfl, rfl⟩
      · rw [key_rl] at h; exact SeqAt.EqAt.str_int x t j u _ _ _ _ h
      · rw [key_rr] at h; exact wpAny_eqBool_str h
  «strs» := fun k x t v h => by
    rcases keyIs_shape h with ⟨i, u, rfl, e⟩ | ⟨y, u, rfl, e⟩
    · exact nomatch e
    · injection e with e1 _
      subst e1
      cases v <;> rfl
end L2
namespace L2
open PySem PySem.Spec PyProof.Rows
inductive V where
  | non | bl (b : Bool) | int (i : Int) | str (x : Str) | byt (b : Array UInt8) | flt (b : UInt64) | ref (a : Addr) | ty (n : String)
  deriving DecidableEq
def RelV : V → Value → Prop
  | .non, u => u = Value.none
  | .bl b, u => u = Value.bool b
  | .int i, u => ∃ t, u = Value.int i t
  | .str x, u => ∃ t, u = Value.str x t
  | .byt b, u => ∃ t, u = Value.bytes b t
  | .flt b, u => ∃ t, u = Value.float b t
  | .ref a, u => u = Value.ref a
  | .ty n, u => u = Value.type n
abbrev Vals : List V → List Value → Prop := Paired RelV
theorem Vals.length {xs : List V} {us : List Value} (r : Vals xs us) : xs.length = us.length := Paired.length r
theorem Vals.get : ∀ {xs : List V} {us : List Value} {i : Nat} {x : V}, Vals xs us → xs[i]? = some x → ∃ u, us[i]? = some u ∧ RelV x u
  | _, _, _, _, .nil, e => by simp at e
  | _, _, 0, _, .cons r _, e => by simp at e; subst e; exact ⟨_, rfl, r⟩
  | _, _, i + 1, x, .cons _ t, e => by
    obtain ⟨u, h1, h2⟩ := Vals.get (i := i) (x := x) t (by simpa using e)
    exact ⟨u, by simpa using h1, h2⟩
theorem Vals.set {x : V} {u : Value} (r : RelV x u) : ∀ {xs : List V} {us : List Value} (i : Nat), Vals xs us → Vals (xs.set i x) (us.set i u)
  | _, _, _, .nil => .nil
  | _, _, 0, .cons _ t => .cons r t
  | _, _, i + 1, .cons q t => .cons q (Vals.set r i t)
theorem Vals.append : ∀ {xs ys : List V} {us ws : List Value}, Vals xs us → Vals ys ws → Vals (xs ++ ys) (us ++ ws)
  | _, _, _, _, .nil, s => s
  | _, _, _, _, .cons r t, s => .cons r (Vals.append t s)
theorem Vals.take : ∀ {xs : List V} {us : List Value} (n : Nat), Vals xs us → Vals (xs.take n) (us.take n)
  | _, _, 0, _ => .nil
  | _, _, _ + 1, .nil => .nil
  | _, _, n + 1, .cons r t => .cons r (Vals.take n t)
theorem Vals.drop : ∀ {xs : List V} {us : List Value} (n : Nat), Vals xs us → Vals (xs.drop n) (us.drop n)
  | _, _, 0, r => r
  | _, _, _ + 1, .nil => .nil
  | _, _, n + 1, .cons _ t => Vals.drop n t
def RelO : Option V → Option Value → Prop
  | some v, some u => RelV v u
  | none, none => True
  | _, _ => False
def KV {κ : Type} : List (κ × V) → List (κ × Value) → Prop := Paired fun (p : κ × V) (q : κ × Value) => p.1 = q.1 ∧ RelV p.2 q.2
def kV : Key → V
  | .inl i => .int i
  | .inr x => .str x
inductive HO where
    | lst (xs : List V)
    | tup (xs : List V)
    | dK (kvs : List (Key × V)) | dT (kvs : List (List Key × V))
    | set (S : Int → Bool) (n : Nat)
    | ins (C dx : Addr) (fs : List (Str × V))
    | own (x : Addr)
    | xd (fs : List (Str × V))
    | met (f x : Addr)
    | rng (lo hi : Int)
    | frz (o : Obj) (u : HO)
    | tbl (ps : Array Value)
    | ext (φ : Heap → Prop)
abbrev Hp := Addr → Option HO
def upd (H : Hp) (a : Addr) (o : HO) : Hp := fun b => if b = a then some o else H b
theorem upd_same {H : Hp} {a : Addr} {o : HO} : upd H a o a = some o := by unfold upd; rw [if_pos rfl]
theorem upd_ne {H : Hp} {a b : Addr} {o : HO} (h : b ≠ a) : upd H a o b = H b := by unfold upd; rw [if_neg h]
theorem ne_of_none {H : Hp} {a b : Addr} {o : HO} (h : H a = some o) (h' : H b = none) : a ≠ b := by
  intro e; subst e; rw [h] at h'; cases h'
section
variable (P : Program) (w : World)
def ObjOk (H : Hp) (h : Heap) (a : Addr) : HO → Prop
  | .lst xs => xs.length ≤ sizeLine ∧ ∃ (its : List Value) (n : Nat), Vals xs its ∧ h.get? a = some { cls := .type "list", data := .seq its.toArray n }
  | .tup xs => xs.length ≤ sizeLine ∧ ∃ its : List Value, Vals xs its ∧ IsTup h a its.toArray
  | .dK kvs => kvs.length ≤ sizeLine ∧ (a == sysModules) = false ∧ ∃ vs, KV kvs vs ∧ h.DictOf (mixKind P w) a vs
  | .dT kvs => kvs.length ≤ sizeLine ∧ (a == sysModules) = false ∧ ∃ xs : List (List Key × Addr × Value),
      Paired (fun (p : List Key × V) (q : List Key × Addr × Value) => p.1 = q.1 ∧ H q.2.1 = some (.tup (p.1.map kV)) ∧ RelV p.2 q.2.2) kvs xs ∧
      ∃ o es ep, h.get? a = some o ∧ o.ExactDict ∧ o.data = .dict es ep ∧ es.toList = xs.map (entryOfKey (tupleKind (mixKind P w))) ∧ (xs.map (·.1)).Nodup
  | .set S n => h.SetOf (intKind P w) a S n
  | .ins C dx fs => H dx = some (.own a) ∧ fs.length ≤ 1000 ∧ dx ≠ a ∧ h.get? a = some (PySem.W.instObj C dx) ∧
      ∃ mA, h.Ns1 dx mA ∧ (∀ f, RelO (fs.lookup f) (mA f)) ∧ PySem.Within mA (fs.map (·.1))
  | .own _ => ∃ o, h.get? a = some o
  | .xd fs => ∃ mA, h.Ns1 a mA ∧ ∀ f, RelO (fs.lookup f) (mA f)
  | .rng lo hi => ∃ t u v, h.get? a = some { cls := .type "range", data := .fields #[.int lo t, .int hi u, .int 1 v] }
  | .frz o u => h.get? a = some o ∧ ObjOk H h a u
  | .tbl ps => h.get? a = some { cls := .none, data := .fields ps }
  | .met f x => h.get? a = some (PySem.W.methodObj (.ref f) (.ref x))
  | .ext φ => φ h ∧ (∃ o, h.get? a = some o) ∧ ∀ h1 h2 : Heap, φ h1 → (∀ o, h1.get? a = some o → h2.get? a = some o) → φ h2
def HOk (H : Hp) (h : Heap) : Prop := ∀ a o, H a = some o → ObjOk P w H h a o
end
section
variable {P : Program} {w : World} {H H' : Hp} {h h' : Heap} {a : Addr} {o : HO}
theorem ObjOk.lt (x : ObjOk P w H h a o) : a < h.objs.size := by
  cases o with
  | lst xs => obtain ⟨_, _, _, _, e⟩ := x; exact Heap.lt_size e
  | tup xs => obtain ⟨_, _, _, p⟩ := x; exact p.lt
  | dK kvs => obtain ⟨_, _, _, _, o, _, _, e, _⟩ := x; exact Heap.lt_size e
  | dT kvs => obtain ⟨_, _, _, _, o, _, _, e, _⟩ := x; exact Heap.lt_size e
  | set S n => obtain ⟨o, _, _, _, e, _⟩ := x; exact Heap.lt_size e
  | ins C dx fs => obtain ⟨_, _, _, e, _⟩ := x; exact Heap.lt_size e
  | own y => obtain ⟨_, e⟩ := x; exact Heap.lt_size e
  | xd fs => obtain ⟨_, ⟨_, _, _, e, _⟩, _⟩ := x; exact Heap.lt_size e
  | rng lo hi => obtain ⟨_, _, _, e⟩ := x; exact Heap.lt_size e
  | frz ob u => obtain ⟨e, _⟩ := x; exact Heap.lt_size e
  | tbl ps => exact Heap.lt_size (show h.get? a = some _ from x)
  | met f y => exact Heap.lt_size (show h.get? a = some _ from x)
  | ext φ => obtain ⟨_, ⟨_, e⟩, _⟩ := x; exact Heap.lt_size e
theorem Paired.mapP {α β : Type} {F G : α → β → Prop} : ∀ {l₁ : List α} {l₂ : List β}, Paired F l₁ l₂ → (∀ a b, F a b → G a b) → Paired G l₁ l₂
  | _, _, .nil, _ => .nil
  | _, _, .cons r t, f => .cons (f _ _ r) (Paired.mapP t f)
theorem ObjOk.stay (x : ObjOk P w H h a o) (k : ∀ b u, (b = a ∨ H b = some (.own a)) → h.get? b = some u → h'.get? b = some u)
    (ho : ∀ b, H b = some (.own a) → H' b = some (.own a)) (ht : ∀ b xs, H b = some (.tup xs) → H' b = some (.tup xs)) : ObjOk P w H' h' a o := by
  induction o with
  | lst xs => obtain ⟨z, its, n, r, e⟩ := x; exact ⟨z, its, n, r, k _ _ (.inl rfl) e⟩
  | tup xs => obtain ⟨z, its, r, ob, e, c⟩ := x; exact ⟨z, its, r, ob, k _ _ (.inl rfl) e, c⟩
  | dK kvs => obtain ⟨z, y, vs, r, ob, es, ep, e, c⟩ := x; exact ⟨z, y, vs, r, ob, es, ep, k _ _ (.inl rfl) e, c⟩
  | dT kvs =>
    obtain ⟨z, y, xs, r, ob, es, ep, e, c⟩ := x
    exact ⟨z, y, xs, Paired.mapP r fun p q z => ⟨z.1, ht _ _ z.2.1, z.2.2⟩, ob, es, ep, k _ _ (.inl rfl) e, c⟩
  | set S n => obtain ⟨ob, es, ep, t, e, c⟩ := x; exact ⟨ob, es, ep, t, k _ _ (.inl rfl) e, c⟩
  | ins C dx fs =>
    obtain ⟨d, z, ne, e, mA, ⟨od, es, ep, e2, c⟩, r⟩ := x
    exact ⟨ho _ d, z, ne, k _ _ (.inl rfl) e, mA, ⟨od, es, ep, k _ _ (.inr d) e2, c⟩, r⟩
  | own y => obtain ⟨ob, e⟩ := x; exact ⟨ob, k _ _ (.inl rfl) e⟩
  | xd fs => obtain ⟨mA, ⟨od, es, ep, e, c⟩, r⟩ := x; exact ⟨mA, ⟨od, es, ep, k _ _ (.inl rfl) e, c⟩, r⟩
  | rng lo hi => obtain ⟨t, u, v, e⟩ := x; exact ⟨t, u, v, k _ _ (.inl rfl) e⟩
  | frz ob u ih => obtain ⟨e, q⟩ := x; exact ⟨k _ _ (.inl rfl) e, ih q⟩
  | tbl ps =>
    have e : h.get? a = some { cls := .none, data := .fields ps } := x
    show h'.get? a = some { cls := .none, data := .fields ps }
    exact k a _ (.inl rfl) e
  | met f y =>
    have e : h.get? a = some (PySem.W.methodObj (.ref f) (.ref y)) := x
    show h'.get? a = some (PySem.W.methodObj (.ref f) (.ref y))
    exact k a _ (.inl rfl) e
  | ext φ => obtain ⟨p, ⟨o, e⟩, st⟩ := x; exact ⟨st _ _ p fun o q => k _ _ (.inl rfl) q, ⟨o, k _ _ (.inl rfl) e⟩, st⟩
theorem HOk.lt (x : HOk P w H h) (e : H a = some o) : a < h.objs.size := (x a o e).lt
theorem HOk.fresh (x : HOk P w H h) (e : h.objs.size ≤ a) : H a = none := by
  cases q : H a with
  | none => rfl
  | some u => exact absurd (Nat.lt_of_lt_of_le (x.lt q) e) (Nat.lt_irrefl _)
theorem HOk.kept (x : HOk P w H h) (k : ∀ b u, h.get? b = some u → h'.get? b = some u) : HOk P w H h' := fun a o e =>
  (x a o e).stay (fun b u _ q => k b u q) (fun _ q => q) fun _ _ q => q
theorem HOk.laid (x : HOk P w H h) (k : ∀ b u, h.get? b = some u → h'.get? b = some u) (hp : h.objs.size ≤ a) (new : ObjOk P w (upd H a o) h' a o) : HOk P w (upd H a o) h' := fun b u e => by
  have hn := x.fresh hp
  by_cases hb : b = a
  · subst hb; rw [upd_same] at e; cases e; exact new
  · rw [upd_ne hb] at e
    exact (x b u e).stay (fun c v _ q => k c v q) (fun c q => by rw [upd_ne (ne_of_none q hn)]; exact q) fun c xs q => by rw [upd_ne (ne_of_none q hn)]; exact q
end
def Rd (H : Hp) (a : Addr) (u : HO) : Prop := H a = some u ∨ ∃ o, H a = some (.frz o u)
theorem Rd.of {H : Hp} {a : Addr} {u : HO} (h : H a = some u) : Rd H a u := .inl h
theorem Rd.ok {P : Program} {w : World} {H : Hp} {h : Heap} {a : Addr} {u : HO} (r : Rd H a u) (x : HOk P w H h) : ObjOk P w H h a u := by
  rcases r with r | ⟨o, r⟩
  · exact x a u r
  · obtain ⟨_, q⟩ := x a _ r
    exact q
def Mut : Option HO → Prop
  | some (.lst _) => True
  | some (.dK _) => True
  | some (.dT _) => True
  | some (.set _ _) => True
  | some (.ins _ _ _) => True
  | some (.ext _) => True
  | _ => False
section
variable {P : Program} {w : World} {H : Hp} {h h' : Heap} {x e : Addr} {o' : HO}
theorem HOk.write (ok : HOk P w H h) (mu : Mut (H x)) (he : e = x ∨ H e = some (.own x)) (k : ∀ b u, b ≠ e → h.get? b = some u → h'.get? b = some u) (heo : ∃ u, h'.get? e = some u)
    (new : ObjOk P w (upd H x o') h' x o') : HOk P w (upd H x o') h' := fun b u q => by
  have nown : ∀ c y, H c = some (.own y) → c ≠ x := fun c y r z => by subst z; rw [r] at mu; exact mu
  have ntup : ∀ c xs, H c = some (.tup xs) → c ≠ x := fun c xs r z => by subst z; rw [r] at mu; exact mu
  by_cases hb : b = x
  · subst hb; rw [upd_same] at q; cases q; exact new
  · rw [upd_ne hb] at q
    by_cases hbe : b = e
    · have q' : H b = some (.own x) := by
        rcases he with z | z
        · exact absurd (hbe.trans z) hb
        · rw [hbe]; exact z
      rw [q] at q'; cases q'
      obtain ⟨v, hv⟩ := heo
      exact ⟨v, by rw [hbe]; exact hv⟩
    · refine (ok b u q).stay (fun c v hc r => k c v ?_ r) (fun c r => by rw [upd_ne (nown c b r)]; exact r) fun c xs r => by rw [upd_ne (ntup c xs r)]; exact r
      rcases hc with rfl | hc
      · exact hbe
      · rintro rfl
        rcases he with z | z
        · exact nown c b hc z
        · rw [hc] at z; cases z; exact hb rfl
end
structure Un (fs ex : List Addr) (H H' : Hp) (h h' : Heap) : Prop where
  keep : ∀ b o, h.get? b = some o → H b = none → b ∉ fs → b ∉ ex → h'.get? b = some o
  slot : ∀ b o, h.get? b = some o → H b = none → b ∈ fs → b ∉ ex → ∃ sl, h'.get? b = some { o with slots := sl }
  free : ∀ b o, h.get? b = some o → H b = none → b ∉ ex → H' b = none
  there : ∀ b o, h.get? b = some o → b ∉ ex → ∃ o', h'.get? b = some o'
  tups : ∀ b xs, H b = some (.tup xs) → H' b = some (.tup xs)
  frzs : ∀ b o u, H b = some (.frz o u) → H' b = some (.frz o u)
  tbls : ∀ b ps, H b = some (.tbl ps) → ∃ more, H' b = some (.tbl (ps ++ more))
section
variable {fs fs' ex ex' : List Addr} {H H1 H2 : Hp} {h h1 h2 h' : Heap} {a x e : Addr} {o : HO}
theorem Un.any (u : Un fs ex H H1 h h1) {b : Addr} {ob : Obj} (q : h.get? b = some ob) (n : H b = none) (hx : b ∉ ex) : ∃ sl, h1.get? b = some { ob with slots := sl } := by
  by_cases hb : b ∈ fs
  · exact u.slot b ob q n hb hx
  · exact ⟨ob.slots, u.keep b ob q n hb hx⟩
theorem Un.trans (a : Un fs ex H H1 h h1) (b : Un fs ex H1 H2 h1 h2) : Un fs ex H H2 h h2 where
  keep := fun c ob q n hc hx => b.keep c ob (a.keep c ob q n hc hx) (a.free c ob q n hx) hc hx
  slot := fun c ob q n hc hx => by
    obtain ⟨sl, e1⟩ := a.slot c ob q n hc hx
    obtain ⟨sl', e2⟩ := b.slot c _ e1 (a.free c ob q n hx) hc hx
    exact ⟨sl', e2⟩
  free := fun c ob q n hx => by
    obtain ⟨o', e1⟩ := a.there c ob q hx
    exact b.free c o' e1 (a.free c ob q n hx) hx
  there := fun c ob q hx => by
    obtain ⟨o', e1⟩ := a.there c ob q hx
    exact b.there c o' e1 hx
  tups := fun c xs q => b.tups c xs (a.tups c xs q)
  frzs := fun c ob xs q => b.frzs c ob xs (a.frzs c ob xs q)
  tbls := fun c ps q => by
    obtain ⟨m1, e1⟩ := a.tbls c ps q
    obtain ⟨m2, e2⟩ := b.tbls c _ e1
    exact ⟨m1 ++ m2, by rw [e2, Array.append_assoc]⟩
theorem Un.kept (k : ∀ b u, h.get? b = some u → h'.get? b = some u) : Un fs ex H H h h' :=
  ⟨fun b ob q _ _ _ => k b ob q, fun b ob q _ _ _ => ⟨ob.slots, k b ob q⟩, fun _ _ _ n _ => n, fun b ob q _ => ⟨ob, k b ob q⟩, fun _ _ q => q, fun _ _ _ q => q, fun _ ps q => ⟨#[], by rw [q]; simp⟩⟩
theorem Un.refl : Un fs ex H H h h := Un.kept fun _ _ q => q
theorem Un.laid (k : ∀ b u, h.get? b = some u → h'.get? b = some u) (hp : h.objs.size ≤ a) (hn : H a = none) : Un fs ex H (upd H a o) h h' where
  keep := fun b u q _ _ _ => k b u q
  slot := fun b u q _ _ _ => ⟨u.slots, k b u q⟩
  free := fun b u q n _ => by rw [upd_ne (Nat.ne_of_lt (Nat.lt_of_lt_of_le (Heap.lt_size q) hp))]; exact n
  there := fun b u q _ => ⟨u, k b u q⟩
  tups := fun b xs q => by rw [upd_ne (ne_of_none q hn)]; exact q
  frzs := fun b u xs q => by rw [upd_ne (ne_of_none q hn)]; exact q
  tbls := fun b ps q => ⟨#[], by rw [upd_ne (ne_of_none q hn), q]; simp⟩
theorem Un.write (mu : Mut (H x)) (he : e = x ∨ H e = some (.own x)) (k : ∀ b u, b ≠ e → h.get? b = some u → h'.get? b = some u) (heo : ∃ u, h'.get? e = some u) : Un fs ex H (upd H x o) h h' := by
  have hx : ∀ b, H b = none → b ≠ x := fun b n z => by subst z; rw [n] at mu; exact mu
  have hb : ∀ b, H b = none → b ≠ e := fun b n z => by
    subst z
    rcases he with r | r
    · exact hx b n r
    · rw [n] at r; cases r
  have hm : ∀ b u, H b = some u → ¬ Mut (some u) → b ≠ x := fun b u q nm z => by subst z; rw [q] at mu; exact nm mu
  refine ⟨fun b u q n _ _ => k b u (hb b n) q, fun b u q n _ _ => ⟨u.slots, k b u (hb b n) q⟩, fun b u q n _ => by rw [upd_ne (hx b n)]; exact n, fun b u q _ => ?_,
    fun b xs q => by rw [upd_ne (hm b _ q fun z => z)]; exact q, fun b u xs q => by rw [upd_ne (hm b _ q fun z => z)]; exact q, fun b ps q => ⟨#[], by rw [upd_ne (hm b _ q fun z => z), q]; simp⟩⟩
  by_cases hbe : b = e
  · subst hbe; exact heo
  · exact ⟨u, k b u hbe q⟩
theorem Un.mono (u : Un fs ex H H1 h h1) (hs : ∀ b ∈ fs, b ∈ fs') (hx : ∀ b ∈ ex, b ∈ ex') : Un fs' ex' H H1 h h1 :=
  ⟨fun b ob q n hb he => u.keep b ob q n (fun z => hb (hs b z)) fun z => he (hx b z), fun _ _ q n _ he => u.any q n fun z => he (hx _ z), fun b ob q n he => u.free b ob q n fun z => he (hx b z), fun b ob q he => u.there b ob q fun z => he (hx b z), u.tups, u.frzs, u.tbls⟩
end
def trk (h : Heap) (H : Hp) : List Addr := (List.range h.objs.size).filter fun a => (H a).isSome
def hidT (h : Heap) (H : Hp) : Heap := PySem.W.hideAll h (trk h H)
theorem hidT_size (h : Heap) (H : Hp) : (hidT h H).objs.size = h.objs.size := PySem.W.hideAll_size _ _
theorem hidT_get {h : Heap} {H : Hp} {b : Addr} {o : Obj} (e : h.get? b = some o) (n : H b = none) : (hidT h H).get? b = some o :=
  PySem.W.hideAll_get _ e fun hm => by
    have q : (H b).isSome = true := (List.mem_filter.mp hm).2
    rw [n] at q; simp at q
theorem of_hidT {h : Heap} {H : Hp} {b : Addr} {o : Obj} (e : (hidT h H).get? b = some o) : h.get? b = some o ∧ H b = none := by
  have e' : h.get? b = some o := PySem.W.of_hideAll (trk h H) e
  refine ⟨e', ?_⟩
  cases q : H b with
  | none => rfl
  | some x =>
    have hm : b ∈ trk h H := List.mem_filter.mpr ⟨List.mem_range.mpr (Heap.lt_size e'), by simp [q]⟩
    have z : (hidT h H).get? b = none := PySem.W.hideAll_none (trk h H) hm
    rw [z] at e; cases e
def allNews (g h : Heap) (L : Addr) : List (Addr × Obj) := (List.range h.objs.size).filterMap fun a => if a = L ∨ (g.get? a).isSome = true then none else (h.get? a).map fun o => (a, o)
def rest (g h : Heap) (L d : Addr) : List (Addr × Obj) := (allNews g h L).filter fun p => decide (p.1 ≠ d)
end L2
namespace L2
open PySem PySem.Spec PyProof.Rows
structure Mod (K : PySem.W.Frag) (mg : Str → Option Value) (base : Heap) : Prop where
  kin : K.In base
  glob : base.Ns mainGlobals mg
  blt : ∃ mb, base.Ns builtinsNs mb ∧ ∀ x : Str, x ≠ "__name__" → mb x = bootBuiltins x
  nolimit : base.NoLimit
structure Cx where
  prog : Program
  w : World
  K : PySem.W.Frag
  mg : Str → Option Value
  base : Heap
  A : Around
  N : List Str
  s₀ : Shared
  H₀ : Hp
  env : Env
  outer : List Env
  stack : List Env
  ex : List Addr
  fn : Str → Bool
  calm : Bool
  pn : List (Addr × Obj)
  xe : Value → Shared → Prop
def frs (l : List Env) : List Addr := l.filterMap (·.frame)
abbrev Cx.fs (X : Cx) : List Addr := frs X.outer
def Vis (sc : Scope) (x : Str) : Prop := sc.names.lookup x = some .local ∨ sc.names.lookup x = some .cell ∨ sc.names.lookup x = some .free
def Loc (sc : Scope) (x : Str) : Prop := sc.names.lookup x = some .local ∨ sc.names.lookup x = some .cell
def Look (env : Env) (h : Heap) (m : Str → Option Value) (x : Str) (u : Value) : Prop :=
  (env.kindOf x = some .local ∧ m x = some u) ∨ ((env.kindOf x = some .cell ∨ env.kindOf x = some .free) ∧ ∃ c, env.cells.lookup x = some c ∧ h.IsCell c (some u))
structure Cx.Ok (X : Cx) : Prop where
  mod : Mod X.K X.mg X.base
  kind : X.env.scope.kind = .function
  glob : X.env.globals = mainGlobals
  blt : X.env.builtins = builtinsNs
  above : X.s₀.heap.objs.size ≤ X.env.locals
  inj : ∀ x y c, X.env.cells.lookup x = some c → X.env.cells.lookup y = some c → x = y
  has : ∀ x, (X.env.kindOf x = some .cell ∨ X.env.kindOf x = some .free) → ∃ c, X.env.cells.lookup x = some c
  cab : ∀ x c, X.fn x = true → X.env.cells.lookup x = some c → X.s₀.heap.objs.size ≤ c
  hd : X.calm = true → X.A.handled = none
  frames : X.A.frames = some X.stack
  stk : X.stack = X.outer ∨ (X.stack = X.env :: X.outer ∧ X.env.frame = some X.env.locals)
  exf : ∀ b ∈ X.ex, b ≠ X.env.locals ∧ ∀ x c, X.env.cells.lookup x = some c → c ≠ b
  bs : ∀ b o, X.base.get? b = some o → X.s₀.heap.get? b = some o ∧ X.H₀ b = none
  bsz : X.base.objs.size ≤ X.s₀.heap.objs.size
  noex : ∀ b o, X.base.get? b = some o → b ∉ X.ex
  exfs : ∀ b ∈ X.ex, b ∉ X.fs
  funs : X.s₀.heap.FunFrames X.base X.outer
  frf : ∀ b ∈ X.fs, X.H₀ b = none
structure Inv (X : Cx) (pins : List (Addr × Obj)) (σ : List (Option V)) (H : Hp) (s : Shared) : Prop where
  ok : X.Ok
  os : s.os = X.s₀.os
  bare : AllBare s.gens
  base : Un X.fs X.ex X.H₀ H X.s₀.heap s.heap
  loc : ∃ m, s.heap.Ns X.env.locals m ∧ ∀ (i : Nat) (x : Str) (v : V), X.N[i]? = some x → σ[i]? = some (some v) → Vis X.env.scope x → ∃ u, RelV v u ∧ Look X.env s.heap m x u
  cell : ∀ x c, X.env.cells.lookup x = some c → ∃ v, s.heap.IsCell c v
  free : H X.env.locals = none
  freeC : ∀ x c, X.env.cells.lookup x = some c → H c = none
  pin : ∀ p ∈ X.pn ++ pins, s.heap.get? p.1 = some p.2 ∧ H p.1 = none ∧ p.1 ≠ X.env.locals ∧ p.1 ∉ X.fs ∧ ∀ v, p.2.data ≠ .cell v
  hok : HOk X.prog X.w H s.heap
  len : σ.length = X.N.length
section
variable {X : Cx} {pins : List (Addr × Obj)} {σ : List (Option V)} {H H' : Hp} {s : Shared} {h' : Heap}
theorem Cx.Ok.nofr (ok : X.Ok) {b : Addr} {o : Obj} (e : X.base.get? b = some o) : b ∉ X.fs := fun hb => by
  have := (ok.funs.mem hb).1
  rw [e] at this; cases this
theorem Inv.bs (I : Inv X pins σ H s) : ∀ b o, X.base.get? b = some o → s.heap.get? b = some o ∧ H b = none := fun b o e =>
  ⟨I.base.keep b o (I.ok.bs b o e).1 (I.ok.bs b o e).2 (I.ok.nofr e) (I.ok.noex b o e), I.base.free b o (I.ok.bs b o e).1 (I.ok.bs b o e).2 (I.ok.noex b o e)⟩
theorem Inv.bk (I : Inv X pins σ H s) : ∀ b o, X.base.get? b = some o → s.heap.get? b = some o := fun b o e => (I.bs b o e).1
theorem Inv.mod (I : Inv X pins σ H s) : Mod X.K X.mg X.base := I.ok.mod
theorem Inv.kIn (I : Inv X pins σ H s) : X.K.In s.heap := I.ok.mod.kin.keeps I.bk
theorem Inv.nolimit (I : Inv X pins σ H s) : s.heap.NoLimit := I.ok.mod.nolimit.keeps I.bk
theorem Inv.fr (I : Inv X pins σ H s) : ∃ m, Fr X.base X.env.locals s.heap m :=
  let ⟨m, hn, _⟩ := I.loc
  ⟨m, hn, I.bk, Nat.le_trans I.ok.bsz I.ok.above⟩
theorem Inv.lt (I : Inv X pins σ H s) : X.env.locals < s.heap.objs.size := let ⟨_, hn, _⟩ := I.loc; hn.lt
theorem Inv.sz (I : Inv X pins σ H s) : X.s₀.heap.objs.size ≤ s.heap.objs.size := Nat.le_trans I.ok.above (Nat.le_of_lt I.lt)
theorem Inv.nofs (I : Inv X pins σ H s) {a : Addr} (h : s.heap.objs.size ≤ a) : a ∉ X.fs := fun hb => by
  obtain ⟨_, o, ho, _⟩ := I.ok.funs.mem hb
  exact absurd (Nat.lt_of_lt_of_le (Heap.lt_size ho) (Nat.le_trans I.sz h)) (Nat.lt_irrefl _)
theorem Inv.cne (I : Inv X pins σ H s) : ∀ x c, X.env.cells.lookup x = some c → c ≠ X.env.locals := fun x c e z => by
  obtain ⟨v, o, ho, hd⟩ := I.cell x c e
  obtain ⟨m, ⟨o', es, ep, ho', hd', _⟩, _⟩ := I.loc
  rw [z, ho'] at ho; cases ho; rw [hd'] at hd; cases hd
theorem Inv.funs (I : Inv X pins σ H s) : s.heap.FunFrames X.base X.outer := by
  have all : ∀ (l : List Env), (∀ b ∈ frs l, b ∈ X.fs) → X.s₀.heap.FunFrames X.base l → s.heap.FunFrames X.base l := by
    intro l
    induction l with
    | nil => intro _ _; trivial
    | cons env r ih =>
      intro hs hl
      obtain ⟨hk, ⟨L, o, hf, hn, ho, hd⟩, hr⟩ := hl
      have hL : L ∈ X.fs := hs L (by unfold frs; rw [List.filterMap_cons, hf]; exact List.mem_cons_self)
      obtain ⟨sl, e⟩ := I.base.slot L o ho (I.ok.frf L hL) hL fun z => I.ok.exfs L z hL
      exact ⟨hk, ⟨L, _, hf, hn, e, hd⟩, ih (fun b hb => hs b (by unfold frs; rw [List.filterMap_cons, hf]; exact List.mem_cons_of_mem _ hb)) hr⟩
  exact all X.outer (fun _ hb => hb) I.ok.funs
theorem Inv.stack (I : Inv X pins σ H s) : s.heap.FunFrames X.base X.stack := by
  rcases I.ok.stk with e | ⟨e, hf⟩
  · rw [e]; exact I.funs
  · rw [e]
    obtain ⟨m, hn, _⟩ := I.loc
    refine .cons (by rw [I.ok.kind]; decide) hf hn ?_ I.funs
    exact Heap.get?_none_of_le (Nat.le_trans I.ok.bsz I.ok.above)
theorem Inv.stkSub (I : Inv X pins σ H s) : ∀ b ∈ frs X.stack, b ∈ X.env.locals :: X.fs := fun b hb => by
  rcases I.ok.stk with e | ⟨e, hf⟩
  · rw [e] at hb; exact List.mem_cons_of_mem _ hb
  · rw [e] at hb
    unfold frs at hb
    rw [List.filterMap_cons, hf] at hb
    exact hb
theorem Inv.stkFree (I : Inv X pins σ H s) : ∀ b ∈ frs X.stack, H b = none := fun b hb => by
  rcases List.mem_cons.mp (I.stkSub b hb) with e | hb
  · rw [e]; exact I.free
  · obtain ⟨_, o, ho, _⟩ := I.ok.funs.mem hb
    exact I.base.free b o ho (I.ok.frf b hb) fun z => I.ok.exfs b z hb
theorem Inv.step {g' : Array GenState} {t' : Nat} {d' : Drawn} {ch : List Addr} (I : Inv X pins σ H s)
    (hch : ∀ b ∈ ch, (b ∈ X.ex ∨ X.s₀.heap.objs.size ≤ b) ∧ b ≠ X.env.locals ∧ (∀ x c, X.env.cells.lookup x = some c → c ≠ b) ∧ ∀ p ∈ X.pn ++ pins, p.1 ≠ b)
    (keep : ∀ b o, b ≠ X.env.locals → b ∉ X.fs → b ∉ ch → s.heap.get? b = some o → H b = none → h'.get? b = some o)
    (slot : ∀ b o, b ≠ X.env.locals → b ∈ X.fs → b ∉ ch → s.heap.get? b = some o → H b = none → ∃ sl, h'.get? b = some { o with slots := sl }) (free : ∀ b o, b ∉ ch → s.heap.get? b = some o → H b = none → H' b = none)
    (there : ∀ b o, b ∉ ch → s.heap.get? b = some o → ∃ o', h'.get? b = some o')
    (tups : ∀ b xs, H b = some (.tup xs) → H' b = some (.tup xs)) (frzs : ∀ b o u, H b = some (.frz o u) → H' b = some (.frz o u)) (tbls : ∀ b ps, H b = some (.tbl ps) → ∃ more, H' b = some (.tbl (ps ++ more)))
    (ns : ∀ m, s.heap.Ns X.env.locals m → h'.Ns X.env.locals m) (hok : HOk X.prog X.w H' h') (hg : AllBare g') :
    Inv X pins σ H' { s with heap := h', gens := g', drawn := d', toks := t' } := by
  have neL : ∀ b o, X.s₀.heap.get? b = some o → b ≠ X.env.locals := fun b o e => Nat.ne_of_lt (Nat.lt_of_lt_of_le (Heap.lt_size e) I.ok.above)
  have neC : ∀ b o, X.s₀.heap.get? b = some o → b ∉ X.ex → b ∉ ch := fun b o e hx hb => by
    rcases (hch b hb).1 with z | z
    · exact hx z
    · exact absurd (Nat.lt_of_lt_of_le (Heap.lt_size e) z) (Nat.lt_irrefl _)
  have cellK : ∀ x c, X.env.cells.lookup x = some c → ∀ v, s.heap.IsCell c v → h'.IsCell c v := fun x c e v ⟨o, ho, hd⟩ => by
    have nch : c ∉ ch := fun z => (hch c z).2.2.1 x c e rfl
    by_cases hc : c ∈ X.fs
    · obtain ⟨sl, q⟩ := slot c o (I.cne x c e) hc nch ho (I.freeC x c e)
      exact ⟨_, q, hd⟩
    · exact ⟨o, keep c o (I.cne x c e) hc nch ho (I.freeC x c e), hd⟩
  refine ⟨I.ok, I.os, hg, ⟨fun b o e n hb hx => ?_, fun b o e n hb hx => ?_, fun b o e n hx => ?_, fun b o e hx => ?_, fun b xs e => tups b xs (I.base.tups b xs e), fun b o xs e => frzs b o xs (I.base.frzs b o xs e), fun b ps e => ?_⟩, ?_, fun x c e => ?_, ?_, fun x c e => ?_, fun p hp => ?_, hok, I.len⟩
  · exact keep b o (neL b o e) hb (neC b o e hx) (I.base.keep b o e n hb hx) (I.base.free b o e n hx)
  · obtain ⟨sl, e1⟩ := I.base.slot b o e n hb hx
    obtain ⟨sl', e2⟩ := slot b _ (neL b o e) hb (neC b o e hx) e1 (I.base.free b o e n hx)
    exact ⟨sl', e2⟩
  · obtain ⟨o', e1⟩ := I.base.there b o e hx
    exact free b o' (neC b o e hx) e1 (I.base.free b o e n hx)
  · obtain ⟨o', e1⟩ := I.base.there b o e hx
    exact there b o' (neC b o e hx) e1
  · obtain ⟨m1, e1⟩ := I.base.tbls b ps e
    obtain ⟨m2, e2⟩ := tbls b _ e1
    exact ⟨m1 ++ m2, by rw [e2, Array.append_assoc]⟩
  · obtain ⟨m, hn, hl⟩ := I.loc
    refine ⟨m, ns m hn, fun i x v e1 e2 e3 => ?_⟩
    obtain ⟨u, r, l⟩ := hl i x v e1 e2 e3
    refine ⟨u, r, ?_⟩
    rcases l with l | ⟨k, c, e, z⟩
    · exact .inl l
    · exact .inr ⟨k, c, e, cellK x c e _ z⟩
  · obtain ⟨v, z⟩ := I.cell x c e
    exact ⟨v, cellK x c e v z⟩
  · obtain ⟨m, ⟨o, _, _, ho, _⟩, _⟩ := I.loc
    exact free _ o (fun z => (hch _ z).2.1 rfl) ho I.free
  · obtain ⟨v, o, ho, hd⟩ := I.cell x c e
    exact free c o (fun z => (hch c z).2.2.1 x c e rfl) ho (I.freeC x c e)
  · obtain ⟨e, n, ne, nf, d⟩ := I.pin p hp
    have nch : p.1 ∉ ch := fun z => (hch p.1 z).2.2.2 p hp rfl
    exact ⟨keep p.1 p.2 ne nf nch e n, free p.1 p.2 nch e n, ne, nf, d⟩
theorem Inv.un {t' : Nat} (I : Inv X pins σ H s) (u : Un X.fs [] H H' s.heap h') (hok : HOk X.prog X.w H' h') : Inv X pins σ H' { s with heap := h', toks := t' } := by
  obtain ⟨m, ⟨o, es, ep, ho, r⟩, _⟩ := id I.loc
  obtain ⟨sl, hL⟩ := u.any ho I.free (by simp)
  exact I.step (g' := s.gens) (d' := s.drawn) (ch := []) (fun _ z => nomatch z) (fun b o _ hb _ e n => u.keep b o e n hb (by simp)) (fun b o _ hb _ e n => u.slot b o e n hb (by simp)) (fun b o _ e n => u.free b o e n (by simp)) (fun b o _ e => u.there b o e (by simp)) u.tups u.frzs u.tbls (fun m' hm => by
    obtain ⟨o', es', ep', ho', r'⟩ := hm
    rw [ho] at ho'; cases ho'
    exact ⟨_, es', ep', hL, r'⟩) hok I.bare
theorem Inv.call {g' : Array GenState} {t' : Nat} {d' : Drawn} {ch : List Addr} (I : Inv X pins σ H s) (u : Un (frs X.stack) ch H H' s.heap h') (hok : HOk X.prog X.w H' h') (hg : AllBare g')
    (hch : ∀ b ∈ ch, (b ∈ X.ex ∨ X.s₀.heap.objs.size ≤ b) ∧ b ≠ X.env.locals ∧ (∀ x c, X.env.cells.lookup x = some c → c ≠ b) ∧ ∀ p ∈ X.pn ++ pins, p.1 ≠ b) :
    Inv X pins σ H' { s with heap := h', gens := g', drawn := d', toks := t' } := by
  obtain ⟨m, ⟨o, es, ep, ho, r⟩, _⟩ := id I.loc
  obtain ⟨sl, hL⟩ := u.any ho I.free fun z => (hch _ z).2.1 rfl
  exact I.step (ch := ch) hch (fun b o hL hb hc e n => u.keep b o e n (fun z => (List.mem_cons.mp (I.stkSub b z)).elim hL hb) hc) (fun b o _ _ hc e n => u.any e n hc) (fun b o hc e n => u.free b o e n hc) (fun b o hc e => u.there b o e hc) u.tups u.frzs u.tbls (fun m' hm => by
    obtain ⟨o', es', ep', ho', r'⟩ := hm
    rw [ho] at ho'; cases ho'
    exact ⟨_, es', ep', hL, r'⟩) hok hg
theorem Inv.turned {t' : Nat} {it : Addr} (I : Inv X pins σ H s) (k : ∀ b o, b ≠ it → s.heap.get? b = some o → h'.get? b = some o) (hn : H it = none) (hL : it ≠ X.env.locals)
    (h1 : it ∈ X.ex ∨ X.s₀.heap.objs.size ≤ it) (h2 : ∀ x c, X.env.cells.lookup x = some c → c ≠ it) (h3 : ∀ p ∈ X.pn ++ pins, p.1 ≠ it) : Inv X pins σ H { s with heap := h', toks := t' } := by
  have nit : ∀ b u, H b = some u → b ≠ it := fun b u e z => by rw [z, hn] at e; cases e
  refine I.step (g' := s.gens) (d' := s.drawn) (ch := [it]) (fun b hb => ?_) (fun b o _ _ hc e _ => k b o (fun z => hc (by simp [z])) e) (fun b o _ _ hc e _ => ⟨o.slots, k b o (fun z => hc (by simp [z])) e⟩) (fun _ _ _ _ n => n)
    (fun b o hc e => ⟨o, k b o (fun z => hc (by simp [z])) e⟩) (fun _ _ e => e) (fun _ _ _ e => e) (fun b ps e => ⟨#[], by rw [e]; simp⟩) (fun m hm => ?_) (fun b u e => ?_) I.bare
  · have e : b = it := by simpa using hb
    subst e
    exact ⟨h1, hL, h2, h3⟩
  · obtain ⟨o, es, ep, ho, r⟩ := hm
    exact ⟨o, es, ep, k _ o (Ne.symm hL) ho, r⟩
  · refine (I.hok b u e).stay (fun c v hc q => k c v ?_ q) (fun _ q => q) fun _ _ q => q
    rcases hc with z | z
    · rw [z]; exact nit b u e
    · exact nit c _ z
theorem Inv.tok (I : Inv X pins σ H s) (t : Nat) : Inv X pins σ H { s with toks := t } := I.un (h' := s.heap) (t' := t) Un.refl I.hok
theorem Inv.kept {t' : Nat} (I : Inv X pins σ H s) (k : ∀ b u, s.heap.get? b = some u → h'.get? b = some u) : Inv X pins σ H { s with heap := h', toks := t' } := I.un (Un.kept k) (I.hok.kept k)
theorem Inv.laid {a : Addr} {o : HO} {t' : Nat} (I : Inv X pins σ H s) (k : ∀ b u, s.heap.get? b = some u → h'.get? b = some u) (hp : s.heap.objs.size ≤ a) (new : ObjOk X.prog X.w (upd H a o) h' a o) :
    Inv X pins σ (upd H a o) { s with heap := h', toks := t' } := I.un (Un.laid k hp (I.hok.fresh hp)) (I.hok.laid k hp new)
theorem Inv.write {x e : Addr} {o : HO} {t' : Nat} (I : Inv X pins σ H s) (mu : Mut (H x)) (he : e = x ∨ H e = some (.own x)) (k : ∀ b u, b ≠ e → s.heap.get? b = some u → h'.get? b = some u) (heo : ∃ u, h'.get? e = some u)
    (new : ObjOk X.prog X.w (upd H x o) h' x o) : Inv X pins σ (upd H x o) { s with heap := h', toks := t' } := I.un (Un.write mu he k heo) (I.hok.write mu he k heo new)
theorem Inv.weak {σ' : List (Option V)} (I : Inv X pins σ H s) (hl : σ'.length = σ.length) (w : ∀ (i : Nat) v, σ'[i]? = some (some v) → σ[i]? = some (some v)) : Inv X pins σ' H s :=
  ⟨I.ok, I.os, I.bare, I.base, let ⟨m, hn, hl'⟩ := I.loc; ⟨m, hn, fun i x v e1 e2 e3 => hl' i x v e1 (w i v e2) e3⟩, I.cell, I.free, I.freeC, I.pin, I.hok, hl.trans I.len⟩
theorem Inv.pins_of {pins' : List (Addr × Obj)} (I : Inv X pins σ H s) (h : ∀ p ∈ pins', s.heap.get? p.1 = some p.2 ∧ H p.1 = none ∧ p.1 ≠ X.env.locals ∧ p.1 ∉ X.fs ∧ ∀ v, p.2.data ≠ .cell v) : Inv X pins' σ H s :=
  ⟨I.ok, I.os, I.bare, I.base, I.loc, I.cell, I.free, I.freeC, fun p hp => (List.mem_append.mp hp).elim (fun z => I.pin p (List.mem_append_left _ z)) (h p), I.hok, I.len⟩
theorem nodup_ix {N : List Str} (hN : N.Nodup) {i j : Nat} {x : Str} (a : N[i]? = some x) (b : N[j]? = some x) : i = j := by
  obtain ⟨h1, e1⟩ := List.getElem?_eq_some_iff.mp a
  obtain ⟨h2, e2⟩ := List.getElem?_eq_some_iff.mp b
  exact (List.getElem_inj hN).mp (e1.trans e2.symm)
theorem store_ok2 {M : Model} {A : Around} {E : Value → Shared → Prop} {i : Nat} {x : Str} {v : V} {u : Value} {Q : Unit → Shared → Prop} (I : Inv X pins σ H s) (hN : X.N.Nodup) (hi : X.N[i]? = some x) (hx : Loc X.env.scope x) (r : RelV v u)
    (h : ∀ s', Inv X pins (σ.set i (some v)) H s' → (∃ a, Heap.SameBut a s.heap s'.heap ∧ (a = X.env.locals ∨ X.env.cells.lookup x = some a)) → Q () s') (hf : X.fn x = true ∨ X.env.scope.names.lookup x = some .local := by first | exact .inl rfl | exact .inr rfl | assumption) : wpAny M A (storeName X.env x u) Q E s := by
  obtain ⟨m, hn, hl⟩ := id I.loc
  have hcls : (X.env.scope.kind == .class || (X.env.scope.kind == .module && X.env.locals != X.env.globals)) = false := by rw [I.ok.kind]; rfl
  have hiσ : i < σ.length := by rw [I.len]; exact (List.getElem?_eq_some_iff.mp hi).1
  have cne := I.cne
  have tracked : ∀ {a : Addr} {h' : Heap}, (∃ o, s.heap.get? a = some o ∧ H a = none) → Heap.SameBut a s.heap h' → HOk X.prog X.w H h' := fun {a h'} ha hs b ob e => by
    obtain ⟨_, _, hfree⟩ := ha
    refine (I.hok b ob e).stay (fun c w' hc q => (hs.2 c ?_).trans q) (fun _ q => q) fun _ _ q => q
    rintro rfl
    rcases hc with rfl | hc
    · rw [hfree] at e; cases e
    · rw [hfree] at hc; cases hc
  rcases hx with hk | hk
  · refine wpAny_storeName_local hk hn (fun h' hn' hs => ?_) hcls
    obtain ⟨oL, _, _, hoL, _⟩ := id hn
    refine h _ ⟨I.ok, I.os, I.bare, ⟨fun b o e n hb hx => ?_, fun b o e n hb hx => ?_, I.base.free, fun b o e hx => ?_, I.base.tups, I.base.frzs, I.base.tbls⟩, ⟨_, hn', fun j y v' e1 e2 e3 => ?_⟩, fun y c e => ?_, I.free, I.freeC, fun p hp => ?_, tracked ⟨oL, hoL, I.free⟩ hs, by simpa using I.len⟩ ⟨_, hs, .inl rfl⟩
    · exact (hs.2 b (Nat.ne_of_lt (Nat.lt_of_lt_of_le (Heap.lt_size e) I.ok.above))).trans (I.base.keep b o e n hb hx)
    · obtain ⟨sl, e1⟩ := I.base.slot b o e n hb hx
      exact ⟨sl, (hs.2 b (Nat.ne_of_lt (Nat.lt_of_lt_of_le (Heap.lt_size e) I.ok.above))).trans e1⟩
    · obtain ⟨o', e1⟩ := I.base.there b o e hx
      exact ⟨o', (hs.2 b (Nat.ne_of_lt (Nat.lt_of_lt_of_le (Heap.lt_size e) I.ok.above))).trans e1⟩
    · by_cases hj : j = i
      · subst hj
        rw [hi] at e1; cases e1
        rw [List.getElem?_set_self hiσ] at e2
        cases e2
        exact ⟨u, r, .inl ⟨hk, by simp⟩⟩
      · rw [List.getElem?_set_ne (Ne.symm hj)] at e2
        obtain ⟨u', r', q⟩ := hl j y v' e1 e2 e3
        refine ⟨u', r', ?_⟩
        rcases q with ⟨k, e⟩ | ⟨k, c, e, z⟩
        · refine .inl ⟨k, ?_⟩
          have : y ≠ x := fun e => hj (nodup_ix hN e1 (e ▸ hi))
          simp [this, e]
        · exact .inr ⟨k, c, e, z.sameBut hs (cne y c e)⟩
    · obtain ⟨w', z⟩ := I.cell y c e
      exact ⟨w', z.sameBut hs (cne y c e)⟩
    · obtain ⟨e, n, ne, nf, d⟩ := I.pin p hp
      exact ⟨(hs.2 p.1 ne).trans e, n, ne, nf, d⟩
  · have hfn : X.fn x = true := by
      rcases hf with z | z
      · exact z
      · rw [z] at hk; cases hk
    obtain ⟨c, hc⟩ := I.ok.has x (.inl hk)
    obtain ⟨w', z⟩ := I.cell x c hc
    refine wpAny_storeName_cell I.ok.kind hk hc z (fun h' hc' hs => ?_)
    obtain ⟨oc, hoc, hocd⟩ := id z
    refine h { s with heap := h' } ⟨I.ok, I.os, I.bare, ⟨fun b o e n hb hx => ?_, fun b o e n hb hx => ?_, I.base.free, fun b o e hx => ?_, I.base.tups, I.base.frzs, I.base.tbls⟩, ⟨m, hn.sameBut hs (Ne.symm (cne x c hc)), fun j y v' e1 e2 e3 => ?_⟩, fun y c' e => ?_, I.free, I.freeC, fun p hp => ?_, tracked ⟨oc, hoc, I.freeC x c hc⟩ hs, by simpa using I.len⟩ ⟨c, hs, .inr hc⟩
    · exact (hs.2 b (Nat.ne_of_lt (Nat.lt_of_lt_of_le (Heap.lt_size e) (I.ok.cab x c hfn hc)))).trans (I.base.keep b o e n hb hx)
    · obtain ⟨sl, e1⟩ := I.base.slot b o e n hb hx
      exact ⟨sl, (hs.2 b (Nat.ne_of_lt (Nat.lt_of_lt_of_le (Heap.lt_size e) (I.ok.cab x c hfn hc)))).trans e1⟩
    · obtain ⟨o', e1⟩ := I.base.there b o e hx
      exact ⟨o', (hs.2 b (Nat.ne_of_lt (Nat.lt_of_lt_of_le (Heap.lt_size e) (I.ok.cab x c hfn hc)))).trans e1⟩
    · by_cases hj : j = i
      · subst hj
        rw [hi] at e1; cases e1
        rw [List.getElem?_set_self hiσ] at e2
        cases e2
        exact ⟨u, r, .inr ⟨.inl hk, c, hc, hc'⟩⟩
      · rw [List.getElem?_set_ne (Ne.symm hj)] at e2
        obtain ⟨u', r', q⟩ := hl j y v' e1 e2 e3
        refine ⟨u', r', ?_⟩
        rcases q with q | ⟨k, c', e, z'⟩
        · exact .inl q
        · refine .inr ⟨k, c', e, z'.sameBut hs ?_⟩
          rintro rfl
          exact hj (nodup_ix hN e1 (I.ok.inj _ _ _ e hc ▸ hi))
    · by_cases hcc : c' = c
      · subst hcc; exact ⟨_, hc'⟩
      · obtain ⟨w2, z2⟩ := I.cell y c' e
        exact ⟨w2, z2.sameBut hs hcc⟩
    · obtain ⟨e, n, ne, nf, d⟩ := I.pin p hp
      refine ⟨(hs.2 p.1 ?_).trans e, n, ne, nf, d⟩
      intro q
      rw [q, hoc] at e
      have q' : oc = p.2 := Option.some.inj e
      exact d w' (by rw [← q']; exact hocd)
theorem store_ok {M : Model} {A : Around} {E : Value → Shared → Prop} {i : Nat} {x : Str} {v : V} {u : Value} {Q : Unit → Shared → Prop} (I : Inv X pins σ H s) (hN : X.N.Nodup) (hi : X.N[i]? = some x) (hx : Loc X.env.scope x) (r : RelV v u)
    (h : ∀ s', Inv X pins (σ.set i (some v)) H s' → Q () s') (hf : X.fn x = true ∨ X.env.scope.names.lookup x = some .local := by first | exact .inl rfl | exact .inr rfl | assumption) : wpAny M A (storeName X.env x u) Q E s :=
  store_ok2 I hN hi hx r (fun s' I' _ => h s' I') hf
theorem Inv.call' {s' : Shared} {ch : List Addr} (I : Inv X pins σ H s) (ho : s'.os = s.os) (u : Un (frs X.stack) ch H H' s.heap s'.heap) (hok : HOk X.prog X.w H' s'.heap) (hg : AllBare s'.gens)
    (hch : ∀ b ∈ ch, (b ∈ X.ex ∨ X.s₀.heap.objs.size ≤ b) ∧ b ≠ X.env.locals ∧ (∀ x c, X.env.cells.lookup x = some c → c ≠ b) ∧ ∀ p ∈ X.pn ++ pins, p.1 ≠ b) : Inv X pins σ H' s' := by
  obtain ⟨h', g', d', t', o'⟩ := s'
  have e : o' = s.os := ho
  subst e
  exact I.call (g' := g') (t' := t') (d' := d') u hok hg hch
end
abbrev XK := Value → Option Addr → Hp → Prop
abbrev St := List (Option V)
abbrev VK := V → Hp → Prop
abbrev TE := St → Hp → VK → Prop
abbrev TT := St → Hp → (Bool → Hp → Prop) → Prop
abbrev TA := St → Hp → (List V → Hp → Prop) → Prop
structure Ends where
  nx : St → Hp → Prop
  rt : VK
  bk : St → Hp → Prop := fun _ _ => False
  ct : St → Hp → Prop := fun _ _ => False
abbrev TS := Ends → St → Hp → Prop
def EP (X : Cx) (pins : List (Addr × Obj)) (σ : St) (Q : VK) (u : Value) (s' : Shared) : Prop := ∃ v H', Inv X pins σ H' s' ∧ RelV v u ∧ Q v H'
def TP (X : Cx) (pins : List (Addr × Obj)) (σ : St) (Q : Bool → Hp → Prop) (b : Bool) (s' : Shared) : Prop := ∃ H', Inv X pins σ H' s' ∧ Q b H'
def AP (X : Cx) (pins : List (Addr × Obj)) (σ : St) (Q : List V → Hp → Prop) (us : List Value) (s' : Shared) : Prop := ∃ vs H', Inv X pins σ H' s' ∧ Vals vs us ∧ Q vs H'
def SP (X : Cx) (pins : List (Addr × Obj)) (D : Ends) (f : Flow) (s' : Shared) : Prop :=
  match f with
  | .next => ∃ σ' H', Inv X pins σ' H' s' ∧ D.nx σ' H'
  | .brk => ∃ σ' H', Inv X pins σ' H' s' ∧ D.bk σ' H'
  | .cont => ∃ σ' H', Inv X pins σ' H' s' ∧ D.ct σ' H'
  | .ret u => ∃ v σ' H', Inv X pins σ' H' s' ∧ RelV v u ∧ D.rt v H'
def PE (X : Cx) (e : Expr) (t : TE) : Prop :=
  ∀ (pins : List (Addr × Obj)) (s : Shared) (σ : St) (H : Hp) (Q : VK), Inv X pins σ H s → t σ H Q → wpAny (model X.prog X.w) X.A (eval e X.env) (EP X pins σ Q) X.xe s
def PT (X : Cx) (e : Expr) (t : TT) : Prop :=
  ∀ (pins : List (Addr × Obj)) (s : Shared) (σ : St) (H : Hp) (Q : Bool → Hp → Prop), Inv X pins σ H s → t σ H Q → wpAny (model X.prog X.w) X.A (isTrue e X.env (eval e X.env)) (TP X pins σ Q) X.xe s
def PW (X : Cx) (e : Expr) (t : TT) : Prop :=
  ∀ (whole : Sem Value) (pins : List (Addr × Obj)) (s : Shared) (σ : St) (H : Hp) (Q : Bool → Hp → Prop), Inv X pins σ H s → t σ H Q → wpAny (model X.prog X.w) X.A (isTrue e X.env whole) (TP X pins σ Q) X.xe s
theorem PW.pt {X : Cx} {e : Expr} {t : TT} (h : PW X e t) : PT X e t := h _
def PA (X : Cx) (es : List Expr) (t : TA) : Prop :=
  ∀ (pos : Pos) (pins : List (Addr × Obj)) (s : Shared) (σ : St) (H : Hp) (Q : List V → Hp → Prop), Inv X pins σ H s → t σ H Q → wpAny (model X.prog X.w) X.A (spliced (backTo pos (starEach es X.env))) (AP X pins σ Q) X.xe s
def PS (X : Cx) (st : Stmt) (t : TS) : Prop :=
  ∀ (pins : List (Addr × Obj)) (s : Shared) (σ : St) (H : Hp) (D : Ends), Inv X pins σ H s → t D σ H → wpAny (model X.prog X.w) X.A (exec st X.env) (SP X pins D) X.xe s
def PSs (X : Cx) (st : List Stmt) (t : TS) : Prop :=
  ∀ (pins : List (Addr × Obj)) (s : Shared) (σ : St) (H : Hp) (D : Ends), Inv X pins σ H s → t D σ H → wpAny (model X.prog X.w) X.A (execs st X.env) (SP X pins D) X.xe s
theorem thn {α : Type} {t : Sem α} {Q Q' : α → Shared → Prop} {M : Model} {A : Around} {E : Value → Shared → Prop} {s : Shared} (h : wpAny M A t Q E s) (hQ : ∀ a s, Q a s → Q' a s) : wpAny M A t Q' E s := wpAny_mono h hQ fun _ _ x => x
end L2
namespace L2
open PySem PySem.Spec PyProof.Rows
section
variable {X : Cx}
def tVar (i : Nat) : TE := fun σ H Q => ∃ v, σ[i]? = some (some v) ∧ Q v H
def tC (v : V) : TE := fun _ H Q => Q v H
theorem pe_var {i : Nat} {x : Str} {pos : Pos} (hN : X.N[i]? = some x) (hv : Vis X.env.scope x) (hd : (x == ("__debug__" : Str)) = false := by decide) (hcd : (x == ("__classdict__" : Str)) = false := by decide) : PE X (.Name x pos) (tVar i) := by
  intro pins s σ H Q I h
  obtain ⟨v, e, h⟩ := h
  obtain ⟨m, hn, hl⟩ := I.loc
  obtain ⟨u, r, l⟩ := hl i x v hN e hv
  have fin : EP X pins σ Q u s := ⟨v, H, I, r, h⟩
  rcases l with ⟨hk, hm⟩ | ⟨hk, c, hc, hcell⟩
  · exact wpAny_Name (wpAny_loadName_local I.ok.kind hk hn hm fin) hd
  · rcases hk with hk | hk
    · exact wpAny_Name (wpAny_loadName_cell I.ok.kind hk hc hcell fin) hd
    · exact wpAny_Name (wpAny_loadName_free I.ok.kind hk hc hcell fin hcd) hd
theorem pe_int {i j pos} : PE X (.Constant (.int i) j pos) (tC (.int i)) := fun _ _ _ H _ I h => wpAny_Constant_int ⟨.int i, H, I.tok _, ⟨_, rfl⟩, h⟩
theorem pe_bl {b j pos} : PE X (.Constant (.bool b) j pos) (tC (.bl b)) := fun _ _ _ H _ I h => Constant_bool ⟨.bl b, H, I, rfl, h⟩
def Gl (X : Cx) (x : Str) : Prop := X.env.kindOf x = some .globalImplicit
theorem ld_glob {E : Value → Shared → Prop} {pins : List (Addr × Obj)} {s : Shared} {σ : St} {H : Hp} {x : Str} {u : Value} {pos : Pos} {Q : Value → Shared → Prop} (I : Inv X pins σ H s) (hg : Gl X x) (hm : X.mg x = some u) (h : Q u s)
    (hd : (x == ("__debug__" : Str)) = false := by decide) : wpAny (model X.prog X.w) X.A (eval (.Name x pos) X.env) Q E s :=
  Calls.Name_function_global I.ok.kind hg (Calls.loadGlobal_global (by rw [I.ok.glob]; exact I.mod.glob.keeps I.bk) hm h) hd
theorem ld_blt {E : Value → Shared → Prop} {pins : List (Addr × Obj)} {s : Shared} {σ : St} {H : Hp} {x : Str} {u : Value} {pos : Pos} {Q : Value → Shared → Prop} (I : Inv X pins σ H s) (hg : Gl X x) (hm : X.mg x = none) (hv : bootBuiltins x = some u) (h : Q u s)
    (hn : x ≠ "__name__" := by decide) (hd : (x == ("__debug__" : Str)) = false := by decide) : wpAny (model X.prog X.w) X.A (eval (.Name x pos) X.env) Q E s := by
  obtain ⟨mb, h1, h2⟩ := I.mod.blt
  exact Calls.Name_function_global I.ok.kind hg (Calls.loadGlobal_builtin (by rw [I.ok.glob]; exact I.mod.glob.keeps I.bk) hm (by rw [I.ok.blt]; exact h1.keeps I.bk) ((h2 x hn).trans hv) h) hd
theorem pe_glob {x : Str} {v : V} {u : Value} {pos : Pos} (hg : Gl X x) (hm : X.mg x = some u) (r : RelV v u) (hd : (x == ("__debug__" : Str)) = false := by decide) : PE X (.Name x pos) (tC v) :=
  fun _ _ _ H _ I h => ld_glob I hg hm ⟨v, H, I, r, h⟩ hd
theorem pe_bltn {x : Str} {v : V} {u : Value} {pos : Pos} (hg : Gl X x) (hm : X.mg x = none) (hv : bootBuiltins x = some u) (r : RelV v u) (hn : x ≠ "__name__" := by decide) (hd : (x == ("__debug__" : Str)) = false := by decide) : PE X (.Name x pos) (tC v) :=
  fun _ _ _ H _ I h => ld_blt I hg hm hv ⟨v, H, I, r, h⟩ hn hd
def t2I (ta tb : TE) (k : Int → Int → Hp → Prop) : St → Hp → Prop := fun σ H => ta σ H fun x H1 => tb σ H1 fun y H2 => ∃ i j, x = .int i ∧ y = .int j ∧ k i j H2
def tAdd (ta tb : TE) : TE := fun σ H Q => t2I ta tb (fun i j H2 => Q (.int (i + j)) H2) σ H
def tSub (ta tb : TE) : TE := fun σ H Q => t2I ta tb (fun i j H2 => Q (.int (i - j)) H2) σ H
def tMul (ta tb : TE) : TE := fun σ H Q => t2I ta tb (fun i j H2 => (-(2 ^ 64) < i ∧ i < 2 ^ 64) ∧ Q (.int (i * j)) H2) σ H
variable {a b : Expr} {ta tb : TE} {pos : Pos}
def PC (X : Cx) (op : CmpOp) (a b : Expr) (t : TE) : Prop :=
  ∀ (pins : List (Addr × Obj)) (s : Shared) (σ : St) (H : Hp) (Q : VK), Inv X pins σ H s → t σ H Q →
    wpAny (model X.prog X.w) X.A (eval a X.env) (fun v s₁ => wpAny (model X.prog X.w) X.A (eval b X.env) (fun u s₂ => wpAny (model X.prog X.w) X.A (compareOp op v u) (EP X pins σ Q) X.xe s₂) X.xe s₁) X.xe s
def tCmp (p : Int → Int → Bool) (ta tb : TE) : TE := fun σ H Q => t2I ta tb (fun i j H2 => Q (.bl (p i j)) H2) σ H
abbrev tLt : TE → TE → TE := tCmp fun i j => decide (i < j)
abbrev tLe : TE → TE → TE := tCmp fun i j => decide (i ≤ j)
abbrev tGt : TE → TE → TE := tCmp fun i j => decide (j < i)
abbrev tGe : TE → TE → TE := tCmp fun i j => decide (j ≤ i)
abbrev tEqI : TE → TE → TE := tCmp fun i j => decide (i = j)
abbrev tNeI : TE → TE → TE := tCmp fun i j => !decide (i = j)
def tIsN (ta : TE) : TE := fun σ H Q => ta σ H fun x H1 => Q (.bl (decide (x = .non))) H1
def tNotN (ta : TE) : TE := fun σ H Q => ta σ H fun x H1 => Q (.bl (!decide (x = .non))) H1
def tB (t : TE) : TT := fun σ H Q => t σ H fun x H1 => ∃ c, x = .bl c ∧ Q c H1
variable {tA tB' : TT} {rest : List Expr}
def tAnd (t u : TT) : TT := fun σ H Q => t σ H fun c H1 => if c = true then u σ H1 Q else Q false H1
def tOr (t u : TT) : TT := fun σ H Q => t σ H fun c H1 => if c = true then Q true H1 else u σ H1 Q
def tNot (t : TT) : TT := fun σ H Q => t σ H fun c H1 => Q (!c) H1
theorem pw_and1 (ha : PT X a tA) : PW X (.BoolOp .And [a] pos) tA := by
  intro wh pins s σ H Q I h
  refine isTrue_and (thn (ha pins s σ H Q I h) fun c s1 e => ?_)
  cases c with
  | true => exact isTrue_and_nil e
  | false => exact e
theorem pw_or1 (ha : PT X a tA) : PW X (.BoolOp .Or [a] pos) tA := by
  intro wh pins s σ H Q I h
  refine isTrue_or (thn (ha pins s σ H Q I h) fun c s1 e => ?_)
  cases c with
  | false => exact isTrue_or_nil e
  | true => exact e
theorem pw_and (ha : PT X a tA) (hb : PW X (.BoolOp .And (b :: rest) pos) tB') : PW X (.BoolOp .And (a :: b :: rest) pos) (tAnd tA tB') := by
  intro wh pins s σ H Q I h
  refine isTrue_and (thn (ha pins s σ H _ I h) fun c s1 ⟨H1, I1, q1⟩ => ?_)
  cases c with
  | true => exact hb wh pins s1 σ H1 Q I1 q1
  | false => exact ⟨H1, I1, q1⟩
theorem pw_or (ha : PT X a tA) (hb : PW X (.BoolOp .Or (b :: rest) pos) tB') : PW X (.BoolOp .Or (a :: b :: rest) pos) (tOr tA tB') := by
  intro wh pins s σ H Q I h
  refine isTrue_or (thn (ha pins s σ H _ I h) fun c s1 ⟨H1, I1, q1⟩ => ?_)
  cases c with
  | true => exact ⟨H1, I1, q1⟩
  | false => exact hb wh pins s1 σ H1 Q I1 q1
theorem pt_not (ha : PT X a tA) : PT X (.UnaryOp .Not a pos) (tNot tA) := by
  intro pins s σ H Q I h
  exact isTrue_not (ha pins s σ H (fun c H1 => Q (!c) H1) I h)
def tAndV (ta tb : TE) : TE := fun σ H Q => ta σ H fun x H1 => ∃ c, x = .bl c ∧ if c = true then tb σ H1 Q else Q (.bl false) H1
def tOrV (ta tb : TE) : TE := fun σ H Q => ta σ H fun x H1 => ∃ c, x = .bl c ∧ if c = true then Q (.bl true) H1 else tb σ H1 Q
def tNotV (ta : TE) : TE := fun σ H Q => ta σ H fun x H1 => ∃ c, x = .bl c ∧ Q (.bl (!c)) H1
theorem pe_one {op} {t : TE} (h : PE X a t) : PE X (.BoolOp op [a] pos) t := fun pins s σ H Q I hw => BoolOp_one (h pins s σ H Q I hw)
theorem pe_and (ha : PE X a ta) (hb : PE X (.BoolOp .And (b :: rest) pos) tb) : PE X (.BoolOp .And (a :: b :: rest) pos) (tAndV ta tb) := by
  intro pins s σ H Q I h
  refine BoolOp_and (thn (ha pins s σ H _ I h) fun v s1 ⟨x, H1, I1, r1, q1⟩ => ?_)
  obtain ⟨c, rfl, q1⟩ := q1
  cases r1
  refine wpAny_truthy_bool ?_
  cases c with
  | true => exact hb pins s1 σ H1 Q I1 q1
  | false => exact ⟨.bl false, H1, I1, rfl, q1⟩
theorem pe_not (ha : PE X a ta) : PE X (.UnaryOp .Not a pos) (tNotV ta) := by
  intro pins s σ H Q I h
  refine UnaryOp_ (thn (ha pins s σ H _ I h) fun v s1 ⟨x, H1, I1, r1, q1⟩ => ?_)
  obtain ⟨c, rfl, q1⟩ := q1
  cases r1
  exact not_of (wpAny_truthy_bool ⟨.bl (!c), H1, I1, rfl, q1⟩)
def tIf (t : TT) (ta tb : TE) : TE := fun σ H Q => t σ H fun c H1 => if c = true then ta σ H1 Q else tb σ H1 Q
theorem pe_ifExp {c : Expr} (hc : PT X c tA) (ha : PE X a ta) (hb : PE X b tb) : PE X (.IfExp c a b pos) (tIf tA ta tb) := by
  intro pins s σ H Q I h
  refine wpAny_IfExp (thn (hc pins s σ H _ I h) fun d s1 ⟨H1, I1, q1⟩ => ?_)
  cases d with
  | true => exact ha pins s1 σ H1 Q I1 q1
  | false => exact hb pins s1 σ H1 Q I1 q1
end
end L2
namespace L2
open PySem PySem.Spec PyProof.Rows
def SqL (K : PySem.W.Frag) (H : Hp) (a : Addr) (xs : List V) : Prop :=
  Rd H a (.lst xs) ∨
    ∃ (o : Obj) (its : Array Value) (n : Nat), K.lookup a = some o ∧ o.cls = .type "list" ∧ o.dict = none ∧ o.data = .seq its n ∧ its.size ≤ sizeLine ∧ Vals xs its.toList
def SqT (K : PySem.W.Frag) (H : Hp) (a : Addr) (xs : List V) : Prop :=
  Rd H a (.tup xs) ∨
    ∃ (o : Obj) (its : Array Value) (n : Nat), K.lookup a = some o ∧ o.cls = .type "tuple" ∧ o.data = .seq its n ∧ its.size ≤ sizeLine ∧ Vals xs its.toList
def absV : Value → Option V
  | .none => some .non
  | .bool b => some (.bl b)
  | .int i _ => some (.int i)
  | .str x _ => some (.str x)
  | .bytes b _ => some (.byt b)
  | .float b _ => some (.flt b)
  | .ref a => some (.ref a)
  | .type n => some (.ty n)
  | _ => none
theorem RelV.abs {x : V} {u : Value} (r : RelV x u) : absV u = some x := by
  cases x with
  | non => cases r; rfl
  | bl _ => cases r; rfl
  | int _ => obtain ⟨t, rfl⟩ := r; rfl
  | str _ => obtain ⟨t, rfl⟩ := r; rfl
  | byt _ => obtain ⟨t, rfl⟩ := r; rfl
  | flt _ => obtain ⟨t, rfl⟩ := r; rfl
  | ref _ => cases r; rfl
  | ty _ => cases r; rfl
theorem RelV.inj {x y : V} {u : Value} (r : RelV x u) (q : RelV y u) : x = y := Option.some.inj (r.abs.symm.trans q.abs)
theorem Vals.inj : ∀ {xs ys : List V} {us : List Value}, Vals xs us → Vals ys us → xs = ys
  | _, _, _, .nil, .nil => rfl
  | _, _, _, .cons r t, .cons r' t' => by rw [r.inj r', Vals.inj t t']
section
variable {X : Cx} {pins : List (Addr × Obj)} {σ : St} {H : Hp} {s : Shared} {a : Addr} {xs ys : List V}
theorem SqL.of {K : PySem.W.Frag} (h : H a = some (.lst xs)) : SqL K H a xs := .inl (.inl h)
theorem SqT.of {K : PySem.W.Frag} (h : H a = some (.tup xs)) : SqT K H a xs := .inl (.inl h)
theorem Inv.list (I : Inv X pins σ H s) (h : SqL X.K H a xs) : ∃ its : List Value, Vals xs its ∧ PlainL s.heap a its.toArray ∧ xs.length ≤ sizeLine := by
  rcases h with h | ⟨o, its, n, hk, hc, hd, hs, hz, r⟩
  · obtain ⟨z, its, n, r, e⟩ := h.ok I.hok
    exact ⟨its, r, ⟨_, n, e, rfl, rfl, rfl⟩, z⟩
  · refine ⟨its.toList, r, ⟨o, n, I.kIn a o hk, hc, hd, by simpa using hs⟩, ?_⟩
    have e := r.length
    simp only [Array.length_toList] at e
    omega
theorem Inv.tuple (I : Inv X pins σ H s) (h : SqT X.K H a xs) : ∃ its : List Value, Vals xs its ∧ IsTup s.heap a its.toArray ∧ xs.length ≤ sizeLine := by
  rcases h with h | ⟨o, its, n, hk, hc, hs, hz, r⟩
  · obtain ⟨z, its, r, p⟩ := h.ok I.hok
    exact ⟨its, r, p, z⟩
  · refine ⟨its.toList, r, ⟨o, I.kIn a o hk, hc, n, by simpa using hs⟩, ?_⟩
    have e := r.length
    simp only [Array.length_toList] at e
    omega
theorem Inv.list_inj (I : Inv X pins σ H s) (h : SqL X.K H a xs) (h' : SqL X.K H a ys) : xs = ys := by
  obtain ⟨its, r, ⟨o, n, e, _, _, d⟩, _⟩ := I.list h
  obtain ⟨its', r', ⟨o', n', e', _, _, d'⟩, _⟩ := I.list h'
  rw [e] at e'; cases e'
  rw [d] at d'
  injection d' with d1 _
  have : its = its' := by simpa using congrArg Array.toList d1
  subst this
  exact r.inj r'
theorem Inv.tuple_inj (I : Inv X pins σ H s) (h : SqT X.K H a xs) (h' : SqT X.K H a ys) : xs = ys := by
  obtain ⟨its, r, ⟨o, e, _, n, d⟩, _⟩ := I.tuple h
  obtain ⟨its', r', ⟨o', e', _, n', d'⟩, _⟩ := I.tuple h'
  rw [e] at e'; cases e'
  rw [d] at d'
  injection d' with d1 _
  have : its = its' := by simpa using congrArg Array.toList d1
  subst this
  exact r.inj r'
end
abbrev Cx.wish (X : Cx) (E : Value → Shared → Prop) : Cx := { X with xe := E }
abbrev Cx.nox (X : Cx) : Cx := X.wish fun _ _ => False
theorem Cx.Ok.wish {X : Cx} (ok : X.Ok) (E : Value → Shared → Prop) : (X.wish E).Ok :=
  ⟨ok.mod, ok.kind, ok.glob, ok.blt, ok.above, ok.inj, ok.has, ok.cab, ok.hd, ok.frames, ok.stk, ok.exf, ok.bs, ok.bsz, ok.noex, ok.exfs, ok.funs, ok.frf⟩
theorem Cx.Ok.unwish {X : Cx} {E : Value → Shared → Prop} (ok : (X.wish E).Ok) : X.Ok :=
  ⟨ok.mod, ok.kind, ok.glob, ok.blt, ok.above, ok.inj, ok.has, ok.cab, ok.hd, ok.frames, ok.stk, ok.exf, ok.bs, ok.bsz, ok.noex, ok.exfs, ok.funs, ok.frf⟩
section
variable {X : Cx} {pins : List (Addr × Obj)} {σ : St} {H : Hp} {s : Shared} {E : Value → Shared → Prop}
theorem Inv.wish (I : Inv X pins σ H s) (E : Value → Shared → Prop) : Inv (X.wish E) pins σ H s := ⟨I.ok.wish E, I.os, I.bare, I.base, I.loc, I.cell, I.free, I.freeC, I.pin, I.hok, I.len⟩
theorem Inv.unwish (I : Inv (X.wish E) pins σ H s) : Inv X pins σ H s := ⟨I.ok.unwish, I.os, I.bare, I.base, I.loc, I.cell, I.free, I.freeC, I.pin, I.hok, I.len⟩
theorem SP.unwish {D : Ends} {f : Flow} {s' : Shared} (h : SP (X.wish E) pins D f s') : SP X pins D f s' := by
  cases f with
  | next => obtain ⟨σ', H', I, q⟩ := h; exact ⟨σ', H', I.unwish, q⟩
  | brk => obtain ⟨σ', H', I, q⟩ := h; exact ⟨σ', H', I.unwish, q⟩
  | cont => obtain ⟨σ', H', I, q⟩ := h; exact ⟨σ', H', I.unwish, q⟩
  | ret u => obtain ⟨v, σ', H', I, r, q⟩ := h; exact ⟨v, σ', H', I.unwish, r, q⟩
theorem PE.nox {e : Expr} {t : TE} (h : PE X.nox e t) : PE X e t := fun pins s σ H Q I hw =>
  wpAny_mono (h pins s σ H Q (I.wish _) hw) (fun _ _ ⟨v, H', I', r, q⟩ => ⟨v, H', I'.unwish, r, q⟩) fun _ _ z => False.elim z
theorem PT.nox {e : Expr} {t : TT} (h : PT X.nox e t) : PT X e t := fun pins s σ H Q I hw =>
  wpAny_mono (h pins s σ H Q (I.wish _) hw) (fun _ _ ⟨H', I', q⟩ => ⟨H', I'.unwish, q⟩) fun _ _ z => False.elim z
theorem PSs.nox {st : List Stmt} {t : TS} (h : PSs X.nox st t) : PSs X st t := fun pins s σ H D I hw =>
  wpAny_mono (h pins s σ H D (I.wish _) hw) (fun _ _ q => q.unwish) fun _ _ z => False.elim z
end
section
variable {X : Cx} {st : Stmt} {rest : List Stmt} {t u : TS} {e : Expr} {te : TE} {pos : Pos}
def tNext : TS := fun D σ H => D.nx σ H
def tSeq (t u : TS) : TS := fun D σ H => t { D with nx := u D } σ H
theorem pss_nil : PSs X [] tNext := fun _ _ σ H _ I h => wpAny_execs_nil ⟨σ, H, I, h⟩
theorem pss_cons (h1 : PS X st t) (h2 : PSs X rest u) : PSs X (st :: rest) (tSeq t u) := by
  intro pins s σ H D I h
  refine wpAny_execs_cons (thn (h1 pins s σ H { D with nx := u D } I h) fun f s1 q => ?_)
  cases f with
  | next =>
    obtain ⟨σ', H', I', q⟩ := q
    exact h2 pins s1 σ' H' D I' q
  | ret v => exact q
  | brk => exact q
  | cont => exact q
theorem pss_one (h1 : PS X st t) : PSs X [st] t := by
  intro pins s σ H D I h
  refine wpAny_execs_cons (thn (h1 pins s σ H D I h) fun f s1 q => ?_)
  cases f with
  | next => exact wpAny_execs_nil q
  | ret v => exact q
  | brk => exact q
  | cont => exact q
def tBreak : TS := fun D σ H => D.bk σ H
def tCont : TS := fun D σ H => D.ct σ H
theorem Inv.quiet {pins : List (Addr × Obj)} {σ : St} {H : Hp} {s : Shared} (I : Inv X pins σ H s) : interactive X.env = false := by simp [interactive, I.ok.kind]
def tDrop (te : TE) : TS := fun D σ H => te σ H fun _ H1 => D.nx σ H1
theorem ps_expr (he : PE X e te) (hs : swapsWith e none pos.line X.env = pure false := by rfl) : PS X (.Expr e pos) (tDrop te) := by
  intro pins s σ H D I h
  exact wpAny_Expr_any (thn (he pins s σ H _ I h) fun v s1 ⟨x, H1, I1, r1, q1⟩ => ⟨σ, H1, I1, q1⟩) I.quiet hs
def tRet (te : TE) : TS := fun D σ H => te σ H D.rt
theorem ps_ret (he : PE X e te) : PS X (.Return (some e) pos) (tRet te) := by
  intro pins s σ H D I h
  exact wpAny_Return_some (thn (he pins s σ H _ I h) fun v s1 ⟨x, H1, I1, r1, q1⟩ => ⟨x, σ, H1, I1, r1, q1⟩)
def tRetN : TS := fun D _ H => D.rt .non H
def tIfS (c : TT) (t u : TS) : TS := fun D σ H => c σ H fun b H1 => if b = true then t D σ H1 else u D σ H1
theorem ps_if {c : Expr} {a b : List Stmt} {tc : TT} (hc : PT X c tc) (ha : PSs X a t) (hb : PSs X b u) : PS X (.If c a b pos) (tIfS tc t u) := by
  intro pins s σ H D I h
  refine wpAny_If (thn (hc pins s σ H _ I h) fun d s1 ⟨H1, I1, q1⟩ => ?_)
  cases d with
  | true => exact ha pins s1 σ H1 D I1 q1
  | false => exact hb pins s1 σ H1 D I1 q1
def tNever : TS := fun _ _ _ => False
end
abbrev TG := V → St → Hp → (St → Hp → Prop) → Prop
abbrev TGs := List V → St → Hp → (St → Hp → Prop) → Prop
def PG (X : Cx) (target : Expr) (t : TG) : Prop :=
  ∀ (pins : List (Addr × Obj)) (s : Shared) (σ : St) (H : Hp) (v : V) (u : Value) (Q : St → Hp → Prop), Inv X pins σ H s → RelV v u → t v σ H Q →
    wpAny (model X.prog X.w) X.A (assign target X.env u) (fun _ s' => ∃ σ' H', Inv X pins σ' H' s' ∧ Q σ' H') X.xe s
def PGs (X : Cx) (ts : List Expr) (t : TGs) : Prop :=
  ∀ (pins : List (Addr × Obj)) (s : Shared) (σ : St) (H : Hp) (vs : List V) (us : List Value) (Q : St → Hp → Prop), Inv X pins σ H s → Vals vs us → t vs σ H Q →
    wpAny (model X.prog X.w) X.A (assignInOrder ((assignEach ts X.env).map (·.2)) us) (fun _ s' => ∃ σ' H', Inv X pins σ' H' s' ∧ Q σ' H') X.xe s
abbrev TSet := V → V → V → Hp → (Hp → Prop) → Prop
def PSet (X : Cx) (t : TSet) : Prop :=
  ∀ (pins : List (Addr × Obj)) (s : Shared) (σ : St) (H : Hp) (o i v : V) (ov iv u : Value) (Q : Hp → Prop), Inv X pins σ H s → RelV o ov → RelV i iv → RelV v u → t o i v H Q →
    wpAny (model X.prog X.w) X.A (setItem ov iv u) (fun _ s' => ∃ H', Inv X pins σ H' s' ∧ Q H') X.xe s
abbrev TIp := V → V → Hp → VK → Prop
def PIp (X : Cx) (op : Operator) (t : TIp) : Prop :=
  ∀ (pins : List (Addr × Obj)) (s : Shared) (σ : St) (H : Hp) (x y : V) (v u : Value) (Q : VK), Inv X pins σ H s → RelV x v → RelV y u → t x y H Q →
    wpAny (model X.prog X.w) X.A (inplaceOp op v u) (EP X pins σ Q) X.xe s
section
variable {X : Cx} {pos : Pos}
def gName (i : Nat) : TG := fun v σ H Q => Q (σ.set i (some v)) H
theorem pg_name {i : Nat} {x : Str} (hN : X.N.Nodup) (hi : X.N[i]? = some x) (hx : Loc X.env.scope x) (hf : X.fn x = true ∨ X.env.scope.names.lookup x = some .local := by first | exact .inl rfl | exact .inr rfl | assumption) : PG X (.Name x pos) (gName i) := by
  intro pins s σ H v u Q I r h
  exact wpAny_assign_Name (store_ok I hN hi hx r (fun s' I' => ⟨_, H, I', h⟩) hf)
def gNil : TGs := fun vs σ H Q => vs = [] ∧ Q σ H
def gCons (t : TG) (u : TGs) : TGs := fun vs σ H Q => ∃ v r, vs = v :: r ∧ t v σ H fun σ' H' => u r σ' H' Q
theorem pgs_nil : PGs X [] gNil := by
  intro pins s σ H vs us Q I r h
  obtain ⟨e, h⟩ := h
  subst e
  cases r
  exact assignInOrder_nil ⟨σ, H, I, h⟩
theorem pgs_cons {e : Expr} {es : List Expr} {t : TG} {u : TGs} (h1 : PG X e t) (h2 : PGs X es u)
    (hs : (assignEach (e :: es) X.env).map (·.2) = assign e X.env :: (assignEach es X.env).map (·.2) := by rfl) : PGs X (e :: es) (gCons t u) := by
  intro pins s σ H vs us Q I r h
  obtain ⟨v, vr, e1, h⟩ := h
  subst e1
  cases r with
  | cons r rr =>
    rw [hs]
    refine assignInOrder_cons (thn (h1 pins s σ H _ _ _ I r h) fun _ s1 ⟨σ1, H1, I1, q1⟩ => ?_)
    exact h2 pins s1 σ1 H1 _ _ Q I1 rr q1
def gTup (K : PySem.W.Frag) (n : Nat) (t : TGs) : TG := fun v σ H Q => ∃ a xs, v = .ref a ∧ SqT K H a xs ∧ xs.length = n ∧ t xs σ H Q
theorem pg_tup {es : List Expr} {k : Nat} {t : TGs} {n : Nat} (hc : X.calm = true) (h : PGs X es t)
    (hn : (assignEach es X.env).length = n := by rfl) (hst : (assignEach es X.env).findIdx? (·.1) = none := by rfl) : PG X (.Tuple es k pos) (gTup X.K n t) := by
  intro pins s σ H v u Q I r hw
  obtain ⟨a, xs, e1, hq, hl, hw⟩ := hw
  subst e1
  cases r
  obtain ⟨its, rv, ht, hz⟩ := I.tuple hq
  refine assign_Tuple_tuple (I.ok.hd hc) ht (by simp [hn, ← hl, rv.length]) hst fun h' hx => ?_
  have I1 : Inv X pins σ H { s with heap := h' } := I.kept (t' := s.toks) fun b o e => hx b o (Nat.ne_of_lt (Heap.lt_size e)) e
  exact h pins _ σ H xs _ Q I1 (by simpa using rv) hw
def gSub (to ti : TE) (t : TSet) : TG := fun v σ H Q => to σ H fun o H1 => ti σ H1 fun i H2 => t o i v H2 fun H3 => Q σ H3
def tAsg (te : TE) (g : TG) : TS := fun D σ H => te σ H fun x H1 => g x σ H1 D.nx
theorem ps_asg {tg e : Expr} {te : TE} {g : TG} (he : PE X e te) (hg : PG X tg g) (hs : swapsWithSole [tg] e pos.line X.env = pure false := by rfl) (hw : swappedStores [tg] e X.env = pure none := by rfl)
    (h1 : (assignEach [tg] X.env).map (·.2) = [assign tg X.env] := by rfl) : PS X (.Assign [tg] e pos) (tAsg te g) := by
  intro pins s σ H D I h
  refine wpAny_Assign_stores (thn (he pins s σ H _ I h) fun v s1 ⟨x, H1, I1, r1, q1⟩ => ?_) hs hw
  rw [h1]
  exact thn (hg pins s1 σ H1 x v _ I1 r1 q1) fun _ s2 q => q
theorem ps_set {i : Nat} {x : Str} {e : Expr} {te : TE} {pos' : Pos} (hN : X.N.Nodup) (hi : X.N[i]? = some x) (hx : Loc X.env.scope x) (he : PE X e te) (hs : swapsWith e (some (.Name x pos')) pos.line X.env = pure false := by rfl) (hf : X.fn x = true ∨ X.env.scope.names.lookup x = some .local := by first | exact .inl rfl | exact .inr rfl | assumption) :
    PS X (.Assign [.Name x pos'] e pos) (tAsg te (gName i)) := by
  intro pins s σ H D I h
  refine wpAny_Assign_Name (thn (he pins s σ H _ I h) fun v s1 ⟨y, H1, I1, r1, q1⟩ => ?_) hs
  exact store_ok I1 hN hi hx r1 (fun s2 I2 => ⟨_, H1, I2, q1⟩) hf
def tPar (i j : Nat) (ta : TA) : TS := fun D σ H => ta σ H fun vs H1 => ∃ v w, vs = [v, w] ∧ D.nx ((σ.set i (some v)).set j (some w)) H1
theorem ps_par {i j : Nat} {x y : Str} {a b : Expr} {ta : TA} {px py pt : Pos} {kt k2 pt2} (hc : X.calm = true) (hN : X.N.Nodup) (hi : X.N[i]? = some x) (hj : X.N[j]? = some y) (hij : i ≠ j)
    (hx : X.env.scope.names.lookup x = some .local) (hy : X.env.scope.names.lookup y = some .local) (ha : PA X [a, b] ta)
    (hw : swappedStores [.Tuple [.Name x px, .Name y py] kt pt] (.Tuple [a, b] k2 pt2) X.env = pure (some [x, y]))
    (hs : swapsWithSole [.Tuple [.Name x px, .Name y py] kt pt] (.Tuple [a, b] k2 pt2) pos.line X.env = pure false := by rfl) :
    PS X (.Assign [.Tuple [.Name x px, .Name y py] kt pt] (.Tuple [a, b] k2 pt2) pos) (tPar i j ta) := by
  intro pins s σ H D I h
  rw [exec_Assign_arm]
  refine wpAny_bind (wpAny_standAt ?_)
  rw [hs]
  refine wpAny_bind (wpAny_pure ?_)
  rw [if_neg (by decide)]
  refine wpAny_bind (Tuple_ (thn (ha _ pins s σ H _ I h) fun us s1 ⟨vs, H1, I1, r1, q1⟩ => ?_))
  obtain ⟨v, w, e1, q1⟩ := q1
  subst e1
  obtain ⟨u1, u2, rfl, rv, rw'⟩ : ∃ u1 u2, us = [u1, u2] ∧ RelV v u1 ∧ RelV w u2 := by
    cases r1 with
    | cons p q =>
      cases q with
      | cons p' q' =>
        cases q'
        exact ⟨_, _, rfl, p, p'⟩
  refine wpAny_newObj_type ?_ (by show 2 ≤ sizeLine; decide)
  have I2 : Inv X pins σ H1 { s1 with heap := s1.heap.push { cls := .type "tuple", data := .seq [u1, u2].toArray } } := I1.kept (t' := s1.toks) fun b o e => Heap.get?_push_of_some _ e
  rw [hw]
  refine wpAny_bind (wpAny_pure ?_)
  show wpAny (model X.prog X.w) X.A (do rule "assign.swapped-stores"; let items ← unpackItems (.ref s1.heap.objs.size) 2 none; assignInOrder [fun v => bindName X.env y v, fun v => bindName X.env x v] items.reverse; pure Flow.next) _ _ _
  refine wpAny_bind (wpAny_rule (wpAny_bind (unpackItems_tuple (items := #[u1, u2]) (I.ok.hd hc) (IsTup.new s1.heap _) fun h' hx' => ?_)))
  have I3 := I2.kept (h' := h') (t' := s1.toks) fun b o e => hx' b o (Nat.ne_of_lt (Heap.lt_size e)) e
  show wpAny _ _ (assignInOrder [fun v => bindName X.env y v, fun v => bindName X.env x v] [u2, u1] >>= fun _ => pure Flow.next) _ _ _
  refine wpAny_bind (assignInOrder_cons (wpAny_bindName (store_ok I3 hN hj (.inl hy) rw' (fun s2 I4 => ?_) (.inr hy))))
  refine assignInOrder_cons (wpAny_bindName (store_ok I4 hN hi (.inl hx) rv (fun s3 I5 => assignInOrder_nil (wpAny_pure ?_)) (.inr hx)))
  rw [List.set_comm _ _ (Ne.symm hij)] at I5
  exact ⟨_, H1, I5, q1⟩
def tAug (i : Nat) (te : TE) (ti : TIp) : TS := fun D σ H => ∃ x, σ[i]? = some (some x) ∧ te σ H fun y H1 => ti x y H1 fun z H2 => D.nx (σ.set i (some z)) H2
theorem ps_aug {i : Nat} {x : Str} {e : Expr} {te : TE} {op : Operator} {ti : TIp} {pos' : Pos} (hN : X.N.Nodup) (hi : X.N[i]? = some x) (hx : Loc X.env.scope x) (he : PE X e te) (ho : PIp X op ti) (hf : X.fn x = true ∨ X.env.scope.names.lookup x = some .local := by first | exact .inl rfl | exact .inr rfl | assumption) :
    PS X (.AugAssign (.Name x pos') op e pos) (tAug i te ti) := by
  intro pins s σ H D I h
  obtain ⟨v, e1, h⟩ := h
  obtain ⟨m, hn, hl⟩ := I.loc
  have vis : Vis X.env.scope x := by rcases hx with k | k; exact .inl k; exact .inr (.inl k)
  obtain ⟨u, r, l⟩ := hl i x v hi e1 vis
  refine wpAny_AugAssign_Name ?_
  have go : wpAny (model X.prog X.w) X.A (eval e X.env) (fun w s₂ => wpAny (model X.prog X.w) X.A (inplaceOp op u w) (fun r s₃ => wpAny (model X.prog X.w) X.A (storeName X.env x r) (fun _ => SP X pins D .next) X.xe s₃) X.xe s₂) X.xe s := by
    refine thn (he pins s σ H _ I h) fun w s1 ⟨y, H1, I1, r1, q1⟩ => ?_
    refine thn (ho pins s1 σ H1 v y u w _ I1 r r1 q1) fun z s2 ⟨zv, H2, I2, r2, q2⟩ => ?_
    exact store_ok I2 hN hi hx r2 (fun s3 I3 => ⟨_, H2, I3, q2⟩) hf
  rcases l with ⟨hk, hm⟩ | ⟨hk, c, hc, hcell⟩
  · exact wpAny_loadName_local I.ok.kind hk hn hm go
  · rcases hk with hk | hk
    · exact wpAny_loadName_cell I.ok.kind hk hc hcell go
    · rcases hx with k | k
      · have : X.env.scope.names.lookup x = some .free := hk
        rw [k] at this; cases this
      · have : X.env.scope.names.lookup x = some .free := hk
        rw [k] at this; cases this
def tAugS (to ti te : TE) (tget : V → V → Hp → VK → Prop) (tip : TIp) (tset : TSet) : TS := fun D σ H => to σ H fun o H1 => ti σ H1 fun i H2 => tget o i H2 fun x H3 => te σ H3 fun y H4 => tip x y H4 fun z H5 => tset o i z H5 fun H6 => D.nx σ H6
def PGet (X : Cx) (t : V → V → Hp → VK → Prop) : Prop :=
  ∀ (pins : List (Addr × Obj)) (s : Shared) (σ : St) (H : Hp) (o i : V) (ov iv : Value) (Q : VK), Inv X pins σ H s → RelV o ov → RelV i iv → t o i H Q →
    wpAny (model X.prog X.w) X.A (getItem ov iv) (EP X pins σ Q) X.xe s
def ipI (f : Int → Int → Int) : TIp := fun x y H Q => ∃ i j, x = .int i ∧ y = .int j ∧ Q (.int (f i j)) H
end
section
variable {X : Cx} {pos : Pos}
def tWhile (c : TT) (tb : TS) : TS := fun D σ H => ∃ W : Nat → St → Hp → Prop, (∃ m, W m σ H) ∧ ∀ m σ H, W m σ H →
  c σ H fun b H1 => if b = true then ∃ N : St → Hp → Prop, (∀ σ' H', N σ' H' → ∃ m', m' < m ∧ W m' σ' H') ∧ tb { D with nx := N, ct := N, bk := D.nx } σ H1 else D.nx σ H1
theorem ps_while {c : Expr} {body : List Stmt} {tc : TT} {tb : TS} (hp : PassesOwn (model X.prog X.w) X.A X.env X.xe) (hc : PT X c tc) (hb : PSs X body tb) : PS X (.While c body [] pos) (tWhile tc tb) := by
  intro pins s σ H D I h
  obtain ⟨W, ⟨m0, w0⟩, turn⟩ := h
  refine wpAny_While (codeAny_whileLoop (fun n s' => ∃ σ' H', Inv X pins σ' H' s' ∧ W n σ' H') ?_ m0 ⟨σ, H, I, w0⟩)
  rintro n s1 ⟨σ1, H1, I1, w1⟩
  refine wpAny_passesOwn hp (thn (hc pins s1 σ1 H1 _ I1 (turn n σ1 H1 w1)) fun b s2 ⟨H2, I2, q2⟩ => ?_)
  cases b with
  | true =>
    obtain ⟨N, hN, q2⟩ := q2
    rw [if_pos rfl]
    refine wpAny_passesOwn hp (thn (hb pins s2 σ1 H2 _ I2 q2) fun f s3 q3 => ?_)
    cases f with
    | next =>
      obtain ⟨σ3, H3, I3, n3⟩ := q3
      obtain ⟨m', hm, w3⟩ := hN σ3 H3 n3
      exact ⟨m', hm, σ3, H3, I3, w3⟩
    | cont =>
      obtain ⟨σ3, H3, I3, n3⟩ := q3
      obtain ⟨m', hm, w3⟩ := hN σ3 H3 n3
      exact ⟨m', hm, σ3, H3, I3, w3⟩
    | brk => exact q3
    | ret v => exact q3
  | false =>
    rw [if_neg Bool.false_ne_true]
    exact wpAny_execs_nil ⟨σ1, H2, I2, q2⟩
end
structure It where
  go : Nat → Hp → Prop
  yld : Nat → Hp → V → Hp → Prop
  stop : Nat → Hp → Prop
def FpOk (X : Cx) (pins : List (Addr × Obj)) (H : Hp) (b : Addr) : Prop :=
  H b = none ∧ b ≠ X.env.locals ∧ b ∉ X.fs ∧ (b ∈ X.ex ∨ X.s₀.heap.objs.size ≤ b) ∧ (∀ x c, X.env.cells.lookup x = some c → c ≠ b) ∧ ∀ p ∈ X.pn ++ pins, p.1 ≠ b
theorem Inv.fpOk {X : Cx} {pins : List (Addr × Obj)} {σ : St} {H H' : Hp} {s : Shared} {b : Addr} (I : Inv X pins σ H s) (hb : s.heap.objs.size ≤ b) (hn : H' b = none) : FpOk X pins H' b := by
  refine ⟨hn, Nat.ne_of_gt (Nat.lt_of_lt_of_le I.lt hb), I.nofs hb, .inr (Nat.le_trans I.sz hb), fun x c e z => ?_, fun p hp z => ?_⟩
  · obtain ⟨v, q⟩ := I.cell x c e
    exact absurd (Nat.lt_of_lt_of_le q.lt (by rw [z]; exact hb)) (Nat.lt_irrefl _)
  · exact absurd (Nat.lt_of_lt_of_le (Heap.lt_size (I.pin p hp).1) (by rw [z]; exact hb)) (Nat.lt_irrefl _)
structure Turn (P : Program) (w : World) (K : PySem.W.Frag) (tg : Expr) (J : It) (fp : List Addr) (it : Addr) (tn : Nat → Heap → Prop) : Prop where
  mem : it ∈ fp
  obj : ∀ i h, tn i h → ∀ b ∈ fp, ∃ o, h.get? b = some o ∧ ∀ v, o.data ≠ .cell v
  keep : ∀ i h h', tn i h → (∀ b ∈ fp, ∀ o, h.get? b = some o → h'.get? b = some o) → tn i h'
  item : ∀ (X : Cx), X.prog = P → X.w = w → X.K = K → X.calm = true → ∀ (i : Nat) (pins : List (Addr × Obj)) (s : Shared) (σ : St) (H : Hp) (E : Value → Shared → Prop), Inv X pins σ H s → (∀ b ∈ fp, FpOk X pins H b) → tn i s.heap → J.go i H →
    wpAny (model P w) X.A (pyNext (.ref it)) (fun r s1 => ∃ u, r = some u ∧
      wpAny (model P w) X.A (letOwnedTupleGo tg (.ref it) u) (fun _ s2 => ∃ x H', Inv X pins σ H' s2 ∧ RelV x u ∧ J.yld i H x H' ∧ tn (i + 1) s2.heap ∧ ∀ b ∈ fp, H' b = none) E s1) E s
  done : ∀ (X : Cx), X.prog = P → X.w = w → X.K = K → X.calm = true → ∀ (i : Nat) (pins : List (Addr × Obj)) (s : Shared) (σ : St) (H : Hp) (E : Value → Shared → Prop), Inv X pins σ H s → (∀ b ∈ fp, FpOk X pins H b) → tn i s.heap → J.stop i H →
    wpAny (model P w) X.A (pyNext (.ref it)) (fun r s1 => r = none ∧ Inv X pins σ H s1) E s
  self : ∀ (A : Around) (i : Nat) (s : Shared) (Q : Value → Shared → Prop) (E : Value → Shared → Prop), tn i s.heap → Q (.ref it) s → wpAny (model P w) A (pyIter (.ref it)) Q E s
abbrev TI := St → Hp → (It → Hp → Prop) → Prop
def PIE (X : Cx) (pins : List (Addr × Obj)) (σ : St) (tg : Expr) (R : It → Hp → Prop) (itv : Value) (s2 : Shared) : Prop :=
  ∃ (it : Addr) (fp : List Addr) (tn : Nat → Heap → Prop) (J : It) (H' : Hp), itv = .ref it ∧ Inv X pins σ H' s2 ∧ Turn X.prog X.w X.K tg J fp it tn ∧ tn 0 s2.heap ∧ (∀ b ∈ fp, FpOk X pins H' b) ∧ R J H'
def PI (X : Cx) (tg iter : Expr) (wi : TI) : Prop :=
  ∀ (pins : List (Addr × Obj)) (s : Shared) (σ : St) (H : Hp) (R : It → Hp → Prop), Inv X pins σ H s → wi σ H R →
    wpAny (model X.prog X.w) X.A (eval iter X.env) (fun v s1 => wpAny (model X.prog X.w) X.A (pyIter v) (PIE X pins σ tg R) X.xe s1) X.xe s
theorem go_of {M : Model} {A : Around} {E : Value → Shared → Prop} {s : Shared} {tg : Expr} {it : Addr} {u : Value} {o : Obj} {n : String} {vs : Array Value} {Q : Unit → Shared → Prop} (ho : s.heap.get? it = some o) (hc : o.cls = .type n) (hd : o.data = .fields vs)
    (hn : ["enumerate", "zip", "dict_itemiterator", "dict_reverseitemiterator", "odict_iterator", "itertools.zip_longest", "itertools.pairwise"].contains n = false) (hQ : Q () s) : wpAny M A (letOwnedTupleGo tg (.ref it) u) Q E s := by
  unfold letOwnedTupleGo
  cases tg <;> first
    | exact wpAny_pure hQ
    | (cases u <;> first
        | exact wpAny_pure hQ
        | (refine wpAny_bind (wpAny_load ho ?_)
           rw [hc, hd]
           show wpAny M A (if (["enumerate", "zip", "dict_itemiterator", "dict_reverseitemiterator", "odict_iterator", "itertools.zip_longest", "itertools.pairwise"].contains n && vs[0]? == some (rawInt _)) = true then _ else _) Q E s
           rw [if_neg (by intro h; rw [hn, Bool.false_and] at h; cases h)]
           exact wpAny_pure hQ))
def Itl (K : PySem.W.Frag) (a : Addr) : It :=
  ⟨fun i H => ∃ xs x, SqL K H a xs ∧ xs[i]? = some x, fun i H x H' => H' = H ∧ ∀ xs, SqL K H a xs → xs[i]? = some x, fun i H => ∃ xs, SqL K H a xs ∧ xs.length ≤ i⟩
def Itt (K : PySem.W.Frag) (a : Addr) : It :=
  ⟨fun i H => ∃ xs x, SqT K H a xs ∧ xs[i]? = some x, fun i H x H' => H' = H ∧ ∀ xs, SqT K H a xs → xs[i]? = some x, fun i H => ∃ xs, SqT K H a xs ∧ xs.length ≤ i⟩
def Itr (lo : Int) (n : Nat) : It := ⟨fun i _ => i < n, fun i H x H' => H' = H ∧ x = .int (lo + i), fun i _ => n ≤ i⟩
theorem turn_list {P : Program} {w : World} {K : PySem.W.Frag} {tg : Expr} (a it : Addr) : Turn P w K tg (Itl K a) [it] it (fun i h => h.IsListIter it a i) where
  mem := by simp
  obj := fun i h st b hb => by
    have e : b = it := by simpa using hb
    subst e
    obtain ⟨o, e, c, d⟩ := st
    exact ⟨o, e, fun v z => by rw [d] at z; cases z⟩
  keep := fun i h h' st k => st.at fun o e => k it (by simp) o e
  item := by
    intro X hP hw hK hc i pins s σ H E I hf st hg
    subst hP hw hK
    obtain ⟨xs, x, hq, hx⟩ := hg
    obtain ⟨its, rv, p, hz⟩ := I.list hq
    obtain ⟨u, hu, ru⟩ := rv.get hx
    obtain ⟨f0, f1, f2, f3, f4, f5⟩ := hf it (by simp)
    refine wpAny_pyNext_list_item st p.isList (x := u) (by simpa using hu) fun h' st' sb => ?_
    have I1 : Inv X pins σ H { s with heap := h' } := I.turned (t' := s.toks) (fun b o hb e => (sb.2 b hb).trans e) f0 f1 f3 f4 f5
    obtain ⟨o, e, c, d⟩ := id st'
    exact ⟨u, rfl, go_of (s := { s with heap := h' }) e c d (by decide) ⟨x, H, I1, ru, ⟨rfl, fun ys hy => by rw [I.list_inj hy hq]; exact hx⟩, st', fun b hb => (hf b hb).1⟩⟩
  done := by
    intro X hP hw hK hc i pins s σ H E I hf st hg
    subst hP hw hK
    obtain ⟨xs, hq, hx⟩ := hg
    obtain ⟨its, rv, p, hz⟩ := I.list hq
    obtain ⟨f0, f1, f2, f3, f4, f5⟩ := hf it (by simp)
    have hl := rv.length
    exact wpAny_pyNext_list_end (I.ok.hd hc) st p.isList (by simp; omega) fun h' eb => ⟨rfl, I.turned (t' := s.toks) (fun b o hb e => eb b o hb e) f0 f1 f3 f4 f5⟩
  self := fun _ _ _ _ _ st h => wpAny_pyIter_listiter st h
theorem turn_tuple {P : Program} {w : World} {K : PySem.W.Frag} {tg : Expr} (a it : Addr) : Turn P w K tg (Itt K a) [it] it (fun i h => h.IsTupleIter it a i) where
  mem := by simp
  obj := fun i h st b hb => by
    have e : b = it := by simpa using hb
    subst e
    obtain ⟨o, e, c, d⟩ := st
    exact ⟨o, e, fun v z => by rw [d] at z; cases z⟩
  keep := fun i h h' st k => st.at fun o e => k it (by simp) o e
  item := by
    intro X hP hw hK hc i pins s σ H E I hf st hg
    subst hP hw hK
    obtain ⟨xs, x, hq, hx⟩ := hg
    obtain ⟨its, rv, p, hz⟩ := I.tuple hq
    obtain ⟨u, hu, ru⟩ := rv.get hx
    obtain ⟨f0, f1, f2, f3, f4, f5⟩ := hf it (by simp)
    refine wpAny_pyNext_tuple_item st (show s.heap.IsTuple a its.toArray from p) (x := u) (by simpa using hu) fun h' st' sb => ?_
    have I1 : Inv X pins σ H { s with heap := h' } := I.turned (t' := s.toks) (fun b o hb e => (sb.2 b hb).trans e) f0 f1 f3 f4 f5
    obtain ⟨o, e, c, d⟩ := id st'
    exact ⟨u, rfl, go_of (s := { s with heap := h' }) e c d (by decide) ⟨x, H, I1, ru, ⟨rfl, fun ys hy => by rw [I.tuple_inj hy hq]; exact hx⟩, st', fun b hb => (hf b hb).1⟩⟩
  done := by
    intro X hP hw hK hc i pins s σ H E I hf st hg
    subst hP hw hK
    obtain ⟨xs, hq, hx⟩ := hg
    obtain ⟨its, rv, p, hz⟩ := I.tuple hq
    obtain ⟨f0, f1, f2, f3, f4, f5⟩ := hf it (by simp)
    have hl := rv.length
    exact wpAny_pyNext_tuple_end (I.ok.hd hc) st (show s.heap.IsTuple a its.toArray from p) (by simp; omega) fun h' eb => ⟨rfl, I.turned (t' := s.toks) (fun b o hb e => eb b o hb e) f0 f1 f3 f4 f5⟩
  self := fun _ _ _ _ _ st h => wpAny_pyIter_tupleiter st h
theorem turn_range {P : Program} {w : World} {K : PySem.W.Frag} {tg : Expr} (it : Addr) (lo : Int) (n : Nat) : Turn P w K tg (Itr lo n) [it] it (fun i h => IsRangeIter h it (lo + (i : Nat) * 1) ((n : Int) - (i : Nat)) 1) where
  mem := by simp
  obj := fun i h st b hb => by
    have e : b = it := by simpa using hb
    subst e
    exact ⟨_, st, fun v z => by
      have z' : Data.fields _ = Data.cell v := z
      cases z'⟩
  keep := fun i h h' st k => k it (by simp) _ st
  item := by
    intro X hP hw hK hc i pins s σ H E I hf st hg
    subst hP hw hK
    obtain ⟨f0, f1, f2, f3, f4, f5⟩ := hf it (by simp)
    have W := Walks.range (prog := X.prog) (w := X.w) (I.ok.hd hc) it lo 1 n
    refine W.item i s _ _ hg st fun v h' tk hv st' kk => ?_
    obtain ⟨t, rfl⟩ := hv
    have I1 : Inv X pins σ H { s with heap := h', toks := tk } := I.turned (fun b o hb e => kk b o (by simpa using hb) e) f0 f1 f3 f4 f5
    refine ⟨_, rfl, go_of (s := { s with heap := h', toks := tk }) (n := "range_iterator") st' rfl rfl (by decide) ⟨.int (lo + i), H, I1, ⟨t, ?_⟩, ⟨rfl, rfl⟩, st', fun b hb => (hf b hb).1⟩⟩
    rw [Int.mul_one]
  done := by
    intro X hP hw hK hc i pins s σ H E I hf st hg
    subst hP hw hK
    obtain ⟨f0, f1, f2, f3, f4, f5⟩ := hf it (by simp)
    exact wpAny_pyNext_range_end (I.ok.hd hc) st (by have : n ≤ i := hg; omega) fun h' eb => ⟨rfl, I.turned (t' := s.toks) (fun b o hb e => eb b o hb e) f0 f1 f3 f4 f5⟩
  self := fun _ _ _ _ _ st h => wpAny_pyIter_rangeiter st h
end L2
namespace L2
open PySem PySem.Spec PyProof.Rows
section
variable {X : Cx} {tg : Expr}
def iList (K : PySem.W.Frag) (tl : TE) : TI := fun σ H R => tl σ H fun x H1 => ∃ a, x = .ref a ∧ (∃ xs, SqL K H1 a xs) ∧ R (Itl K a) H1
def iTup (K : PySem.W.Frag) (tl : TE) : TI := fun σ H R => tl σ H fun x H1 => ∃ a, x = .ref a ∧ (∃ xs, SqT K H1 a xs) ∧ R (Itt K a) H1
theorem pi_list {l : Expr} {tl : TE} (hl : PE X l tl) : PI X tg l (iList X.K tl) := by
  intro pins s σ H R I h
  refine thn (hl pins s σ H _ I h) fun v s1 ⟨x, H1, I1, r1, q1⟩ => ?_
  obtain ⟨a, e, ⟨xs, hq⟩, q⟩ := q1
  subst e
  cases r1
  obtain ⟨its, rv, p, hz⟩ := I1.list hq
  refine wpAny_pyIter_list p.isList ?_
  refine ⟨s1.heap.objs.size, [s1.heap.objs.size], _, _, H1, rfl, I1.kept (t' := s1.toks) fun b o e => Heap.get?_push_of_some _ e, turn_list a _, ⟨_, Heap.get?_push_size _ rfl, rfl, rfl⟩, fun b hb => ?_, q⟩
  have e : b = s1.heap.objs.size := by simpa using hb
  subst e
  exact I1.fpOk (Nat.le_refl _) (I1.hok.fresh (Nat.le_refl _))
theorem pi_tup {l : Expr} {tl : TE} (hl : PE X l tl) : PI X tg l (iTup X.K tl) := by
  intro pins s σ H R I h
  refine thn (hl pins s σ H _ I h) fun v s1 ⟨x, H1, I1, r1, q1⟩ => ?_
  obtain ⟨a, e, ⟨xs, hq⟩, q⟩ := q1
  subst e
  cases r1
  obtain ⟨its, rv, p, hz⟩ := I1.tuple hq
  refine wpAny_pyIter_tuple (show s1.heap.IsTuple a its.toArray from p) ?_
  refine ⟨s1.heap.objs.size, [s1.heap.objs.size], _, _, H1, rfl, I1.kept (t' := s1.toks) fun b o e => Heap.get?_push_of_some _ e, turn_tuple a _, ⟨_, Heap.get?_push_size _ rfl, rfl, rfl⟩, fun b hb => ?_, q⟩
  have e : b = s1.heap.objs.size := by simpa using hb
  subst e
  exact I1.fpOk (Nat.le_refl _) (I1.hok.fresh (Nat.le_refl _))
theorem range_it {pins : List (Addr × Obj)} {σ : St} {H : Hp} {s : Shared} {R : It → Hp → Prop} {E : Value → Shared → Prop} {lo hi : Int} {t u v : Tok} {tk : Nat} (I : Inv X pins σ H s) (h1 : -(2 ^ 62) ≤ lo) (h2 : lo < 2 ^ 62) (h3 : -(2 ^ 62) ≤ hi) (h4 : hi < 2 ^ 62)
    (q : R (Itr lo (hi - lo).toNat) H) : wpAny (model X.prog X.w) X.A (pyIter (.ref s.heap.objs.size)) (PIE X pins σ tg R) E { s with heap := s.heap.push { cls := .type "range", data := .fields #[.int lo t, .int hi u, .int 1 v] }, toks := tk } := by
  refine wpAny_pyIter_range (IsRange.new ..) (small_one h1 h2 h3 h4) ?_
  have I1 : Inv X pins σ H { s with heap := s.heap.push { cls := .type "range", data := .fields #[.int lo t, .int hi u, .int 1 v] }, toks := tk } := I.kept fun b o e => Heap.get?_push_of_some _ e
  refine ⟨(s.heap.push { cls := .type "range", data := .fields #[.int lo t, .int hi u, .int 1 v] }).objs.size, [(s.heap.push { cls := .type "range", data := .fields #[.int lo t, .int hi u, .int 1 v] }).objs.size], _, _, H, rfl,
    I1.kept (t' := tk) fun b o e => Heap.get?_push_of_some _ e, turn_range _ lo (hi - lo).toNat, ?_, fun b hb => ?_, q⟩
  · have e1 : lo + ((0 : Nat) : Int) * 1 = lo := by simp
    have e2 : (((hi - lo).toNat : Nat) : Int) - ((0 : Nat) : Int) = Builtin.Range.rangeSize lo hi 1 := by rw [rangeSize_one]; split <;> omega
    show IsRangeIter _ _ (lo + ((0 : Nat) : Int) * 1) ((((hi - lo).toNat : Nat) : Int) - ((0 : Nat) : Int)) 1
    rw [e1, e2]
    exact Heap.get?_push_size _ rfl
  · have e : b = (s.heap.push { cls := .type "range", data := .fields #[.int lo t, .int hi u, .int 1 v] }).objs.size := by simpa using hb
    subst e
    exact I1.fpOk (Nat.le_refl _) (I1.hok.fresh (Nat.le_refl _))
def iRng1 (ta : TA) : TI := fun σ H R => ta σ H fun vs H1 => ∃ j : Int, vs = [.int j] ∧ -(2 ^ 62) ≤ j ∧ j < 2 ^ 62 ∧ R (Itr 0 j.toNat) H1
def iRng2 (ta : TA) : TI := fun σ H R => ta σ H fun vs H1 => ∃ i j : Int, vs = [.int i, .int j] ∧ (-(2 ^ 62) ≤ i ∧ i < 2 ^ 62 ∧ -(2 ^ 62) ≤ j ∧ j < 2 ^ 62) ∧ R (Itr i (j - i).toNat) H1
theorem pi_range1 {a : Expr} {ta : TA} {p pos : Pos} (hg : Gl X "range") (hm : X.mg "range" = none) (ha : PA X [a] ta) (hs : starEach [a] X.env = [(false, eval a X.env)] := by rfl) : PI X tg (.Call (.Name "range" p) [a] [] pos) (iRng1 ta) := by
  intro pins s σ H R I h
  refine Call_ (ld_blt I hg hm boot_range (PyProof.Rows.callWith_type1 (thn (ha pos pins s σ H _ I h) fun us s1 ⟨vs, H1, I1, r1, q1⟩ => ?_) hs rfl))
  obtain ⟨j, e, q1, q2, q⟩ := q1
  subst e
  cases r1 with
  | cons r rr =>
    cases rr
    obtain ⟨t, rfl⟩ := r
    exact call_range_1 (range_it I1 (by omega) (by omega) q1 q2 (by simpa using q))
theorem pi_range2 {a b : Expr} {ta : TA} {p pos : Pos} (hg : Gl X "range") (hm : X.mg "range" = none) (ha : PA X [a, b] ta) (hs : starEach [a, b] X.env = [(false, eval a X.env), (false, eval b X.env)] := by rfl) (hs2 : starEach [b] X.env = [(false, eval b X.env)] := by rfl) :
    PI X tg (.Call (.Name "range" p) [a, b] [] pos) (iRng2 ta) := by
  intro pins s σ H R I h
  refine Call_ (ld_blt I hg hm boot_range (PyProof.Rows.callWith_type1 (thn (ha pos pins s σ H _ I h) fun us s1 ⟨vs, H1, I1, r1, q1⟩ => ?_) (by rw [hs, hs2]) (by rw [hs2]; rfl)))
  obtain ⟨i, j, e, ⟨q1, q2, q3, q4⟩, q⟩ := q1
  subst e
  cases r1 with
  | cons r rr =>
    cases rr with
    | cons r' rr =>
      cases rr
      obtain ⟨t, rfl⟩ := r
      obtain ⟨t', rfl⟩ := r'
      exact call_range_2 (range_it I1 q1 q2 q3 q4 q)
def tFor (wi : TI) (g : TG) (tb : TS) : TS := fun D σ H => wi σ H fun J H1 => ∃ W : Nat → Nat → St → Hp → Prop, (∃ m, W 0 m σ H1) ∧ ∀ i m σ H, W i m σ H →
  (J.stop i H ∧ D.nx σ H) ∨ (J.go i H ∧ ∃ N : St → Hp → Prop, (∀ σ' H', N σ' H' → ∃ m', m' < m ∧ W (i + 1) m' σ' H') ∧ ∀ x H', J.yld i H x H' → g x σ H' fun σ2 H2 => tb { D with nx := N, ct := N, bk := D.nx } σ2 H2)
def pinsAt (fp : List Addr) (h : Heap) : List (Addr × Obj) := fp.filterMap fun b => (h.get? b).map fun o => (b, o)
theorem mem_pinsAt {fp : List Addr} {h : Heap} {b : Addr} {o : Obj} (hb : b ∈ fp) (e : h.get? b = some o) : (b, o) ∈ pinsAt fp h := List.mem_filterMap.mpr ⟨b, hb, by rw [e]; rfl⟩
theorem of_pinsAt {fp : List Addr} {h : Heap} {p : Addr × Obj} (hp : p ∈ pinsAt fp h) : p.1 ∈ fp ∧ h.get? p.1 = some p.2 := by
  obtain ⟨b, hb, e⟩ := List.mem_filterMap.mp hp
  cases q : h.get? b with
  | none => rw [q] at e; cases e
  | some o =>
    rw [q] at e
    have e' : (b, o) = p := Option.some.inj e
    subst e'
    exact ⟨hb, q⟩
theorem Inv.pinned {pins : List (Addr × Obj)} {σ : St} {H : Hp} {s : Shared} {fp : List Addr} (I : Inv X pins σ H s) (hf : ∀ b ∈ fp, FpOk X pins H b) (ho : ∀ b ∈ fp, ∃ o, s.heap.get? b = some o ∧ ∀ v, o.data ≠ .cell v) : Inv X (pins ++ pinsAt fp s.heap) σ H s :=
  I.pins_of fun p hp => (List.mem_append.mp hp).elim (fun z => I.pin p (List.mem_append_right _ z)) fun z => by
    obtain ⟨hb, e⟩ := of_pinsAt z
    obtain ⟨f0, f1, f2, _⟩ := hf p.1 hb
    obtain ⟨o, e', d⟩ := ho p.1 hb
    rw [e] at e'; cases e'
    exact ⟨e, f0, f1, f2, d⟩
theorem Inv.unpinned {pins pl : List (Addr × Obj)} {σ : St} {H : Hp} {s : Shared} (I : Inv X (pins ++ pl) σ H s) : Inv X pins σ H s := I.pins_of fun p hp => I.pin p (List.mem_append_right _ (List.mem_append_left _ hp))
theorem ps_for {iter : Expr} {body : List Stmt} {wi : TI} {g : TG} {tb : TS} {pos : Pos} (hp : PassesOwn (model X.prog X.w) X.A X.env X.xe) (hc : X.calm = true) (hi : PI X tg iter wi) (hg : PG X tg g) (hb : PSs X body tb)
    (hs : ∀ x, foldedSetIterable iter X.env x = pure x := by intro _; rfl) : PS X (.For tg iter body [] pos) (tFor wi g tb) := by
  intro pins s σ H D I h
  refine wpAny_For (thn (hi pins s σ H _ I h) fun v s1 h1 => thn h1 fun itv s2 h2 => ?_) hs
  obtain ⟨it, fp, tn, J, H2, e, I2, T, st2, f2, W, ⟨m0, w0⟩, turn⟩ := h2
  subst e
  -- what stays true of the iterator's objects through the loop
  have stat : ∀ {H' : Hp}, (∀ b ∈ fp, H' b = none) → ∀ b ∈ fp, FpOk X pins H' b := fun hn b hb => ⟨hn b hb, (f2 b hb).2⟩
  refine codeAny_forLoop_any (fun n s' => ∃ i σ' H', Inv X pins σ' H' s' ∧ tn i s'.heap ∧ (∀ b ∈ fp, H' b = none) ∧ W i n σ' H') ?_ m0 ⟨0, σ, H2, I2, st2, fun b hb => (f2 b hb).1, w0⟩
  rintro n s3 ⟨i, σ3, H3, I3, st3, fr3, w3⟩
  rcases turn i n σ3 H3 w3 with ⟨stop, qn⟩ | ⟨go, N, hN, step⟩
  · refine wpAny_passesOwn hp (thn (T.done X rfl rfl rfl hc i pins s3 σ3 H3 X.xe I3 (stat fr3) st3 stop) fun r s4 ⟨hr, I4⟩ => ?_)
    subst hr
    exact wpAny_execs_nil ⟨σ3, H3, I4, qn⟩
  · refine wpAny_passesOwn hp (thn (T.item X rfl rfl rfl hc i pins s3 σ3 H3 X.xe I3 (stat fr3) st3 go) fun r s4 ⟨u, hr, h4⟩ => ?_)
    subst hr
    refine wpAny_passesOwn hp (thn h4 fun _ s5 ⟨x, H5, I5, r5, y5, st5, fr5⟩ => ?_)
    have I5' := I5.pinned (stat fr5) (T.obj _ _ st5)
    refine wpAny_passesOwn hp (thn (hg _ s5 σ3 H5 x u _ I5' r5 (step x H5 y5)) fun _ s6 ⟨σ6, H6, I6, q6⟩ => ?_)
    refine wpAny_passesOwn hp (thn (hb _ s6 σ6 H6 _ I6 q6) fun f s7 q7 => ?_)
    have again : ∀ {σ7 : St} {H7 : Hp}, Inv X (pins ++ pinsAt fp s5.heap) σ7 H7 s7 → N σ7 H7 → ∃ m, m < n ∧ ∃ i σ' H', Inv X pins σ' H' s7 ∧ tn i s7.heap ∧ (∀ b ∈ fp, H' b = none) ∧ W i m σ' H' := fun {σ7 H7} I7 n7 => by
      obtain ⟨m', hm, w7⟩ := hN σ7 H7 n7
      refine ⟨m', hm, i + 1, σ7, H7, I7.unpinned, T.keep _ _ _ st5 fun b hb o e => (I7.pin (b, o) (List.mem_append_right _ (List.mem_append_right _ (mem_pinsAt hb e)))).1, fun b hb => ?_, w7⟩
      obtain ⟨o, e, d⟩ := T.obj _ _ st5 b hb
      exact (I7.pin (b, o) (List.mem_append_right _ (List.mem_append_right _ (mem_pinsAt hb e)))).2.1
    cases f with
    | next => obtain ⟨σ7, H7, I7, n7⟩ := q7; exact again I7 n7
    | cont => obtain ⟨σ7, H7, I7, n7⟩ := q7; exact again I7 n7
    | brk => obtain ⟨σ7, H7, I7, q7⟩ := q7; exact ⟨σ7, H7, I7.unpinned, q7⟩
    | ret v => obtain ⟨x7, σ7, H7, I7, r7, q7⟩ := q7; exact ⟨x7, σ7, H7, I7.unpinned, r7, q7⟩
end
theorem for_list {K : PySem.W.Frag} {a : Addr} {xs : List V} {g : TG} {tb : TS} {D : Ends} {σ : St} {H : Hp} (Pv : Nat → St → Hp → Prop) (h0 : Pv 0 σ H) (hl : ∀ i σ H, i ≤ xs.length → Pv i σ H → SqL K H a xs)
    (hs : ∀ i x σ H, xs[i]? = some x → Pv i σ H → g x σ H fun σ2 H2 => tb { D with nx := Pv (i + 1), ct := Pv (i + 1), bk := D.nx } σ2 H2) (hd : ∀ σ H, Pv xs.length σ H → D.nx σ H) :
    ∃ W : Nat → Nat → St → Hp → Prop, (∃ m, W 0 m σ H) ∧ ∀ i m σ H, W i m σ H →
      ((Itl K a).stop i H ∧ D.nx σ H) ∨ ((Itl K a).go i H ∧ ∃ N : St → Hp → Prop, (∀ σ' H', N σ' H' → ∃ m', m' < m ∧ W (i + 1) m' σ' H') ∧ ∀ x H', (Itl K a).yld i H x H' → g x σ H' fun σ2 H2 => tb { D with nx := N, ct := N, bk := D.nx } σ2 H2) := by
  refine ⟨fun i m σ H => m = xs.length - i ∧ i ≤ xs.length ∧ Pv i σ H, ⟨xs.length, by simp, Nat.zero_le _, h0⟩, ?_⟩
  rintro i m σ H ⟨rfl, hi, p⟩
  have q := hl i σ H hi p
  by_cases hlt : i < xs.length
  · refine .inr ⟨⟨xs, xs[i], q, by simp [hlt]⟩, Pv (i + 1), fun σ' H' p' => ⟨xs.length - (i + 1), by omega, rfl, hlt, p'⟩, fun x H' y => ?_⟩
    obtain ⟨e, y⟩ := y
    subst e
    exact hs i x σ _ (y xs q) p
  · have e : i = xs.length := by omega
    subst e
    exact .inl ⟨⟨xs, q, Nat.le_refl _⟩, hd σ H p⟩
theorem for_tup {K : PySem.W.Frag} {a : Addr} {xs : List V} {g : TG} {tb : TS} {D : Ends} {σ : St} {H : Hp} (Pv : Nat → St → Hp → Prop) (h0 : Pv 0 σ H) (hl : ∀ i σ H, i ≤ xs.length → Pv i σ H → SqT K H a xs)
    (hs : ∀ i x σ H, xs[i]? = some x → Pv i σ H → g x σ H fun σ2 H2 => tb { D with nx := Pv (i + 1), ct := Pv (i + 1), bk := D.nx } σ2 H2) (hd : ∀ σ H, Pv xs.length σ H → D.nx σ H) :
    ∃ W : Nat → Nat → St → Hp → Prop, (∃ m, W 0 m σ H) ∧ ∀ i m σ H, W i m σ H →
      ((Itt K a).stop i H ∧ D.nx σ H) ∨ ((Itt K a).go i H ∧ ∃ N : St → Hp → Prop, (∀ σ' H', N σ' H' → ∃ m', m' < m ∧ W (i + 1) m' σ' H') ∧ ∀ x H', (Itt K a).yld i H x H' → g x σ H' fun σ2 H2 => tb { D with nx := N, ct := N, bk := D.nx } σ2 H2) := by
  refine ⟨fun i m σ H => m = xs.length - i ∧ i ≤ xs.length ∧ Pv i σ H, ⟨xs.length, by simp, Nat.zero_le _, h0⟩, ?_⟩
  rintro i m σ H ⟨rfl, hi, p⟩
  have q := hl i σ H hi p
  by_cases hlt : i < xs.length
  · refine .inr ⟨⟨xs, xs[i], q, by simp [hlt]⟩, Pv (i + 1), fun σ' H' p' => ⟨xs.length - (i + 1), by omega, rfl, hlt, p'⟩, fun x H' y => ?_⟩
    obtain ⟨e, y⟩ := y
    subst e
    exact hs i x σ _ (y xs q) p
  · have e : i = xs.length := by omega
    subst e
    exact .inl ⟨⟨xs, q, Nat.le_refl _⟩, hd σ H p⟩
theorem for_range {lo : Int} {n : Nat} {g : TG} {tb : TS} {D : Ends} {σ : St} {H : Hp} (Pv : Nat → St → Hp → Prop) (h0 : Pv 0 σ H)
    (hs : ∀ i σ H, i < n → Pv i σ H → g (.int (lo + i)) σ H fun σ2 H2 => tb { D with nx := Pv (i + 1), ct := Pv (i + 1), bk := D.nx } σ2 H2) (hd : ∀ σ H, Pv n σ H → D.nx σ H) :
    ∃ W : Nat → Nat → St → Hp → Prop, (∃ m, W 0 m σ H) ∧ ∀ i m σ H, W i m σ H →
      ((Itr lo n).stop i H ∧ D.nx σ H) ∨ ((Itr lo n).go i H ∧ ∃ N : St → Hp → Prop, (∀ σ' H', N σ' H' → ∃ m', m' < m ∧ W (i + 1) m' σ' H') ∧ ∀ x H', (Itr lo n).yld i H x H' → g x σ H' fun σ2 H2 => tb { D with nx := N, ct := N, bk := D.nx } σ2 H2) := by
  refine ⟨fun i m σ H => m = n - i ∧ i ≤ n ∧ Pv i σ H, ⟨n, by simp, Nat.zero_le _, h0⟩, ?_⟩
  rintro i m σ H ⟨rfl, hi, p⟩
  by_cases hlt : i < n
  · refine .inr ⟨hlt, Pv (i + 1), fun σ' H' p' => ⟨n - (i + 1), by omega, rfl, hlt, p'⟩, fun x H' y => ?_⟩
    obtain ⟨e, y⟩ := y
    subst e y
    exact hs i σ _ hlt p
  · have e : i = n := by omega
    subst e
    exact .inl ⟨Nat.le_refl _, hd σ H p⟩
end L2
namespace L2
open PySem PySem.Spec PyProof.Rows
abbrev R2 := V → V → Hp → VK → Prop
def OpR (X : Cx) (f : Value → Value → Sem Value) (r : R2) : Prop :=
  ∀ (pins : List (Addr × Obj)) (s : Shared) (σ : St) (H : Hp) (x y : V) (v u : Value) (Q : VK), Inv X pins σ H s → RelV x v → RelV y u → r x y H Q →
    wpAny (model X.prog X.w) X.A (f v u) (EP X pins σ Q) X.xe s
def UnR (X : Cx) (f : Value → Sem Value) (r : V → Hp → VK → Prop) : Prop :=
  ∀ (pins : List (Addr × Obj)) (s : Shared) (σ : St) (H : Hp) (x : V) (v : Value) (Q : VK), Inv X pins σ H s → RelV x v → r x H Q →
    wpAny (model X.prog X.w) X.A (f v) (EP X pins σ Q) X.xe s
def CallR (X : Cx) (f : Value) (r : List V → Hp → VK → Prop) : Prop :=
  ∀ (pins : List (Addr × Obj)) (s : Shared) (σ : St) (H : Hp) (xs : List V) (us : List Value) (Q : VK), Inv X pins σ H s → Vals xs us → r xs H Q →
    wpAny (model X.prog X.w) X.A (call f us) (EP X pins σ Q) X.xe s
def TruR (X : Cx) (r : V → Hp → (Bool → Hp → Prop) → Prop) : Prop :=
  ∀ (pins : List (Addr × Obj)) (s : Shared) (σ : St) (H : Hp) (x : V) (v : Value) (Q : Bool → Hp → Prop), Inv X pins σ H s → RelV x v → r x H Q →
    wpAny (model X.prog X.w) X.A (truthy v) (TP X pins σ Q) X.xe s
def tOp (r : R2) (ta tb : TE) : TE := fun σ H Q => ta σ H fun x H1 => tb σ H1 fun y H2 => r x y H2 Q
def tUn (r : V → Hp → VK → Prop) (ta : TE) : TE := fun σ H Q => ta σ H fun x H1 => r x H1 Q
def rI (C : Int → Int → Prop) (g : Int → Int → V) : R2 := fun x y H Q => ∃ i j, x = .int i ∧ y = .int j ∧ C i j ∧ Q (g i j) H
def rI0 (g : Int → Int → V) : R2 := fun x y H Q => ∃ i j, x = .int i ∧ y = .int j ∧ Q (g i j) H
def rU (g : Int → V) : V → Hp → VK → Prop := fun x H Q => ∃ i, x = .int i ∧ Q (g i) H
section
variable {X : Cx} {a b c : Expr} {ta tb tc : TE} {pos : Pos}
theorem binT (ha : PE X a ta) (hb : PE X b tb) {pins : List (Addr × Obj)} {s : Shared} {σ : St} {H : Hp} {R : V → V → Hp → Prop} (I : Inv X pins σ H s)
    (h : ta σ H fun x H1 => tb σ H1 fun y H2 => R x y H2) {Q : Value → Shared → Prop} {f : Value → Value → Sem Value}
    (hf : ∀ v u s2 x y H2, Inv X pins σ H2 s2 → RelV x v → RelV y u → R x y H2 → wpAny (model X.prog X.w) X.A (f v u) Q X.xe s2) :
    wpAny (model X.prog X.w) X.A (eval a X.env) (fun v s₁ => wpAny (model X.prog X.w) X.A (eval b X.env) (fun u s₂ => wpAny (model X.prog X.w) X.A (f v u) Q X.xe s₂) X.xe s₁) X.xe s := by
  refine thn (ha pins s σ H _ I h) fun v s1 ⟨x, H1, I1, r1, q1⟩ => ?_
  refine thn (hb pins s1 σ H1 _ I1 q1) fun u s2 ⟨y, H2, I2, r2, q2⟩ => ?_
  exact hf v u s2 x y H2 I2 r1 r2 q2
theorem pe_op {op : Operator} {r : R2} (ho : OpR X (binaryOp op) r) (ha : PE X a ta) (hb : PE X b tb) : PE X (.BinOp a op b pos) (tOp r ta tb) := by
  intro pins s σ H Q I h
  exact wpAny_BinOp (binT ha hb I h fun v u s2 x y H2 I2 rx ry q => ho pins s2 σ H2 x y v u Q I2 rx ry q)
theorem pe_un {op : UnaryOp} {r : V → Hp → VK → Prop} (ho : UnR X (unaryOp op) r) (ha : PE X a ta) : PE X (.UnaryOp op a pos) (tUn r ta) := by
  intro pins s σ H Q I h
  exact UnaryOp_ (thn (ha pins s σ H _ I h) fun v s1 ⟨x, H1, I1, r1, q1⟩ => ho pins s1 σ H1 x v Q I1 r1 q1)
theorem opI {f : Value → Value → Sem Value} {C : Int → Int → Prop} {g : Int → Int → Int}
    (rule : ∀ (i j : Int) (t u : Tok) (s : Shared) (Q : Value → Shared → Prop) (E : Value → Shared → Prop), C i j → Q (.int (g i j) s.toks) { s with toks := s.toks + 1 } → wpAny (model X.prog X.w) X.A (f (.int i t) (.int j u)) Q E s) :
    OpR X f (rI C fun i j => .int (g i j)) := by
  intro pins s σ H x y v u Q I rx ry h
  obtain ⟨i, j, rfl, rfl, hc, q⟩ := h
  obtain ⟨t, rfl⟩ := rx
  obtain ⟨t', rfl⟩ := ry
  exact rule i j t t' s _ _ hc ⟨.int (g i j), H, I.tok _, ⟨_, rfl⟩, q⟩
theorem opI0 {f : Value → Value → Sem Value} {g : Int → Int → Int}
    (rule : ∀ (i j : Int) (t u : Tok) (s : Shared) (Q : Value → Shared → Prop) (E : Value → Shared → Prop), Q (.int (g i j) s.toks) { s with toks := s.toks + 1 } → wpAny (model X.prog X.w) X.A (f (.int i t) (.int j u)) Q E s) :
    OpR X f (rI0 fun i j => .int (g i j)) := by
  intro pins s σ H x y v u Q I rx ry h
  obtain ⟨i, j, rfl, rfl, q⟩ := h
  obtain ⟨t, rfl⟩ := rx
  obtain ⟨t', rfl⟩ := ry
  exact rule i j t t' s _ _ ⟨.int (g i j), H, I.tok _, ⟨_, rfl⟩, q⟩
theorem opB0 {f : Value → Value → Sem Value} {g : Int → Int → Bool}
    (rule : ∀ (i j : Int) (t u : Tok) (s : Shared) (Q : Value → Shared → Prop) (E : Value → Shared → Prop), Q (.bool (g i j)) s → wpAny (model X.prog X.w) X.A (f (.int i t) (.int j u)) Q E s) :
    OpR X f (rI0 fun i j => .bl (g i j)) := by
  intro pins s σ H x y v u Q I rx ry h
  obtain ⟨i, j, rfl, rfl, q⟩ := h
  obtain ⟨t, rfl⟩ := rx
  obtain ⟨t', rfl⟩ := ry
  exact rule i j t t' s _ _ ⟨.bl (g i j), H, I, rfl, q⟩
def CDiv (i j : Int) : Prop := 0 < j ∧ j < 1073741824
def CDivN (i j : Int) : Prop := j ≠ 0 ∧ j.natAbs < 1073741824
def CPow (i j : Int) : Prop := 0 ≤ j ∧ j ≤ 1000000 ∧ i.natAbs < 2 ^ 64
def CMul (i j : Int) : Prop := (-(2 ^ 64) < i ∧ i < 2 ^ 64) ∨ (-(2 ^ 64) < j ∧ j < 2 ^ 64)
theorem CMul.ok {i j : Int} (h : CMul i j) : IntMulOk i j := by
  rcases h with ⟨h1, h2⟩ | ⟨h1, h2⟩
  · exact .of_left (intBits_le_64 h1 h2)
  · exact .of_right (intBits_le_64 h1 h2)
theorem op_add : OpR X (binaryOp .Add) (rI0 fun i j => .int (i + j)) := opI0 fun _ _ _ _ _ _ _ q => add_int q
theorem op_sub : OpR X (binaryOp .Sub) (rI0 fun i j => .int (i - j)) := opI0 fun _ _ _ _ _ _ _ q => sub_int q
theorem op_mod : OpR X (binaryOp .Mod) (rI (fun _ j => 0 < j) fun i j => .int (i % j)) := opI fun i j _ _ _ _ _ hc q => by
  have h1 : (0 : Int) < j := hc
  exact mod_int' (by omega) (by rw [Int.fmod_eq_emod_of_nonneg i (by omega)]; exact q)
theorem op_pow : OpR X (binaryOp .Pow) (rI CPow fun i j => .int (i ^ j.toNat)) := opI fun _ _ _ _ _ _ _ hc q => pow_int_small hc.1 hc.2.1 hc.2.2 q
theorem iop_add : OpR X (inplaceOp .Add) (rI0 fun i j => .int (i + j)) := opI0 fun _ _ _ _ _ _ _ q => iadd_int q
theorem iop_sub : OpR X (inplaceOp .Sub) (rI0 fun i j => .int (i - j)) := opI0 fun _ _ _ _ _ _ _ q => isub_int q
theorem unI {f : Value → Sem Value} {g : Int → Int}
    (rule : ∀ (i : Int) (t : Tok) (s : Shared) (Q : Value → Shared → Prop) (E : Value → Shared → Prop), Q (.int (g i) s.toks) { s with toks := s.toks + 1 } → wpAny (model X.prog X.w) X.A (f (.int i t)) Q E s) :
    UnR X f (rU fun i => .int (g i)) := by
  intro pins s σ H x v Q I rx h
  obtain ⟨i, rfl, q⟩ := h
  obtain ⟨t, rfl⟩ := rx
  exact rule i t s _ _ ⟨.int (g i), H, I.tok _, ⟨_, rfl⟩, q⟩
theorem un_neg : UnR X (unaryOp .USub) (rU fun i => .int (-i)) := unI fun _ _ _ _ _ q => neg_int q
end
def scal : V → V → Bool
  | .non, .non => true | .non, .int _ => true | .int _, .non => true | .non, .bl _ => true | .bl _, .non => true | .non, .str _ => true | .str _, .non => true
  | .int _, .int _ => true | .bl _, .bl _ => true | .str _, .str _ => true | .byt _, .byt _ => true
  | .int _, .str _ => true | .str _, .int _ => true | .bl _, .str _ => true | .str _, .bl _ => true
  | _, _ => false
def rEq : R2 := fun x y H Q => scal x y = true ∧ Q (.bl (decide (x = y))) H
def rNe : R2 := fun x y H Q => scal x y = true ∧ Q (.bl (!decide (x = y))) H
theorem dec_int {i j : Int} : decide (V.int i = V.int j) = (i == j) := by
  rw [Bool.eq_iff_iff]
  simp
theorem dec_bl {i j : Bool} : decide (V.bl i = V.bl j) = (i == j) := by
  rw [Bool.eq_iff_iff]
  simp
theorem dec_str {i j : Str} : decide (V.str i = V.str j) = (i == j) := by
  rw [Bool.eq_iff_iff]
  simp
theorem dec_byt {i j : Array UInt8} : decide (V.byt i = V.byt j) = (i.toList == j.toList) := by
  rw [Bool.eq_iff_iff]
  cases i
  cases j
  simp
section
variable {X : Cx} {a b c : Expr} {ta tb tc : TE} {pos : Pos}
theorem fin_bl {pins : List (Addr × Obj)} {σ : St} {H : Hp} {s : Shared} {Q : VK} {k k' : Bool} (I : Inv X pins σ H s) (q : Q (.bl k) H) (e : k = k') : EP X pins σ Q (.bool k') s := by
  subst e
  exact ⟨.bl k, H, I, rfl, q⟩
theorem op_eq : OpR X (compareOp .Eq) rEq := by
  intro pins s σ H x y v u Q I rx ry h
  obtain ⟨hs, q⟩ := h
  cases x with
  | non =>
    cases rx
    cases y with
    | non => cases ry; exact PySem.EqNone.eq_none_none (fin_bl I q (by simp))
    | bl j => cases ry; exact PySem.EqNone.eq_none_bool (fin_bl I q (by simp))
    | int j => obtain ⟨t', rfl⟩ := ry; exact PySem.EqNone.eq_none_int (fin_bl I q (by simp))
    | str j => obtain ⟨t', rfl⟩ := ry; exact PySem.EqNone.eq_none_str (fin_bl I q (by simp))
    | _ => exact absurd (show false = true from hs) Bool.false_ne_true
  | bl i =>
    cases rx
    cases y with
    | non => cases ry; exact PySem.EqNone.eq_bool_none (fin_bl I q (by simp))
    | bl j => cases ry; exact eq_bool (fin_bl I q dec_bl)
    | str j => obtain ⟨t', rfl⟩ := ry; exact PySem.EqMixed.eq_bool_str (fin_bl I q (by simp))
    | _ => exact absurd (show false = true from hs) Bool.false_ne_true
  | int i =>
    obtain ⟨t, rfl⟩ := rx
    cases y with
    | non => cases ry; exact PySem.EqNone.eq_int_none (fin_bl I q (by simp))
    | int j => obtain ⟨t', rfl⟩ := ry; exact eq_int (fin_bl I q dec_int)
    | str j => obtain ⟨t', rfl⟩ := ry; exact PySem.EqMixed.eq_int_str (fin_bl I q (by simp))
    | _ => exact absurd (show false = true from hs) Bool.false_ne_true
  | str i =>
    obtain ⟨t, rfl⟩ := rx
    cases y with
    | non => cases ry; exact PySem.EqNone.eq_str_none (fin_bl I q (by simp))
    | bl j => cases ry; exact PySem.EqMixed.eq_str_bool (fin_bl I q (by simp))
    | int j => obtain ⟨t', rfl⟩ := ry; exact PySem.EqMixed.eq_str_int (fin_bl I q (by simp))
    | str j => obtain ⟨t', rfl⟩ := ry; exact eq_str (fin_bl I q dec_str)
    | _ => exact absurd (show false = true from hs) Bool.false_ne_true
  | byt i =>
    obtain ⟨t, rfl⟩ := rx
    cases y with
    | byt j => obtain ⟨t', rfl⟩ := ry; exact PySem.W.eq_bytes (fin_bl I q dec_byt)
    | _ => exact absurd (show false = true from hs) Bool.false_ne_true
  | _ => cases y <;> exact absurd (show false = true from hs) Bool.false_ne_true
theorem op_ne : OpR X (compareOp .NotEq) rNe := by
  intro pins s σ H x y v u Q I rx ry h
  obtain ⟨hs, q⟩ := h
  cases x with
  | non =>
    cases rx
    cases y with
    | non => cases ry; exact PySem.EqNone.ne_none_none (fin_bl I q (by simp))
    | bl j => cases ry; exact PySem.EqNone.ne_none_bool (fin_bl I q (by simp))
    | int j => obtain ⟨t', rfl⟩ := ry; exact PySem.EqNone.ne_none_int (fin_bl I q (by simp))
    | str j => obtain ⟨t', rfl⟩ := ry; exact PySem.EqNone.ne_none_str (fin_bl I q (by simp))
    | _ => exact absurd (show false = true from hs) Bool.false_ne_true
  | bl i =>
    cases rx
    cases y with
    | non => cases ry; exact PySem.EqNone.ne_bool_none (fin_bl I q (by simp))
    | bl j => cases ry; exact ne_bool (fin_bl I q (congrArg not dec_bl))
    | str j => obtain ⟨t', rfl⟩ := ry; exact PySem.EqMixed.ne_bool_str (fin_bl I q (by simp))
    | _ => exact absurd (show false = true from hs) Bool.false_ne_true
  | int i =>
    obtain ⟨t, rfl⟩ := rx
    cases y with
    | non => cases ry; exact PySem.EqNone.ne_int_none (fin_bl I q (by simp))
    | int j => obtain ⟨t', rfl⟩ := ry; exact ne_int (fin_bl I q (congrArg not dec_int))
    | str j => obtain ⟨t', rfl⟩ := ry; exact PySem.EqMixed.ne_int_str (fin_bl I q (by simp))
    | _ => exact absurd (show false = true from hs) Bool.false_ne_true
  | str i =>
    obtain ⟨t, rfl⟩ := rx
    cases y with
    | non => cases ry; exact PySem.EqNone.ne_str_none (fin_bl I q (by simp))
    | bl j => cases ry; exact PySem.EqMixed.ne_str_bool (fin_bl I q (by simp))
    | int j => obtain ⟨t', rfl⟩ := ry; exact PySem.EqMixed.ne_str_int (fin_bl I q (by simp))
    | str j => obtain ⟨t', rfl⟩ := ry; exact ne_str (fin_bl I q (congrArg not dec_str))
    | _ => exact absurd (show false = true from hs) Bool.false_ne_true
  | byt i =>
    obtain ⟨t, rfl⟩ := rx
    cases y with
    | byt j => obtain ⟨t', rfl⟩ := ry; exact PySem.W.ne_bytes (fin_bl I q (congrArg not dec_byt))
    | _ => exact absurd (show false = true from hs) Bool.false_ne_true
  | _ => cases y <;> exact absurd (show false = true from hs) Bool.false_ne_true
theorem op_lt : OpR X (compareOp .Lt) (rI0 fun i j => .bl (decide (i < j))) := opB0 fun _ _ _ _ _ _ _ q => lt_int q
theorem op_le : OpR X (compareOp .LtE) (rI0 fun i j => .bl (decide (i ≤ j))) := opB0 fun _ _ _ _ _ _ _ q => le_int q
theorem op_gt : OpR X (compareOp .Gt) (rI0 fun i j => .bl (decide (j < i))) := opB0 fun _ _ _ _ _ _ _ q => gt_int q
theorem op_ge : OpR X (compareOp .GtE) (rI0 fun i j => .bl (decide (j ≤ i))) := opB0 fun _ _ _ _ _ _ _ q => ge_int q
def isObj : HO → Bool
  | .lst _ => true
  | .ins _ _ _ => true
  | _ => false
theorem OpR.or {f : Value → Value → Sem Value} {r r' : R2} (h : OpR X f r) (h' : OpR X f r') : OpR X f (fun x y H Q => r x y H Q ∨ r' x y H Q) := by
  intro pins s σ H x y v u Q I rx ry q
  rcases q with q | q
  · exact h pins s σ H x y v u Q I rx ry q
  · exact h' pins s σ H x y v u Q I rx ry q
theorem nomark (b : Expr) {op : CmpOp} (h : op ≠ .In := by decide) (h2 : op ≠ .NotIn := by decide) : behindInMarks op b = false := by
  have e1 : (op == CmpOp.In) = false := by cases op <;> first | rfl | exact absurd rfl h
  have e2 : (op == CmpOp.NotIn) = false := by cases op <;> first | rfl | exact absurd rfl h2
  cases b <;> simp [behindInMarks, e1, e2]
theorem pe_cmpR {op : CmpOp} {r : R2} (ho : OpR X (compareOp op) r) (ha : PE X a ta) (hb : PE X b tb) (hm : behindInMarks op b = false) : PE X (.Compare a [op] [b] pos) (tOp r ta tb) := by
  intro pins s σ H Q I h
  exact wpAny_Compare1 (binT ha hb I h fun v u s2 x y H2 I2 rx ry q => ho pins s2 σ H2 x y v u Q I2 rx ry q) hm
def tTest (t : TE) : TT := fun σ H Q => t σ H fun x H' => ∃ k, x = .bl k ∧ Q k H'
theorem pt_cmpR {op : CmpOp} {r : R2} (ho : OpR X (compareOp op) r) (ha : PE X a ta) (hb : PE X b tb) (hm : behindInMarks op b = false) : PT X (.Compare a [op] [b] pos) (tTest (tOp r ta tb)) := by
  intro pins s σ H Q I h
  refine wpAny_isTrue_Compare1 (thn (ha pins s σ H _ I h) fun v s1 ⟨x, H1, I1, r1, q1⟩ => thn (hb pins s1 σ H1 _ I1 q1) fun u s2 ⟨y, H2, I2, r2, q2⟩ =>
    thn (ho pins s2 σ H2 x y v u _ I2 r1 r2 q2) fun c s3 ⟨z, H3, I3, r3, k, e, q3⟩ => ?_) hm
  subst e
  cases r3
  exact wpAny_truthy_bool ⟨H3, I3, q3⟩
def tChain (r r' : R2) (ta tb tc : TE) : TE := fun σ H Q => ta σ H fun x H1 => tb σ H1 fun y H2 => r x y H2 fun z H3 => ∃ k, z = .bl k ∧
  (if k = true then tc σ H3 fun w' H4 => r' y w' H4 Q else Q (.bl false) H3)
theorem pe_chain {op op' : CmpOp} {r r' : R2} (ho : OpR X (compareOp op) r) (ho' : OpR X (compareOp op') r') (ha : PE X a ta) (hb : PE X b tb) (hc : PE X c tc)
    (hm : lastMarks [op, op'] [b, c] = false := by with_unfolding_all rfl) : PE X (.Compare a [op, op'] [b, c] pos) (tChain r r' ta tb tc) := by
  intro pins s σ H Q I h
  refine Compare_chain (thn (ha pins s σ H _ I h) fun v s1 ⟨x, H1, I1, r1, q1⟩ => chain_link (thn (hb pins s1 σ H1 _ I1 q1) fun u s2 ⟨y, H2, I2, r2, q2⟩ =>
    thn (ho pins s2 σ H2 x y v u _ I2 r1 r2 q2) fun d s3 ⟨z, H3, I3, r3, k, e, q3⟩ => ?_)) hm
  subst e
  cases r3
  refine wpAny_truthy_bool ?_
  cases k with
  | false => exact ite_ff ⟨.bl false, H3, I3, rfl, q3⟩
  | true => exact ite_tt (chain_last (thn (hc pins s3 σ H3 _ I3 q3) fun w' s4 ⟨z', H4, I4, r4, q4⟩ => ho' pins s4 σ H4 y z' u w' Q I4 r2 r4 q4))
def TruV (K : PySem.W.Frag) (x : V) (H : Hp) (k : Bool) : Prop :=
  match x with
  | .non => k = false
  | .bl b => k = b
  | .int i => k = (i != 0)
  | .str y => y.length ≤ sizeLine ∧ k = ((y.length : Int) != 0)
  | .byt y => y.size ≤ sizeLine ∧ k = ((y.size : Int) != 0)
  | .ref p => (∃ xs, SqL K H p xs ∧ k = !xs.isEmpty) ∨ (∃ xs, SqT K H p xs ∧ k = !xs.isEmpty) ∨ ∃ kvs, H p = some (.dK kvs) ∧ k = !kvs.isEmpty
  | _ => False
theorem isEmpty_kv {κ : Type} {kvs : List (κ × V)} {vs : List (κ × Value)} (r : KV kvs vs) : (!vs.isEmpty) = !kvs.isEmpty := by
  cases r <;> rfl
theorem isEmpty_of {xs : List V} {its : List Value} (r : Vals xs its) : (!its.toArray.isEmpty) = !xs.isEmpty := by
  cases r <;> simp
theorem line63 : (sizeLine : Nat) < 2 ^ 63 := by rw [sizeLine_eq]; decide
theorem tru_ok : TruR X (fun x H Q => ∃ k, TruV X.K x H k ∧ Q k H) := by
  intro pins s σ H x v Q I rx h
  obtain ⟨k, e, q⟩ := h
  have hl := line63
  have hs : sizeLine = 16777216 := sizeLine_eq
  cases x with
  | non =>
    cases rx
    have e' : k = false := e
    subst e'
    exact truthy_none ⟨H, I, q⟩
  | bl b =>
    cases rx
    have e' : k = b := e
    subst e'
    exact wpAny_truthy_bool ⟨H, I, q⟩
  | int i =>
    obtain ⟨t, rfl⟩ := rx
    have e' : k = (i != 0) := e
    subst e'
    exact PySem.P.truthy_int ⟨H, I, q⟩
  | str y =>
    obtain ⟨t, rfl⟩ := rx
    obtain ⟨hy, e'⟩ : y.length ≤ sizeLine ∧ k = ((y.length : Int) != 0) := e
    subst e'
    exact PySem.P.truthy_str (by omega) ⟨H, I.tok _, q⟩
  | byt y =>
    obtain ⟨t, rfl⟩ := rx
    obtain ⟨hy, e'⟩ : y.size ≤ sizeLine ∧ k = ((y.size : Int) != 0) := e
    subst e'
    exact PySem.W.truthy_bytes (by omega) ⟨H, I.tok _, q⟩
  | ref p =>
    cases rx
    have e' : (∃ xs, SqL X.K H p xs ∧ k = !xs.isEmpty) ∨ (∃ xs, SqT X.K H p xs ∧ k = !xs.isEmpty) ∨ ∃ kvs, H p = some (.dK kvs) ∧ k = !kvs.isEmpty := e
    rcases e' with ⟨xs, hx, e'⟩ | ⟨xs, hx, e'⟩ | ⟨kvs, hx, e'⟩
    · subst e'
      obtain ⟨its, r, pl, hz⟩ := I.list hx
      have hlen := r.length
      exact wpAny_truthy_list pl.isList (by simp only [List.size_toArray]; omega) ⟨H, I.tok _, by rw [isEmpty_of r]; exact q⟩
    · subst e'
      obtain ⟨its, r, pl, hz⟩ := I.tuple hx
      have hlen := r.length
      exact truthy_tuple pl (by simp only [List.size_toArray]; omega) ⟨H, I.tok _, by rw [isEmpty_of r]; exact q⟩
    · subst e'
      obtain ⟨hz, hS, vs, r, m⟩ : kvs.length ≤ sizeLine ∧ (p == sysModules) = false ∧ ∃ vs, KV kvs vs ∧ s.heap.DictOf (mixKind X.prog X.w) p vs := I.hok p _ hx
      have hlen : kvs.length = vs.length := Paired.length r
      exact wpAny_truthy_dict hS m (by omega) ⟨H, I.tok _, by rw [isEmpty_kv r]; exact q⟩
  | _ => exact (show False from e).elim
theorem pt_truth (ha : PE X a ta) (he : ∀ whole, isTrue a X.env whole = (do let v ← whole; standAt a.pos; holding [v] (truthy v))) :
    PT X a (fun σ H Q => ta σ H fun x H' => ∃ k, TruV X.K x H' k ∧ Q k H') := by
  intro pins s σ H Q I h
  exact isTrue_plain (thn (ha pins s σ H _ I h) fun v s1 ⟨x, H1, I1, r1, q1⟩ => tru_ok pins s1 σ H1 x v Q I1 r1 q1) (he _)
def PlainIxT (b : Expr) : Prop := ∀ o i, subscripted b false o i = operate [o, i] (getItem o i)
theorem vals1 {x : V} {us : List Value} (r : Vals [x] us) : ∃ u, us = [u] ∧ RelV x u := by
  cases r with
  | cons r1 r2 => cases r2; exact ⟨_, rfl, r1⟩
theorem vals2 {x y : V} {us : List Value} (r : Vals [x, y] us) : ∃ u w', us = [u, w'] ∧ RelV x u ∧ RelV y w' := by
  cases r with
  | cons r1 r2 =>
    cases r2 with
    | cons r3 r4 => cases r4; exact ⟨_, _, rfl, r1, r3⟩
theorem call_abs : CallR X (.builtin "abs") (fun xs H Q => ∃ i, xs = [.int i] ∧ Q (.int (if i < 0 then -i else i)) H) := by
  intro pins s σ H xs us Q I r h
  obtain ⟨i, rfl, q⟩ := h
  obtain ⟨u, rfl, t, rfl⟩ := vals1 r
  exact call_abs_int fun u tk => ⟨.int (if i < 0 then -i else i), H, I.tok _, ⟨_, rfl⟩, q⟩
theorem call_max2 (hc : X.calm = true) : CallR X (.builtin "max") (fun xs H Q => ∃ i j, xs = [.int i, .int j] ∧ Q (.int (if j > i then j else i)) H) := by
  intro pins s σ H xs us Q I r h
  obtain ⟨i, j, rfl, q⟩ := h
  obtain ⟨u, w', rfl, ⟨t, rfl⟩, ⟨t', rfl⟩⟩ := vals2 r
  refine max_two_ints (I.ok.hd hc) fun h' tk k => ⟨_, H, I.kept k, ?_, q⟩
  by_cases hj : j > i
  · rw [if_pos hj, if_pos hj]; exact ⟨_, rfl⟩
  · rw [if_neg hj, if_neg hj]; exact ⟨_, rfl⟩
theorem call_min2 (hc : X.calm = true) : CallR X (.builtin "min") (fun xs H Q => ∃ i j, xs = [.int i, .int j] ∧ Q (.int (if j < i then j else i)) H) := by
  intro pins s σ H xs us Q I r h
  obtain ⟨i, j, rfl, q⟩ := h
  obtain ⟨u, w', rfl, ⟨t, rfl⟩, ⟨t', rfl⟩⟩ := vals2 r
  refine min_two_ints (I.ok.hd hc) fun h' tk k => ⟨_, H, I.kept k, ?_, q⟩
  by_cases hj : j < i
  · rw [if_pos hj, if_pos hj]; exact ⟨_, rfl⟩
  · rw [if_neg hj, if_neg hj]; exact ⟨_, rfl⟩
def LenV (K : PySem.W.Frag) (x : V) (H : Hp) (n : Nat) : Prop :=
  match x with
  | .str y => y.length ≤ sizeLine ∧ n = y.length
  | .byt y => y.size ≤ sizeLine ∧ n = y.size
  | .ref p => (∃ xs, SqL K H p xs ∧ n = xs.length) ∨ ∃ xs, SqT K H p xs ∧ n = xs.length
  | _ => False
end
end L2
namespace L2
open PySem PySem.Spec PyProof.Rows
structure ObjM (h : Heap) (x dx C : Addr) (mA : Str → Option Value) : Prop where
  obj : h.get? x = some (PySem.W.instObj C dx)
  ns : h.Ns1 dx mA
  ne : dx ≠ x
theorem lookIn_ns {h : Heap} {dx : Addr} {mA : Str → Option Value} (n : h.Ns1 dx mA) : ∃ od, h.get? dx = some od ∧ ∀ name, PySem.W.lookIn name od = some (mA name) := by
  obtain ⟨o, es, ep, ho, hd, hk, _, hm⟩ := n
  refine ⟨o, ho, fun name => ?_⟩
  have e := hm name
  unfold nsFind findBy at e
  rw [← Array.find?_toList] at e
  unfold PySem.W.lookIn
  rw [hd]
  dsimp only
  split
  · rename_i y q
    rw [q] at e
    exact congrArg some e
  · rename_i q
    rw [q] at e
    have a : es.toList.any (·.refKey) = false := by
      rw [List.any_eq_false]
      intro y hy
      obtain ⟨z, t, hkey⟩ := hk y (Array.mem_toList_iff.mp hy)
      simp [DictEntry.refKey, hkey]
    have a' : ¬ es.toList.any (·.refKey) = true := by rw [a]; exact Bool.false_ne_true
    rw [if_neg a']
    exact congrArg some e
theorem ObjM.look {h : Heap} {x dx C : Addr} {mA : Str → Option Value} (I : ObjM h x dx C mA) : ∃ od, PySem.W.InstAt h x (PySem.W.instObj C dx) C (some od) ∧ ∀ name, PySem.W.lookIn name od = some (mA name) :=
  let ⟨od, ho, hl⟩ := lookIn_ns I.ns
  ⟨od, ⟨I.obj, rfl, rfl, ho⟩, hl⟩
section
variable {prog : Program} {w : World} {A : Around} {E : Value → Shared → Prop} {s : Shared} {K : PySem.W.Frag} {x dx C f : Addr} {mA : Str → Option Value} {name : Str} {v : Value}
end
def putF (f : Str) (v : V) : List (Str × V) → List (Str × V)
  | [] => [(f, v)]
  | (g, x) :: r => if g = f then (g, v) :: r else (g, x) :: putF f v r
section
variable {P : Program} {w : World} {H H' : Hp} {h h' : Heap} {a C dx : Addr} {fs fs' : List (Str × V)}
theorem ins_get (hok : HOk P w H h) (e : H a = some (.ins C dx fs)) : ∃ mA, ObjM h a dx C mA ∧ (∀ f, RelO (fs.lookup f) (mA f)) ∧ PySem.Within mA (fs.map (·.1)) ∧ fs.length ≤ 1000 ∧ H dx = some (.own a) := by
  obtain ⟨d, z, ne, ob, mA, n, r, q⟩ := (show ObjOk P w H h a (.ins C dx fs) from hok a _ e)
  exact ⟨mA, ⟨ob, n, ne⟩, r, q, z, d⟩
end
structure Cls (K : PySem.W.Frag) (C : Addr) : Prop where
  pg : PySem.W.plainGet K C Str.empty = true
  hd : PySem.W.hasDictIn K C = true
  po : PySem.W.plainOver K C = true
  sa : PySem.W.findIn K (.ref C) "__setattr__" = some (some (.builtin "object.__setattr__"))
theorem Cls.get {K : PySem.W.Frag} {C : Addr} (c : Cls K C) (f : Str) : PySem.W.plainGet K C f = true := c.pg
def NoAttr (K : PySem.W.Frag) (C : Addr) (f : Str) : Prop := PySem.W.findIn K (.ref C) f = some none
structure Con (K : PySem.W.Frag) (C : Addr) (f : Str) (v : V) (u : Value) : Prop where
  at_ : PySem.W.findIn K (.ref C) f = some (some u)
  rel : RelV v u
  get : PySem.W.specialIn K u "__get__" = some none
  cp : PySem.W.copiedNames.contains f = false
structure Meth (K : PySem.W.Frag) (C : Addr) (m : Str) (f : Addr) : Prop where
  at_ : PySem.W.findIn K (.ref C) m = some (some (.ref f))
  fn : PySem.W.isFn K (.ref f) = true
  kp : PySem.W.keepIn K (.ref f) = true
section
variable {X : Cx} {pins : List (Addr × Obj)} {σ : St} {H : Hp} {s : Shared} {a C dx : Addr} {fs : List (Str × V)} {f : Str} {v : V} {A : Around} {E : Value → Shared → Prop}
end
def tFld (K : PySem.W.Frag) (ta : TE) (f : Str) : TE := fun σ H Q => ta σ H fun x H1 => ∃ a C dx fs v, x = .ref a ∧ H1 a = some (.ins C dx fs) ∧ Cls K C ∧ NoAttr K C f ∧ fs.lookup f = some v ∧ Q v H1
def tCon (K : PySem.W.Frag) (ta : TE) (f : Str) : TE := fun σ H Q => ta σ H fun x H1 => ∃ a C dx fs v u, x = .ref a ∧ H1 a = some (.ins C dx fs) ∧ Cls K C ∧ Con K C f v u ∧ fs.lookup f = none ∧ Q v H1
def sFld (K : PySem.W.Frag) (ta tv : TE) (f : Str) : TS := fun D σ H => tv σ H fun y H1 => ta σ H1 fun x H2 => ∃ a C dx fs, x = .ref a ∧ H2 a = some (.ins C dx fs) ∧ Cls K C ∧ NoAttr K C f ∧ fs.length < 1000 ∧
  D.nx σ (upd H2 a (.ins C dx (putF f y fs)))
def InOp (X : Cx) (op : Operator) (rd : V → V → Hp → VK → Prop) : Prop :=
  ∀ (pins : List (Addr × Obj)) (s : Shared) (σ : St) (H : Hp) (x y : V) (u v : Value) (Q : VK), Inv X pins σ H s → RelV x u → RelV y v → rd x y H Q → wpAny (model X.prog X.w) X.A (inplaceOp op u v) (EP X pins σ Q) X.xe s
def sFldAug (K : PySem.W.Frag) (ta tv : TE) (rd : V → V → Hp → VK → Prop) (f : Str) : TS := fun D σ H => ta σ H fun x H1 => ∃ a C dx fs v, x = .ref a ∧ H1 a = some (.ins C dx fs) ∧ Cls K C ∧ NoAttr K C f ∧ fs.lookup f = some v ∧
  tv σ H1 fun y H2 => rd v y H2 fun z H3 => ∃ dx' fs', H3 a = some (.ins C dx' fs') ∧ fs'.length < 1000 ∧ D.nx σ (upd H3 a (.ins C dx' (putF f z fs')))
section
variable {X : Cx} {o e value : Expr} {f : Str} {pos pos' tpos : Pos} {ta tv : TE}
def rAdd : V → V → Hp → VK → Prop := fun x y H Q => ∃ i j, x = .int i ∧ y = .int j ∧ Q (.int (i + j)) H
def rSub : V → V → Hp → VK → Prop := fun x y H Q => ∃ i j, x = .int i ∧ y = .int j ∧ Q (.int (i - j)) H
end
section
variable {X : Cx} {pins : List (Addr × Obj)} {σ : St} {H : Hp} {s : Shared} {A : Around} {E : Value → Shared → Prop} {Q : Value → Shared → Prop} {c : Value} {b : Bool}
inductive TyOf (K : PySem.W.Frag) (H : Hp) : V → Value → Prop where
  | non : TyOf K H .non (.type "NoneType")
  | bl (x : Bool) : TyOf K H (.bl x) (.type "bool")
  | int (i : Int) : TyOf K H (.int i) (.type "int")
  | str (x : Str) : TyOf K H (.str x) (.type "str")
  | flt (x : UInt64) : TyOf K H (.flt x) (.type "float")
  | lst {a : Addr} {xs : List V} (e : H a = some (.lst xs)) : TyOf K H (.ref a) (.type "list")
  | frz {a : Addr} {o : Obj} {xs : List V} (e : H a = some (.frz o (.lst xs))) : TyOf K H (.ref a) (.type "list")
  | tup {a : Addr} {xs : List V} (e : H a = some (.tup xs)) : TyOf K H (.ref a) (.type "tuple")
  | dK {a : Addr} {kvs : List (Key × V)} (e : H a = some (.dK kvs)) : TyOf K H (.ref a) (.type "dict")
  | dT {a : Addr} {kvs : List (List Key × V)} (e : H a = some (.dT kvs)) : TyOf K H (.ref a) (.type "dict")
  | ins {a C dx : Addr} {fs : List (Str × V)} (e : H a = some (.ins C dx fs)) (cl : Cls K C) (ha : PySem.W.findIn K (.ref C) "__class__" = some (some (.builtin "object.__class__")))
      (hn : PySem.W.specialIn K (.builtin "object.__class__") "__get__" = some (some (.builtin "getset_descriptor.__get__"))) (htk : PySem.W.takesIn K (.builtin "object.__class__") = some true)
      (hm : PySem.W.mroIn K C (.type "object") = some true) : TyOf K H (.ref a) (.ref C)
theorem isinst_ok {x : V} {u t : Value} (I : Inv X pins σ H s) (rx : RelV x u) (ty : TyOf X.K H x t) (e : PySem.W.kitOne X.K t c = some b) (h : ∀ tk, Q (.bool b) { s with toks := tk }) :
    wpAny (model X.prog X.w) A (call (.builtin "isinstance") [u, c]) Q E s := by
  cases ty with
  | non => cases (show u = Value.none from rx); exact PySem.W.kia_one PySem.W.kitx_none I.kIn True.intro e (fun z => nomatch z) h
  | bl y => cases (show u = Value.bool y from rx); exact PySem.W.kia_one PySem.W.kitx_bool I.kIn True.intro e (fun z => nomatch z) h
  | int i => obtain ⟨t, q⟩ := (show ∃ t, u = Value.int i t from rx); cases q; exact PySem.W.kia_one PySem.W.kitx_int I.kIn True.intro e (fun z => nomatch z) h
  | str y => obtain ⟨t, q⟩ := (show ∃ t, u = Value.str y t from rx); cases q; exact PySem.W.kia_one PySem.W.kitx_str I.kIn True.intro e (fun z => nomatch z) h
  | flt y => obtain ⟨t, q⟩ := (show ∃ t, u = Value.float y t from rx); cases q; exact PySem.W.kia_one PySem.W.kitx_float I.kIn True.intro e (fun z => nomatch z) h
  | @lst a xs ea =>
    cases (show u = Value.ref a from rx)
    obtain ⟨_, _, n, _, h1⟩ := (show ObjOk X.prog X.w H s.heap a (.lst xs) from I.hok a _ ea)
    exact PySem.W.kia_one PySem.W.kitx_list I.kIn ⟨_, h1, rfl⟩ e (fun z => nomatch z) h
  | @frz a ob xs ea =>
    cases (show u = Value.ref a from rx)
    obtain ⟨_, _, _, n, _, h1⟩ := (show ObjOk X.prog X.w H s.heap a (.frz ob (.lst xs)) from I.hok a _ ea)
    exact PySem.W.kia_one PySem.W.kitx_list I.kIn ⟨_, h1, rfl⟩ e (fun z => nomatch z) h
  | @tup a xs ea =>
    cases (show u = Value.ref a from rx)
    obtain ⟨_, _, _, p⟩ := (show ObjOk X.prog X.w H s.heap a (.tup xs) from I.hok a _ ea)
    obtain ⟨o, h1, h2, _⟩ := p
    exact PySem.W.kia_one PySem.W.kitx_tuple I.kIn ⟨o, h1, h2⟩ e (fun z => nomatch z) h
  | @dK a kvs ea =>
    cases (show u = Value.ref a from rx)
    obtain ⟨_, _, vs, _, p⟩ := (show ObjOk X.prog X.w H s.heap a (.dK kvs) from I.hok a _ ea)
    obtain ⟨o, es, ep, h1, h2, _⟩ := p
    exact PySem.W.kia_one PySem.W.kitx_dict I.kIn ⟨o, h1, h2.1⟩ e (fun z => nomatch z) h
  | @dT a kvs ea =>
    cases (show u = Value.ref a from rx)
    obtain ⟨_, _, xs, _, o, es, ep, h1, h2, _⟩ := (show ObjOk X.prog X.w H s.heap a (.dT kvs) from I.hok a _ ea)
    exact PySem.W.kia_one PySem.W.kitx_dict I.kIn ⟨o, h1, h2.1⟩ e (fun z => nomatch z) h
  | @ins a C dx fs ea cl ha hn htk hm =>
    cases (show u = Value.ref a from rx)
    obtain ⟨mA, O, _⟩ := ins_get I.hok ea
    obtain ⟨od, J, _⟩ := O.look
    exact PySem.W.kia_one (PySem.W.kitx_own (cl.get _) cl.hd ha hn htk hm) I.kIn J e (fun z => nomatch z) h
end
end L2
namespace L2
open PySem PySem.Spec PyProof.Rows
structure Room (k : Nat) (A : Around) : Prop where
  hd : A.handled = none
  dp : A.depth + 3 * k + 5 < recursionLimit
  un : A.units + 16 * k + 200 < cLine
theorem Room.mono {j k : Nat} {A : Around} (r : Room k A) (h : j ≤ k) : Room j A := ⟨r.hd, by have := r.dp; omega, by have := r.un; omega⟩
theorem Room.deeper {k : Nat} {A : Around} (r : Room (k + 1) A) (env : Env) : Room k (A.deeper env) :=
  ⟨r.hd, by have := r.dp; show A.depth + 1 + 3 * k + 5 < _; omega, by have := r.un; show A.units + 3 + 16 * k + 200 < _; omega⟩
theorem Room.in1 {k : Nat} {A : Around} (r : Room (k + 1) A) : Room k A.in1 :=
  ⟨r.hd, by have := r.dp; show A.depth + 3 * k + 5 < _; omega, by have := r.un; show A.units + 1 + 16 * k + 200 < _; omega⟩
theorem make_depth {A : Around} {C : Addr} {us : List Value} {kw : List (Str × Value)} : (A.under (.builtin "type.__call__" ⟨.ref C :: us, kw⟩)).depth = A.depth + 1 := by
  first | rfl | simp [Around.under, Code.weight, Code.isCreation, Code.isGuard, Code.isCaller, Code.frames, Code.isFrame, guardIds]
theorem make_units {A : Around} {C : Addr} {us : List Value} {kw : List (Str × Value)} : (A.under (.builtin "type.__call__" ⟨.ref C :: us, kw⟩)).units = A.units + 1 := by
  first | rfl | simp [Around.under, Code.cUnits, Code.frames, Code.isFrame]
theorem Room.make {k : Nat} {A : Around} (r : Room (k + 1) A) (C : Addr) (us : List Value) (kw : List (Str × Value)) : Room k (A.under (.builtin "type.__call__" ⟨.ref C :: us, kw⟩)) :=
  ⟨r.hd, by have := r.dp; rw [make_depth]; omega, by have := r.un; rw [make_units]; omega⟩
theorem Room.depth {k : Nat} {A : Around} (r : Room k A) : A.depth < recursionLimit := by have := r.dp; omega
theorem Room.units {k : Nat} {A : Around} (r : Room k A) : A.units + 64 < cLine := by have := r.un; omega
def tNil : TA := fun _ H Q => Q [] H
def tCons (ta : TE) (tr : TA) : TA := fun σ H Q => ta σ H fun x H1 => tr σ H1 fun xs H2 => Q (x :: xs) H2
section
variable {X : Cx} {e : Expr} {es : List Expr} {te : TE} {t : TA} {pos : Pos}
theorem pa_nil : PA X [] tNil := fun _ _ _ _ H Q I h => Calls.spliced_nil ⟨[], H, I, .nil, h⟩
theorem pa_cons (ha : PE X e te) (hr : PA X es t) (hs : starEach (e :: es) X.env = (false, eval e X.env) :: starEach es X.env := by rfl) : PA X (e :: es) (tCons te t) := by
  intro pos pins s σ H Q I h
  rw [hs]
  show wpAny _ _ (spliced ((false, eval e X.env) :: backTo pos (starEach es X.env))) _ _ s
  refine Calls.spliced_cons (thn (ha pins s σ H _ I h) fun u s1 ⟨x, H1, I1, r1, q1⟩ => ?_)
  exact thn (hr pos pins s1 σ H1 _ I1 q1) fun us s2 ⟨xs, H2, I2, r2, q2⟩ => ⟨x :: xs, H2, I2, .cons r1 r2, q2⟩
def tTup (t : TA) : TE := fun σ H Q => t σ H fun xs H1 => xs.length ≤ sizeLine ∧ ∀ p, H1 p = none → Q (.ref p) (upd H1 p (.tup xs))
def tLst (t : TA) : TE := fun σ H Q => t σ H fun xs H1 => xs.length ≤ sizeLine ∧ ∀ p, H1 p = none → Q (.ref p) (upd H1 p (.lst xs))
theorem pe_tup {x1} (h : PA X es t) : PE X (.Tuple es x1 pos) (tTup t) := by
  intro pins s σ H Q I hq
  refine wpAny_Tuple_spliced (thn (h pos pins s σ H _ I hq) fun us s1 ⟨xs, H1, I1, r, z, q⟩ => ⟨by rw [← r.length]; exact z, ?_⟩)
  have hf : H1 s1.heap.objs.size = none := I1.hok.fresh (Nat.le_refl _)
  refine ⟨.ref s1.heap.objs.size, upd H1 s1.heap.objs.size (.tup xs), I1.laid (t' := s1.toks) (fun b u e => Heap.get?_push_of_some _ e) (Nat.le_refl _) ?_, rfl, q _ hf⟩
  exact ⟨z, us, r, ⟨_, Heap.get?_push_size _ rfl, rfl, _, rfl⟩⟩
theorem pe_lst (h : PA X es t) : PE X (.List es pos) (tLst t) := by
  intro pins s σ H Q I hq
  refine wpAny_List_spliced (thn (h pos pins s σ H _ I hq) fun us s1 ⟨xs, H1, I1, r, z, q⟩ => ⟨by rw [← r.length]; exact z, ?_⟩)
  have hf : H1 s1.heap.objs.size = none := I1.hok.fresh (Nat.le_refl _)
  refine ⟨.ref s1.heap.objs.size, upd H1 s1.heap.objs.size (.lst xs), I1.laid (t' := s1.toks) (fun b u e => Heap.get?_push_of_some _ e) (Nat.le_refl _) ?_, rfl, q _ hf⟩
  exact ⟨z, us, 0, r, Heap.get?_push_size _ rfl⟩
end
abbrev Sp := List V → Hp → VK → XK → Prop
abbrev CXT := List Env → Hp → Shared → XK → Value → Shared → Prop
structure Env0 (P : Program) (w : World) (K : PySem.W.Frag) (mg : Str → Option Value) (base : Heap) (A : Around) (outer : List Env) (s : Shared) (H : Hp) : Prop where
  frames : A.frames = some outer
  mod : Mod K mg base
  bs : ∀ b o, base.get? b = some o → s.heap.get? b = some o ∧ H b = none
  bsz : base.objs.size ≤ s.heap.objs.size
  funs : s.heap.FunFrames base outer
  frf : ∀ b ∈ frs outer, H b = none
  hok : HOk P w H s.heap
  bare : AllBare s.gens
def CE (outer : List Env) (P : Program) (w : World) (H : Hp) (s : Shared) (Q : VK) (u : Value) (s' : Shared) : Prop :=
  ∃ v H', s'.os = s.os ∧ AllBare s'.gens ∧ Un (frs outer) [] H H' s.heap s'.heap ∧ HOk P w H' s'.heap ∧ RelV v u ∧ Q v H'
def CR (CX : CXT) (outer : List Env) (P : Program) (w : World) (H : Hp) (s : Shared) (Q : VK) (E : XK) (r : Result) (s' : Shared) : Prop :=
  match r with
  | .ok (.ret u) => CE outer P w H s Q u s'
  | .ok _ => False
  | .error e => CX outer H s E e s'
structure FnOk (P : Program) (w : World) (K : PySem.W.Frag) (mg : Str → Option Value) (base : Heap) (CX : CXT) (k : Nat) (f : Addr) (fd : FuncData) (ps : List Str) (sp : Sp) : Prop where
  len : ∀ vs H Q E, sp vs H Q E → vs.length = ps.length
  run : ∀ (A : Around) (outer : List Env) (s : Shared) (H : Hp) (args : Args) (us : List Value) (vs : List V) (Q : VK) (E : XK), Room k A → Env0 P w K mg base A outer s H → BindsTo s fd args (ps.zip us) → Vals vs us → sp vs H Q E →
    codeAny (model P w) A (.call (.ref f) args) (CR CX outer P w H s Q E) s
theorem FnOk.mono {P : Program} {w : World} {K : PySem.W.Frag} {mg : Str → Option Value} {base : Heap} {CX : CXT} {j k : Nat} {f : Addr} {fd : FuncData} {ps : List Str} {sp : Sp} (F : FnOk P w K mg base CX j f fd ps sp) (h : j ≤ k) :
    FnOk P w K mg base CX k f fd ps sp := ⟨F.len, fun A outer s H args us vs Q E hr => F.run A outer s H args us vs Q E (hr.mono h)⟩
theorem FnOk.imp {P : Program} {w : World} {K : PySem.W.Frag} {mg : Str → Option Value} {base : Heap} {CX : CXT} {k : Nat} {f : Addr} {fd : FuncData} {ps : List Str} {sp sp' : Sp} (F : FnOk P w K mg base CX k f fd ps sp)
    (h : ∀ vs H Q E, sp' vs H Q E → sp vs H Q E) : FnOk P w K mg base CX k f fd ps sp' :=
  ⟨fun vs H Q E q => F.len vs H Q E (h _ _ _ _ q), fun A outer s H args us vs Q E hr he hb hv hs => F.run A outer s H args us vs Q E hr he hb hv (h _ _ _ _ hs)⟩
theorem Env0.make {P : Program} {w : World} {K : PySem.W.Frag} {mg : Str → Option Value} {base : Heap} {A : Around} {outer : List Env} {s : Shared} {H : Hp} (e : Env0 P w K mg base A outer s H) (C : Addr) (us : List Value) (kw : List (Str × Value)) :
    Env0 P w K mg base (A.under (.builtin "type.__call__" ⟨.ref C :: us, kw⟩)) outer s H := ⟨by first | exact e.frames | (simpa [Around.under, Code.envs, Code.isFrame, pushEnvs] using e.frames), e.mod, e.bs, e.bsz, e.funs, e.frf, e.hok, e.bare⟩
theorem Env0.in1 {P : Program} {w : World} {K : PySem.W.Frag} {mg : Str → Option Value} {base : Heap} {A : Around} {outer : List Env} {s : Shared} {H : Hp} (e : Env0 P w K mg base A outer s H) :
    Env0 P w K mg base A.in1 outer s H := ⟨e.frames, e.mod, e.bs, e.bsz, e.funs, e.frf, e.hok, e.bare⟩
section
variable {X : Cx} {pins : List (Addr × Obj)} {σ : St} {H : Hp} {s s' : Shared}
theorem Inv.env0 (I : Inv X pins σ H s) : Env0 X.prog X.w X.K X.mg X.base X.A X.stack s H :=
  ⟨I.ok.frames, I.ok.mod, I.bs, Nat.le_trans I.ok.bsz I.sz, I.stack, I.stkFree, I.hok, I.bare⟩
theorem Inv.after {Q : VK} {u : Value} (I : Inv X pins σ H s) (h : CE X.stack X.prog X.w H s Q u s') : EP X pins σ Q u s' := by
  obtain ⟨v, H', os, bare, un, hok, r, q⟩ := h
  obtain ⟨hh, g, d, t, os'⟩ := s'
  obtain rfl : os' = s.os := os
  exact ⟨v, H', I.call (h' := hh) (g' := g) (d' := d) (t' := t) (ch := []) un hok bare (fun b z => absurd z (by simp)), r, q⟩
end
def tCall (sp : Sp) (dvs : List V) (E : XK) (t : TA) : TE := fun σ H Q => t σ H fun vs H1 => sp (vs ++ dvs) H1 Q E
def tMeth (C : Addr) (m : Str) (sp : Sp) (dvs : List V) (E : XK) (ta : TE) (t : TA) : TE := fun σ H Q => ta σ H fun x H1 => ∃ a dx fs, x = .ref a ∧ H1 a = some (.ins C dx fs) ∧ fs.lookup m = none ∧
  t σ H1 fun vs H2 => sp (x :: (vs ++ dvs)) H2 Q E
def tMake (C : Addr) (sp : Sp) (dvs : List V) (E : XK) (t : TA) : TE := fun σ H Q => t σ H fun vs H1 => ∀ x dx, H1 x = none → H1 dx = none → dx ≠ x →
  sp (.ref x :: (vs ++ dvs)) (upd (upd H1 dx (.own x)) x (.ins C dx [])) (fun v H2 => v = .non ∧ Q (.ref x) H2) E
def Binds (K : PySem.W.Frag) (fd : FuncData) (ps : List Str) (ds : List Value) : Prop :=
  ∀ (s : Shared) (us : List Value), K.In s.heap → (us ++ ds).length = ps.length → BindsTo s fd ⟨us, []⟩ (ps.zip (us ++ ds))
theorem Binds.all {K : PySem.W.Frag} {fd : FuncData} {ps : List Str} (h : ∀ us : List Value, us.length = ps.length → bindArgs fd ⟨us, []⟩ = pure (ps.zip us)) : Binds K fd ps [] := fun s us _ hl => by
  rw [List.append_nil] at hl ⊢
  exact .of_eq (h us hl)
def Passes (CX : CXT) (X : Cx) (E : XK) : Prop := ∀ (pins : List (Addr × Obj)) (σ : St) (H : Hp) (s : Shared) (e : Value) (s' : Shared), Inv X pins σ H s → CX X.stack H s E e s' → X.xe e s'
section
variable {X : Cx} {CX : CXT} {k : Nat} {f C : Addr} {fd : FuncData} {ps : List Str} {sp : Sp} {dvs : List V} {ds : List Value} {E : XK} {x m : Str} {p pos apos : Pos} {e o : Expr} {es : List Expr} {ta : TE} {t : TA}
theorem run_fn {pins : List (Addr × Obj)} {σ : St} {H : Hp} {s : Shared} {Q : VK} {us : List Value} {vs : List V} (F : FnOk X.prog X.w X.K X.mg X.base CX k f fd ps sp) (hr : Room k X.A) (hb : Binds X.K fd ps ds) (hd : Vals dvs ds) (hx : Passes CX X E)
    (I : Inv X pins σ H s) (r : Vals vs us) (h : sp (vs ++ dvs) H Q E) : wpAny (model X.prog X.w) X.A (call (.ref f) us) (EP X pins σ Q) X.xe s := by
  have r2 : Vals (vs ++ dvs) (us ++ ds) := r.append hd
  have hl : (us ++ ds).length = ps.length := by rw [← r2.length]; exact F.len _ _ _ _ h
  refine wpAny_call (codeAny_mono (F.run X.A X.stack s H ⟨us, []⟩ (us ++ ds) (vs ++ dvs) Q E hr I.env0 (hb s us I.kIn hl) r2 h) fun r s' hq => ?_)
  cases r with
  | error e => exact hx pins σ H s e s' I hq
  | ok fl =>
    cases fl with
    | ret u => exact I.after hq
    | next => exact False.elim hq
    | brk => exact False.elim hq
    | cont => exact False.elim hq
theorem pe_call (F : FnOk X.prog X.w X.K X.mg X.base CX k f fd ps sp) (hr : Room k X.A) (hg : Gl X x) (hm : X.mg x = some (.ref f)) (hk : PySem.W.keepIn X.K (.ref f) = true) (hb : Binds X.K fd ps ds) (hd : Vals dvs ds) (hx : Passes CX X E)
    (ha : PA X (e :: es) t) (hdb : (x == ("__debug__" : Str)) = false := by decide) (he : starEach (e :: es) X.env = (false, eval e X.env) :: starEach es X.env := by rfl) (hpl : (backTo pos (starEach es X.env)).any (·.1) = false := by rfl) :
    PE X (.Call (.Name x p) (e :: es) [] pos) (tCall sp dvs E t) := by
  intro pins s σ H Q I h
  refine wpAny_Call_Name_kw (ld_glob I hg hm ?_ hdb)
  refine PySem.W.callWith_K (h₀ := X.base) I.ok.mod.kin hk (thn (ha pos pins s σ H _ I h) fun us s1 ⟨vs, H1, I1, r, q⟩ => ⟨I1.kIn, ?_⟩) he hpl
  exact run_fn F hr hb hd hx I1 r q
structure Mk (K : PySem.W.Frag) (C f : Addr) : Prop where
  makes : PySem.W.makesIn K C = true
  init : PySem.W.findIn K (.ref C) "__init__" = some (some (.ref f))
  fn : PySem.W.isFn K (.ref f) = true
  kp : PySem.W.keepIn K (.ref C) = true
end
def PK (X : Cx) (kws : List Keyword) (t : TA) : Prop :=
  ∀ (pos : Pos) (pins : List (Addr × Obj)) (s : Shared) (σ : St) (H : Hp) (Q : List V → Hp → Prop), Inv X pins σ H s → t σ H Q → wpAny (model X.prog X.w) X.A (evalAll ((backToKw pos (keywordEach kws X.env)).map (·.2))) (AP X pins σ Q) X.xe s
section
variable {X : Cx} {CX : CXT} {k : Nat} {f C : Addr} {fd : FuncData} {ps ks : List Str} {sp : Sp} {E : XK} {x m : Str} {p pos apos kpos : Pos} {e o : Expr} {es : List Expr} {kws : List Keyword} {te ta : TE} {t tk : TA} {nm : Option Str}
structure KBinds (K : PySem.W.Frag) (fd : FuncData) (ps ks : List Str) (g : List Value → List Value → List Value) (gV : List V → List V → List V) : Prop where
  to : ∀ (s : Shared) (us ws : List Value), K.In s.heap → (g us ws).length = ps.length → BindsTo s fd ⟨us, ks.zip ws⟩ (ps.zip (g us ws))
  rel : ∀ {vs : List V} {us : List Value} {zs : List V} {ws : List Value}, Vals vs us → Vals zs ws → Vals (gV vs zs) (g us ws)
def tCallK (sp : Sp) (gV : List V → List V → List V) (E : XK) (t tk : TA) : TE := fun σ H Q => t σ H fun vs H1 => tk σ H1 fun zs H2 => sp (gV vs zs) H2 Q E
variable {g : List Value → List Value → List Value} {gV : List V → List V → List V}
end
structure FnScope (N P : List Str) (sc : Scope) : Prop where
  kind : sc.kind = .function
  co : sc.isCoroutine = false
  gen : sc.isGenerator = false
  nd : N.Nodup
  pre : N.take P.length = P
  par : ∀ x ∈ P, sc.names.lookup x = some .local ∨ sc.names.lookup x = some .cell
  nofree : ∀ y ∈ sc.names, y.2 ≠ .free
theorem bindL_out {kindOf : Str → Option NameKind} {x : Str} : ∀ {binds : List (Str × Value)} {m : Str → Option Value}, (∀ v, (x, v) ∉ binds) → bindL kindOf binds m x = m x
  | [], _, _ => rfl
  | (n, v) :: r, m, h => by
    unfold bindL
    rw [bindL_out fun w hw => h w (List.mem_cons_of_mem _ hw)]
    split
    · have : x ≠ n := by rintro rfl; exact h v List.mem_cons_self
      simp [this]
    · rfl
theorem bindC_out {kindOf : Str → Option NameKind} {x : Str} : ∀ {binds : List (Str × Value)} {m : Str → Option Value}, (∀ v, (x, v) ∉ binds) → bindC kindOf binds m x = m x
  | [], _, _ => rfl
  | (n, v) :: r, m, h => by
    unfold bindC
    rw [bindC_out fun w hw => h w (List.mem_cons_of_mem _ hw)]
    split
    · rfl
    · have : x ≠ n := by rintro rfl; exact h v List.mem_cons_self
      simp [this]
theorem bindL_get {kindOf : Str → Option NameKind} {x : Str} {v : Value} : ∀ {P : List Str} {vs : List Value} {i : Nat} {m : Str → Option Value}, P.Nodup → P[i]? = some x → vs[i]? = some v → kindOf x = some .local →
    bindL kindOf (P.zip vs) m x = some v
  | [], _, _, _, _, h, _, _ => by simp at h
  | _ :: _, [], _, _, _, _, h, _ => by simp at h
  | p :: P, w :: vs, 0, m, nd, h1, h2, hk => by
    simp at h1 h2; subst h1; subst h2
    show bindL kindOf ((p, w) :: P.zip vs) m p = _
    unfold bindL
    rw [bindL_out fun v hv => (List.nodup_cons.mp nd).1 (List.of_mem_zip hv).1, if_pos hk]
    simp
  | p :: P, w :: vs, i + 1, m, nd, h1, h2, hk => by
    show bindL kindOf ((p, w) :: P.zip vs) m x = _
    unfold bindL
    exact bindL_get (i := i) (List.nodup_cons.mp nd).2 (by simpa using h1) (by simpa using h2) hk
theorem bindC_get {kindOf : Str → Option NameKind} {x : Str} {v : Value} : ∀ {P : List Str} {vs : List Value} {i : Nat} {m : Str → Option Value}, P.Nodup → P[i]? = some x → vs[i]? = some v → kindOf x ≠ some .local →
    bindC kindOf (P.zip vs) m x = some v
  | [], _, _, _, _, h, _, _ => by simp at h
  | _ :: _, [], _, _, _, _, h, _ => by simp at h
  | p :: P, w :: vs, 0, m, nd, h1, h2, hk => by
    simp at h1 h2; subst h1; subst h2
    show bindC kindOf ((p, w) :: P.zip vs) m p = _
    unfold bindC
    rw [bindC_out fun v hv => (List.nodup_cons.mp nd).1 (List.of_mem_zip hv).1, if_neg hk]
    simp
  | p :: P, w :: vs, i + 1, m, nd, h1, h2, hk => by
    show bindC kindOf ((p, w) :: P.zip vs) m x = _
    unfold bindC
    exact bindC_get (i := i) (List.nodup_cons.mp nd).2 (by simpa using h1) (by simpa using h2) hk
def start (N : List Str) (vs : List V) : St := vs.map some ++ List.replicate (N.length - vs.length) none
def cxOf (CX : CXT) (P : Program) (w : World) (K : PySem.W.Frag) (mg : Str → Option Value) (base : Heap) (N : List Str) (qual : Str) (scope : Scope) (f : Addr) (cd : Value) (A : Around) (outer : List Env) (s : Shared) (H : Hp) (E : XK) : Cx where
  prog := P
  w := w
  K := K
  mg := mg
  base := base
  A := A.deeper (envOfC qual scope s.heap.objs.size f cd)
  N := N
  s₀ := s
  H₀ := H
  env := envOfC qual scope s.heap.objs.size f cd
  outer := outer
  stack := envOfC qual scope s.heap.objs.size f cd :: outer
  ex := []
  calm := true
  fn := fun _ => true
  pn := []
  xe := fun e s' => wpAny (model P w) (A.deeper (envOfC qual scope s.heap.objs.size f cd)) (leaving (envOfC qual scope s.heap.objs.size f cd) e) (fun _ s'' => CX outer H s E e s'') (fun e' s'' => CX outer H s E e' s'') s'
theorem cell_has {sc : Scope} {n : Nat} {x : Str} (h : sc.names.lookup x = some .cell) : ∃ c, (cellsFrom n sc.names []).lookup x = some c := by
  have q := PySem.W.cellsFrom_some sc.names n [] (.inl h)
  exact Option.isSome_iff_exists.mp q
theorem inv_start {CX : CXT} {P : Program} {w : World} {K : PySem.W.Frag} {mg : Str → Option Value} {base : Heap} {N ps : List Str} {qual : Str} {scope : Scope} {f : Addr} {cd : Value} {A : Around} {outer : List Env} {s s1 : Shared} {H : Hp} {E : XK} {us : List Value} {vs : List V}
    (S : FnScope N ps scope) (hd : A.handled = none) (e0 : Env0 P w K mg base A outer s H) (hl : vs.length = ps.length) (r : Vals vs us)
    (x : InCallC s s.heap.objs.size (bindL (envOfC qual scope s.heap.objs.size f cd).kindOf (ps.zip us) fun _ => none) (cellsFrom (s.heap.objs.size + 1) scope.names []) (bindC (envOfC qual scope s.heap.objs.size f cd).kindOf (ps.zip us) fun _ => none) s1) :
    Inv (cxOf CX P w K mg base N qual scope f cd A outer s H E) [] (start N vs) H s1 := by
  have hpl : ps.length ≤ N.length := by have := congrArg List.length S.pre; rw [List.length_take] at this; omega
  obtain ⟨h1, tk, rfl, hk⟩ := x.done
  have noA : ∀ b : Addr, b ∉ (cxOf CX P w K mg base N qual scope f cd A outer s H E).ex := fun b z => absurd (show b ∈ ([] : List Addr) from z) (by simp)
  refine ⟨⟨e0.mod, S.kind, rfl, rfl, Nat.le_refl _, fun y z c h1 h2 => ?_, fun y hy => ?_, fun y c _ h => ?_, fun _ => hd, Around.frames_deeper e0.frames, .inr ⟨rfl, rfl⟩, fun b z => absurd z (noA b), e0.bs, e0.bsz, fun b _ _ => noA b, fun b z => absurd z (noA b), e0.funs, e0.frf⟩,
    rfl, e0.bare, Un.kept hk, ⟨_, x.toInCall.ns, fun i y v h1 h2 h3 => ?_⟩, fun y c h => ⟨_, x.cell y c h⟩, e0.hok.fresh (Nat.le_refl _), fun y c h => ?_, fun p hp => absurd (show p ∈ ([] : List (Addr × Obj)) from hp) (by simp), e0.hok.kept hk, ?_⟩
  · exact name_of_addr x.apart (PySem.mem_of_lookup h1) (PySem.mem_of_lookup h2)
  · have hy : scope.names.lookup y = some .cell ∨ scope.names.lookup y = some .free := hy
    rcases hy with hy | hy
    · exact cell_has hy
    · exact absurd rfl (S.nofree _ (PySem.mem_of_lookup hy))
  · exact Nat.le_of_lt (x.above y c (PySem.mem_of_lookup h))
  · have hi : i < vs.length := by
      unfold start at h2
      by_cases hi : i < vs.length
      · exact hi
      · rw [List.getElem?_append_right (by simpa using hi)] at h2
        rw [List.getElem?_replicate] at h2
        split at h2 <;> cases h2
    have ha : vs[i]? = some v := by
      unfold start at h2
      rw [List.getElem?_append_left (by simpa using hi), List.getElem?_map] at h2
      cases e : vs[i]? with
      | none => rw [e] at h2; cases h2
      | some a => rw [e] at h2; cases h2; rfl
    obtain ⟨u, hu, rv⟩ := r.get ha
    have hp : ps[i]? = some y := by
      rw [← S.pre, List.getElem?_take_of_lt (by omega)]; exact h1
    have ndP : ps.Nodup := by rw [← S.pre]; exact S.nd.sublist (List.take_sublist _ _)
    refine ⟨u, rv, ?_⟩
    rcases S.par y (List.mem_of_getElem? hp) with k | k
    · exact .inl ⟨k, bindL_get ndP hp hu k⟩
    · obtain ⟨c, e⟩ := cell_has (n := s.heap.objs.size + 1) k
      refine .inr ⟨.inl k, c, e, ?_⟩
      have q := x.cell y c e
      rw [bindC_get ndP hp hu (by show scope.names.lookup y ≠ _; rw [k]; decide)] at q
      exact q
  · exact e0.hok.fresh (Nat.le_of_lt (x.above y c (PySem.mem_of_lookup h)))
  · unfold start
    show _ = N.length
    rw [List.length_append, List.length_map, List.length_replicate]
    omega
theorem fn_of {CX : CXT} {P : Program} {w : World} {K : PySem.W.Frag} {mg : Str → Option Value} {base : Heap} {k : Nat} {f : Addr} {name qual : Str} {params : Arguments} {body : List Stmt} {scope : Scope} {dV kV doc pm cdv ct oc : Value} {an od : Option Addr}
    {osl : Array (Option Value)} {N ps : List Str} {sp : Sp} (lk : K.lookup f = some ⟨oc, od, .func (PySem.W.fnOf name qual params body scope dV kV doc pm an cdv ct), osl⟩) (hcd : PySem.W.codeIn K cdv qual = true) (S : FnScope N ps scope)
    (len : ∀ vs H Q E, sp vs H Q E → vs.length = ps.length)
    (hbody : ∀ (A : Around) (outer : List Env) (s : Shared) (H : Hp) (vs : List V) (Q : VK) (E : XK), Room k (A.deeper (envOfC qual scope s.heap.objs.size f cdv)) → sp vs H Q E →
      ∃ t, PSs (cxOf CX P w K mg base N qual scope f cdv A outer s H E) body t ∧ t { nx := fun _ H' => Q .non H', rt := Q } (start N vs) H) :
    FnOk P w K mg base CX (k + 1) f (PySem.W.fnOf name qual params body scope dV kV doc pm an cdv ct) ps sp := by
  refine ⟨len, fun A outer s H args us vs Q E hr e0 hb r hsp => ?_⟩
  have hl := len _ _ _ _ hsp
  have KX : K.In s.heap := e0.mod.kin.keeps fun b o e => (e0.bs b o e).1
  have lim : s.heap.NoLimit := e0.mod.nolimit.keeps fun b o e => (e0.bs b o e).1
  have hkind : ∀ y ∈ ps.zip us, scope.names.lookup y.1 = some .local ∨ (scope.names.lookup y.1 = some .cell ∧ ((cellsFrom (s.heap.objs.size + 1) scope.names []).lookup y.1).isSome = true) := fun ⟨n, v⟩ hy => by
    rcases S.par n (List.of_mem_zip hy).1 with q | q
    · exact .inl q
    · exact .inr ⟨q, PySem.W.cellsFrom_some _ _ _ (.inl q)⟩
  refine codeAny_call_function hr.depth (KX _ _ lk) rfl S.co S.gen rfl (PySem.W.codeRec_of KX hcd) (hb _ _ _ _ ?_)
  refine wpAny_newFunctionEnv_cells S.kind hkind fun env he s1 x => ?_
  subst he
  refine ⟨lim.keeps x.toInCall.keep, codeAny_func ?_⟩
  obtain ⟨t, ht, hq⟩ := hbody A outer s H vs Q E (hr.deeper _) hsp
  have I : Inv (cxOf CX P w K mg base N qual scope f cdv A outer s H E) [] (start N vs) H s1 := inv_start S hr.hd e0 hl r x
  refine wpAny_mono (ht [] s1 (start N vs) H _ I hq) (fun fl s' hs => ?_) fun e s' hs => hs
  have fin : ∀ {σ' : St} {H' : Hp} {v : V} {u : Value}, Inv (cxOf CX P w K mg base N qual scope f cdv A outer s H E) [] σ' H' s' → RelV v u → Q v H' → CE outer P w H s Q u s' :=
    fun {σ' H' v u} J rv q => ⟨v, H', J.os, J.bare, J.base, J.hok, rv, q⟩
  cases fl with
  | ret u =>
    obtain ⟨v, σ', H', J, rv, q⟩ := hs
    exact fin J rv q
  | next =>
    obtain ⟨σ', H', J, q⟩ := hs
    exact fin (v := V.non) (u := Value.none) J rfl q
  | brk =>
    obtain ⟨_, _, _, q⟩ := hs
    exact False.elim q
  | cont =>
    obtain ⟨_, _, _, q⟩ := hs
    exact False.elim q
end L2
namespace L2
open PySem PySem.Spec PyProof.Rows
section
variable {X : Cx} {x : Str} {p pos : Pos} {e : Expr} {es : List Expr} {t : TA} {id T : String} {r : List V → Hp → VK → Prop}
def tCB (r : List V → Hp → VK → Prop) (t : TA) : TE := fun σ H Q => t σ H fun vs H1 => r vs H1 Q
theorem pe_callB (hc : CallR X (.builtin id) r) (hg : Gl X x) (hm : X.mg x = none) (hv : bootBuiltins x = some (.builtin id)) (ha : PA X (e :: es) t) (hn : x ≠ "__name__" := by decide) (hdb : (x == ("__debug__" : Str)) = false := by decide)
    (he : starEach (e :: es) X.env = (false, eval e X.env) :: starEach es X.env := by rfl) (hpl : (backTo pos (starEach es X.env)).any (·.1) = false := by rfl) : PE X (.Call (.Name x p) (e :: es) [] pos) (tCB r t) := by
  intro pins s σ H Q I h
  refine wpAny_Call_Name_kw (ld_blt I hg hm hv ?_ hn hdb)
  exact PyProof.Rows.callWith_builtin1 (thn (ha pos pins s σ H _ I h) fun us s1 ⟨vs, H1, I1, r1, q1⟩ => hc pins s1 σ H1 vs us Q I1 r1 q1) he hpl
theorem pe_callTy (hc : CallR X (.type T) r) (hg : Gl X x) (hm : X.mg x = none) (hv : bootBuiltins x = some (.type T)) (ha : PA X (e :: es) t) (hn : x ≠ "__name__" := by decide) (hdb : (x == ("__debug__" : Str)) = false := by decide)
    (he : starEach (e :: es) X.env = (false, eval e X.env) :: starEach es X.env := by rfl) (hpl : (backTo pos (starEach es X.env)).any (·.1) = false := by rfl) : PE X (.Call (.Name x p) (e :: es) [] pos) (tCB r t) := by
  intro pins s σ H Q I h
  refine wpAny_Call_Name_kw (ld_blt I hg hm hv ?_ hn hdb)
  exact PyProof.Rows.callWith_type1 (thn (ha pos pins s σ H _ I h) fun us s1 ⟨vs, H1, I1, r1, q1⟩ => hc pins s1 σ H1 vs us Q I1 r1 q1) he hpl
end
end L2
namespace HT
open PySem PyProof.Rows
def lexLt : List Int → List Int → Bool
  | [], [] => false
  | [], _ :: _ => true
  | _ :: _, [] => false
  | x :: xs, y :: ys => if x = y then lexLt xs ys else decide (x < y)
section
open PySem.SeqAt
open PySem.AutoSeq1 (wpAny_loadPart')
open PySem.MeetsSeq PySem.MeetsSeq2 PySem.MeetsSeq3
end
section
variable {prog : Program} {w : World} {A : Around} {E : Value → Shared → Prop} {s : Shared}
def sIx (n d : Nat) : Option Int → Nat
  | none => d
  | some v => if v < 0 then (v + (n : Int)).toNat else min v.toNat n
end
end HT
namespace L2
open PySem PySem.Spec PyProof.Rows
abbrev TO := St → Hp → (Option Int → Hp → Prop) → Prop
def PO (X : Cx) (e : Option Expr) (t : TO) : Prop :=
  ∀ (pins : List (Addr × Obj)) (s : Shared) (σ : St) (H : Hp) (Q : Option Int → Hp → Prop), Inv X pins σ H s → t σ H Q →
    wpAny (model X.prog X.w) X.A (evalPart e X.env) (fun u s' => ∃ o H', Inv X pins σ H' s' ∧ IsPart u o ∧ Q o H') X.xe s
def tNoPart : TO := fun _ H Q => Q none H
def tPart (t : TE) : TO := fun σ H Q => t σ H fun x H1 => ∃ i, x = .int i ∧ Q (some i) H1
section
variable {X : Cx} {e : Expr} {te : TE} {lo hi : Option Expr} {tl th : TO} {pos p2 : Pos}
theorem po_none : PO X none tNoPart := by
  intro pins s σ H Q I h
  rw [evalPart_none]
  exact wpAny_pure ⟨none, H, I, .none, h⟩
theorem po_some (h : PE X e te) : PO X (some e) (tPart te) := by
  intro pins s σ H Q I hw
  rw [evalPart_some]
  refine thn (h pins s σ H _ I hw) fun u s1 ⟨x, H1, I1, r1, q1⟩ => ?_
  obtain ⟨i, rfl, q⟩ := q1
  obtain ⟨t, rfl⟩ := r1
  exact ⟨some i, H1, I1, .int i t, q⟩
def SlR (X : Cx) (r : V → Option Int → Option Int → Hp → VK → Prop) : Prop :=
  ∀ (pins : List (Addr × Obj)) (s : Shared) (σ : St) (H : Hp) (x : V) (v vl vu : Value) (lo hi : Option Int) (sl : Addr) (Q : VK), Inv X pins σ H s → RelV x v → s.heap.IsSliceOf sl vl vu .none → IsPart vl lo → IsPart vu hi → r x lo hi H Q →
    ∃ T id, typeLookup (.type T) "__getitem__" = pure (some (.builtin id)) ∧ s.TypeIs v T ∧ wpAny (model X.prog X.w) X.A (getItem v (.ref sl)) (EP X pins σ Q) X.xe s
theorem SlR.or {r r' : V → Option Int → Option Int → Hp → VK → Prop} (h : SlR X r) (h' : SlR X r') : SlR X (fun x lo hi H Q => r x lo hi H Q ∨ r' x lo hi H Q) := by
  intro pins s σ H x v vl vu lo hi sl Q I rx hs pl pu q
  rcases q with q | q
  · exact h pins s σ H x v vl vu lo hi sl Q I rx hs pl pu q
  · exact h' pins s σ H x v vl vu lo hi sl Q I rx hs pl pu q
def tSl (r : V → Option Int → Option Int → Hp → VK → Prop) (te : TE) (tl th : TO) : TE := fun σ H Q => te σ H fun x H1 => tl σ H1 fun l H2 => th σ H2 fun u H3 => r x l u H3 Q
theorem pe_slice {r : V → Option Int → Option Int → Hp → VK → Prop} (hr : SlR X r) (he : PE X e te) (hl : PO X lo tl) (hu : PO X hi th) : PE X (.Subscript e (.Slice lo hi none p2) pos) (tSl r te tl th) := by
  intro pins s σ H Q I h
  refine Subscript_ (thn (he pins s σ H _ I h) fun v s1 ⟨x, H1, I1, r1, q1⟩ => ?_)
  refine wpAny_Slice (thn (hl pins s1 σ H1 _ I1 q1) fun vl s2 ⟨l, H2, I2, pl, q2⟩ => thn (hu pins s2 σ H2 _ I2 q2) fun vu s3 ⟨u, H3, I3, pu, q3⟩ => ?_)
  rw [evalPart_none]
  refine wpAny_pure ?_
  have I4 : Inv X pins σ H3 { s3 with heap := s3.heap.push { cls := .type "slice", data := .fields #[vl, vu, .none] } } := I3.kept (t' := s3.toks) fun b ob q => Heap.get?_push_of_some _ q
  obtain ⟨T, id, hT, ht, hg⟩ := hr pins { s3 with heap := s3.heap.push { cls := .type "slice", data := .fields #[vl, vu, .none] } } σ H3 x v vl vu l u s3.heap.objs.size Q I4 r1 (Heap.IsSliceOf.new ..) pl pu q3
  show wpAny (model X.prog X.w) X.A (subscriptTail e (.Slice lo hi none p2) v (.ref s3.heap.objs.size)) (EP X pins σ Q) X.xe { s3 with heap := s3.heap.push { cls := .type "slice", data := .fields #[vl, vu, .none] } }
  exact tail_any (ops := [.ref s3.heap.objs.size, v]) ht hT hg (by with_unfolding_all rfl)
def cutV (xs : List V) (lo hi : Option Int) : List V := (xs.drop (HT.sIx xs.length 0 lo)).take (HT.sIx xs.length xs.length hi - HT.sIx xs.length 0 lo)
theorem cutV_length (xs : List V) (lo hi : Option Int) : (cutV xs lo hi).length ≤ xs.length := by
  unfold cutV
  rw [List.length_take, List.length_drop]
  omega
def rSlT (K : PySem.W.Frag) : V → Option Int → Option Int → Hp → VK → Prop := fun x lo hi H Q => ∃ a xs, x = .ref a ∧ SqT K H a xs ∧
  ¬ (HT.sIx xs.length 0 lo = 0 ∧ HT.sIx xs.length xs.length hi = xs.length) ∧ ∀ p, H p = none → Q (.ref p) (upd H p (.tup (cutV xs lo hi)))
def rLtT (K : PySem.W.Frag) : R2 := fun x y H Q => ∃ a b ns ms, x = .ref a ∧ y = .ref b ∧ SqT K H a (ns.map V.int) ∧ SqT K H b (ms.map V.int) ∧ Q (.bl (HT.lexLt ns ms)) H
def rCatT (K : PySem.W.Frag) : R2 := fun x y H Q => ∃ a b xs ys, x = .ref a ∧ y = .ref b ∧ SqT K H a xs ∧ SqT K H b ys ∧ xs ≠ [] ∧ xs.length + ys.length ≤ sizeLine ∧
  (ys = [] → Q (.ref a) H) ∧ (ys ≠ [] → ∀ p, H p = none → Q (.ref p) (upd H p (.tup (xs ++ ys))))
end
end L2
namespace L2
open PySem PySem.Spec PyProof.Rows
def ixN (n : Nat) (i : Int) : Option Nat := if 0 ≤ i then (if i < n then some i.toNat else none) else if -(n : Int) ≤ i then some (i + n).toNat else none
def atI {α : Type} (xs : List α) (i : Int) : Option α := (ixN xs.length i).bind fun j => xs[j]?
theorem ixN_seq {n : Nat} {i : Int} {j : Nat} (h : ixN n i = some j) : seqIndex? i n = some j ∧ j < n ∧ -(n : Int) ≤ i ∧ i < n := by
  unfold ixN at h
  by_cases h0 : 0 ≤ i
  · rw [if_pos h0] at h
    by_cases h1 : i < n
    · rw [if_pos h1] at h
      have e : i.toNat = j := Option.some.inj h
      exact ⟨by rw [seqIndex_of h0 h1, e], by omega, by omega, h1⟩
    · rw [if_neg h1] at h; cases h
  · rw [if_neg h0] at h
    by_cases h1 : -(n : Int) ≤ i
    · rw [if_pos h1] at h
      have e : (i + n).toNat = j := Option.some.inj h
      exact ⟨by rw [seqIndex_neg (by omega) h1, e], by omega, h1, by omega⟩
    · rw [if_neg h1] at h; cases h
theorem atI_get {α : Type} {xs : List α} {i : Int} {v : α} (h : atI xs i = some v) : ∃ j, seqIndex? i xs.length = some j ∧ xs[j]? = some v ∧ j < xs.length ∧ -(xs.length : Int) ≤ i ∧ i < xs.length := by
  unfold atI at h
  cases e : ixN xs.length i with
  | none => rw [e] at h; cases h
  | some j =>
    rw [e] at h
    obtain ⟨h1, h2, h3, h4⟩ := ixN_seq e
    exact ⟨j, h1, h, h2, h3, h4⟩
theorem atI_nat {α : Type} {xs : List α} {j : Nat} {v : α} (h : xs[j]? = some v) : atI xs (j : Int) = some v := by
  have hj : j < xs.length := (List.getElem?_eq_some_iff.mp h).1
  have e : ixN xs.length (j : Int) = some j := by
    unfold ixN
    rw [if_pos (by omega), if_pos (by omega)]; simp
  unfold atI; rw [e]; exact h
def PlainIx (b : Expr) : Prop := ∀ o i, subscripted b false o i = operate [o, i] (getItem o i)
def IxR (X : Cx) (r : R2) : Prop :=
  ∀ (value slice : Expr) (pins : List (Addr × Obj)) (s : Shared) (σ : St) (H : Hp) (x y : V) (v u : Value) (Q : VK), Inv X pins σ H s → RelV x v → RelV y u → r x y H Q →
    subscripted slice false v u = operate [v, u] (getItem v u) → wpAny (model X.prog X.w) X.A (subscriptTail value slice v u) (EP X pins σ Q) X.xe s
def MtR (X : Cx) (id : String) (r : V → List V → Hp → VK → Prop) : Prop :=
  ∀ (pins : List (Addr × Obj)) (s : Shared) (σ : St) (H : Hp) (x : V) (xs : List V) (v : Value) (us : List Value) (Q : VK), Inv X pins σ H s → RelV x v → Vals xs us → r x xs H Q →
    wpAny (model X.prog X.w) X.A (call (.builtin id) (v :: us)) (EP X pins σ Q) X.xe s
section
variable {X : Cx} {a b : Expr} {ta tb : TE} {pos : Pos}
theorem IxR.or {r r' : R2} (h : IxR X r) (h' : IxR X r') : IxR X (fun x y H Q => r x y H Q ∨ r' x y H Q) := by
  intro value slice pins s σ H x y v u Q I rx ry q hs
  rcases q with q | q
  · exact h value slice pins s σ H x y v u Q I rx ry q hs
  · exact h' value slice pins s σ H x y v u Q I rx ry q hs
theorem MtR.or {id : String} {r r' : V → List V → Hp → VK → Prop} (h : MtR X id r) (h' : MtR X id r') : MtR X id (fun x xs H Q => r x xs H Q ∨ r' x xs H Q) := by
  intro pins s σ H x xs v us Q I rx rs q
  rcases q with q | q
  · exact h pins s σ H x xs v us Q I rx rs q
  · exact h' pins s σ H x xs v us Q I rx rs q
theorem pe_ix {r : R2} (hr : IxR X r) (ha : PE X a ta) (hb : PE X b tb) (hs : PlainIx b) : PE X (.Subscript a b pos) (tOp r ta tb) := by
  intro pins s σ H Q I h
  exact Subscript_ (binT ha hb I h fun v u s2 x y H2 I2 rx ry q => hr a b pins s2 σ H2 x y v u Q I2 rx ry q (hs _ _))
def rIxL (K : PySem.W.Frag) : R2 := fun x y H Q => ∃ p xs i v, x = .ref p ∧ y = .int i ∧ SqL K H p xs ∧ atI xs i = some v ∧ Q v H
def rIxT (K : PySem.W.Frag) : R2 := fun x y H Q => ∃ p xs i v, x = .ref p ∧ y = .int i ∧ SqT K H p xs ∧ atI xs i = some v ∧ Q v H
def rIxS : R2 := fun x y H Q => ∃ z i c, x = .str z ∧ y = .int i ∧ z.length ≤ sizeLine ∧ atI z.cps.toList i = some c ∧ Q (.str ⟨#[c]⟩) H
theorem ix_list : IxR X (rIxL X.K) := by
  intro value slice pins s σ H x y v u Q I rx ry h hs
  obtain ⟨p, xs, i, z, rfl, rfl, hq, he, q⟩ := h
  cases rx
  obtain ⟨t, rfl⟩ := ry
  obtain ⟨its, r, pl, hz⟩ := I.list hq
  obtain ⟨j, h1, h2, h3, h4, h5⟩ := atI_get he
  obtain ⟨w, ew, rw'⟩ := r.get h2
  have hl := r.length
  have hn := line63
  have fin : EP X pins σ Q w s := ⟨z, H, I, rw', q⟩
  by_cases h0 : 0 ≤ i
  · have hj : i.toNat = j := by
      rw [seqIndex_of h0 h5] at h1
      exact Option.some.inj h1
    exact item_listR pl.isList h0 (by omega) (by rw [hj]; simpa using ew) fin hs
  · have hj : (i + (its.toArray.size : Int)).toNat = j := by
      rw [seqIndex_neg (by omega) h4] at h1
      rw [List.size_toArray, ← hl]
      exact Option.some.inj h1
    exact subscriptTail_builtinR (x := w) pl.isList.typeIs slot_list_getitem.lookup
      (wpAny_getItem_list_neg (Q := fun r s' => r = w ∧ EP X pins σ Q r s') pl.isList (by omega) (by rw [List.size_toArray] <;> omega) (by omega) (by rw [hj]; simpa using ew) ⟨rfl, fin⟩) hs
theorem ix_tup : IxR X (rIxT X.K) := by
  intro value slice pins s σ H x y v u Q I rx ry h hs
  obtain ⟨p, xs, i, z, rfl, rfl, hq, he, q⟩ := h
  cases rx
  obtain ⟨t, rfl⟩ := ry
  obtain ⟨its, r, pl, hz⟩ := I.tuple hq
  obtain ⟨j, h1, h2, h3, h4, h5⟩ := atI_get he
  obtain ⟨w, ew, rw'⟩ := r.get h2
  have hl := r.length
  have hn := line63
  have fin : EP X pins σ Q w s := ⟨z, H, I, rw', q⟩
  exact subscriptTail_builtinR (x := w) pl.typeIs slot_tuple_getitem.lookup
    (getItem_tuple (j := j) (Q := fun r s' => r = w ∧ EP X pins σ Q r s') pl (by omega) (by omega) (by rw [List.size_toArray, ← hl]; exact h1) (by simpa using ew) ⟨rfl, fin⟩) hs
def rIx (K : PySem.W.Frag) : R2 := fun x y H Q => rIxL K x y H Q ∨ rIxT K x y H Q ∨ rIxS x y H Q
theorem Inv.lst {pins : List (Addr × Obj)} {σ : St} {H : Hp} {s : Shared} {p : Addr} {xs : List V} (I : Inv X pins σ H s) (h : H p = some (.lst xs)) :
    ∃ (its : List Value) (n : Nat), Vals xs its ∧ s.heap.get? p = some { cls := .type "list", data := .seq its.toArray n } ∧ xs.length ≤ sizeLine := by
  obtain ⟨z, its, n, r, e⟩ := I.hok p _ h
  exact ⟨its, n, r, e, z⟩
def rSetL : V → V → V → Hp → (Hp → Prop) → Prop := fun o i v H Q => ∃ p xs k j, o = .ref p ∧ i = .int k ∧ H p = some (.lst xs) ∧ ixN xs.length k = some j ∧ Q (upd H p (.lst (xs.set j v)))
theorem slice_bounds (lo hi : Option Int) (n : Nat) : (sliceBounds lo hi none n).1 = ((HT.sIx n 0 lo : Nat) : Int) ∧ (sliceBounds lo hi none n).2.1 = ((HT.sIx n n hi : Nat) : Int) ∧ (sliceBounds lo hi none n).2.2 = 1 := by
  refine ⟨?_, ?_, rfl⟩
  · cases lo with
    | none => simp [sliceBounds, HT.sIx]
    | some i =>
      simp only [sliceBounds, HT.sIx, Option.getD_none, show (1 : Int) > 0 by decide, if_true]
      by_cases h : i < 0
      · simp only [h, if_true] <;> omega
      · simp only [h, if_false] <;> omega
  · cases hi with
    | none => simp [sliceBounds, HT.sIx]
    | some i =>
      simp only [sliceBounds, HT.sIx, Option.getD_none, show (1 : Int) > 0 by decide, if_true]
      by_cases h : i < 0
      · simp only [h, if_true] <;> omega
      · simp only [h, if_false] <;> omega
theorem slicePick_cut (its : List Value) (lo hi : Option Int) : slicePick its.toArray lo hi none = ((its.drop (HT.sIx its.length 0 lo)).take (HT.sIx its.length its.length hi - HT.sIx its.length 0 lo)).toArray := by
  obtain ⟨h1, h2, h3⟩ := slice_bounds lo hi its.toArray.size
  unfold slicePick
  rw [h1, h2, h3]
  simp only [sliceRange_one, pick_run, List.size_toArray] <;> rfl
def rSlL (K : PySem.W.Frag) : V → Option Int → Option Int → Hp → VK → Prop := fun x lo hi H Q => ∃ a xs, x = .ref a ∧ SqL K H a xs ∧ ∀ p, H p = none → Q (.ref p) (upd H p (.lst (cutV xs lo hi)))
theorem sl_list : SlR X (rSlL X.K) := by
  intro pins s σ H x v vl vu lo hi sl Q I rx hs pl pu h
  obtain ⟨a, xs, rfl, hx, q⟩ := h
  cases rx
  obtain ⟨its, r, ht, hz⟩ := I.list hx
  have hlen := r.length
  refine ⟨"list", _, slot_list_getitem.lookup, ht.isList.typeIs, ?_⟩
  refine wpAny_getItem_list_slice ht.isList hs pl pu .none (by simp) ?_ (by rw [List.size_toArray] <;> omega)
  rw [slicePick_cut, ← hlen]
  refine ⟨.ref s.heap.objs.size, _, I.laid (t' := s.toks) (o := .lst (cutV xs lo hi)) (fun b ob q => Heap.get?_push_of_some _ q) (Nat.le_refl _) ?_, rfl, q _ (I.hok.fresh (Nat.le_refl _))⟩
  exact ⟨Nat.le_trans (cutV_length xs lo hi) hz, _, 0, (r.drop (HT.sIx xs.length 0 lo)).take (HT.sIx xs.length xs.length hi - HT.sIx xs.length 0 lo), Heap.get?_push_size _ rfl⟩
def flatV : V → Bool
  | .non => true
  | .bl _ => true
  | .int _ => true
  | .str _ => true
  | _ => false
def eqV : V → V → Bool
  | .non, .non => true
  | .bl a, .bl b => a == b
  | .bl a, .int b => (if a then 1 else 0) == b
  | .int a, .bl b => a == (if b then 1 else 0)
  | .int a, .int b => a == b
  | .str a, .str b => a == b
  | _, _ => false
def eqU (x : V) (u : Value) : Bool := match u with
  | .none => eqV .non x
  | .bool b => eqV (.bl b) x
  | .int i _ => eqV (.int i) x
  | .str z _ => eqV (.str z) x
  | _ => false
def inV (x : V) (xs : List V) : Bool := xs.any fun y => eqV y x
def rIn (K : PySem.W.Frag) (neg : Bool) : R2 := fun x y H Q => ∃ p xs, y = .ref p ∧ (SqL K H p xs ∨ SqT K H p xs) ∧ flatV x = true ∧ xs.all flatV = true ∧ Q (.bl (if neg then !inV x xs else inV x xs)) H
theorem call_len_seq : CallR X (.builtin "len") (fun xs H Q => ∃ p ys, xs = [.ref p] ∧ (SqL X.K H p ys ∨ SqT X.K H p ys) ∧ Q (.int ys.length) H) := by
  intro pins s σ H xs us Q I r h
  obtain ⟨p, ys, rfl, hq, q⟩ := h
  obtain ⟨u, rfl, rx⟩ := vals1 r
  cases rx
  have hn := line63
  rcases hq with hq | hq
  · obtain ⟨its, r', pl, hz⟩ := I.list hq
    have hlen := r'.length
    exact Calls.call_len_list pl.isList (by simp only [List.size_toArray] <;> omega) ⟨.int ys.length, H, I.tok _, ⟨s.toks + 1, by rw [List.size_toArray, hlen]⟩, q⟩
  · obtain ⟨its, r', pl, hz⟩ := I.tuple hq
    have hlen := r'.length
    exact len_tuple pl (by simp only [List.size_toArray] <;> omega) ⟨.int ys.length, H, I.tok _, ⟨s.toks + 1, by rw [List.size_toArray, hlen]⟩, q⟩
theorem CallR.or {f : Value} {r r' : List V → Hp → VK → Prop} (h : CallR X f r) (h' : CallR X f r') : CallR X f (fun xs H Q => r xs H Q ∨ r' xs H Q) := by
  intro pins s σ H xs us Q I rs q
  rcases q with q | q
  · exact h pins s σ H xs us Q I rs q
  · exact h' pins s σ H xs us Q I rs q
theorem call_list_of : CallR X (.type "list") (fun xs H Q => ∃ p ys, xs = [.ref p] ∧ (SqL X.K H p ys ∨ SqT X.K H p ys) ∧ ∀ l, H l = none → Q (.ref l) (upd H l (.lst ys))) := by
  intro pins s σ H xs us Q I r h
  obtain ⟨p, ys, rfl, hq, q⟩ := h
  obtain ⟨u, rfl, rx⟩ := vals1 r
  cases rx
  have fin : ∀ (its : List Value), Vals ys its → ys.length ≤ sizeLine → ∀ (h' : Heap) (c' : Nat), (∀ b o', s.heap.get? b = some o' → h'.get? b = some o') →
      h'.get? s.heap.objs.size = some { cls := .type "list", dict := none, data := .seq its.toArray c', slots := #[] } → EP X pins σ Q (.ref s.heap.objs.size) { s with heap := h' } := fun its r' hz h' c' kp e =>
    ⟨.ref s.heap.objs.size, _, I.laid (t' := s.toks) kp (Nat.le_refl _) (show ObjOk X.prog X.w _ h' _ (.lst ys) from ⟨hz, its, c', r', e⟩), rfl, q _ (I.hok.fresh (Nat.le_refl _))⟩
  rcases hq with hq | hq
  · obtain ⟨its, r', pl, hz⟩ := I.list hq
    have hlen := r'.length
    obtain ⟨o, ho, hc, n, hd⟩ := pl.isList
    exact call_list_seq p (.inl rfl) ho hc hd (fun h' c' kp e => fin its r' hz h' c' kp e) (by simp only [List.size_toArray] <;> omega)
  · obtain ⟨its, r', pl, hz⟩ := I.tuple hq
    have hlen := r'.length
    obtain ⟨o, ho, hc, n, hd⟩ := pl
    exact call_list_seq p (.inr rfl) ho hc hd (fun h' c' kp e => fin its r' hz h' c' kp e) (by simp only [List.size_toArray] <;> omega)
theorem call_tuple_of : CallR X (.type "tuple") (fun xs H Q => ∃ p ys, xs = [.ref p] ∧ ((SqL X.K H p ys ∧ ∀ l, H l = none → Q (.ref l) (upd H l (.tup ys))) ∨ (SqT X.K H p ys ∧ Q (.ref p) H))) := by
  intro pins s σ H xs us Q I r h
  obtain ⟨p, ys, rfl, h⟩ := h
  obtain ⟨u, rfl, rx⟩ := vals1 r
  cases rx
  rcases h with ⟨hq, q⟩ | ⟨hq, q⟩
  · obtain ⟨its, r', pl, hz⟩ := I.list hq
    have hlen := r'.length
    refine call_tuple_list pl.isList (fun h' kp => ?_) (by simp only [List.size_toArray] <;> omega)
    have I1 : Inv X pins σ H { s with heap := h' } := I.kept (t' := s.toks) kp
    have I2 : Inv X pins σ (upd H h'.objs.size (.tup ys)) { s with heap := h'.push { cls := .type "tuple", data := .seq its.toArray } } :=
      I1.laid (t' := s.toks) (fun b o e => Heap.get?_push_of_some _ e) (Nat.le_refl _) (show ObjOk X.prog X.w _ _ _ (.tup ys) from ⟨hz, its, r', IsTup.new _ _⟩)
    exact ⟨.ref h'.objs.size, _, I2, rfl, q _ (I1.hok.fresh (Nat.le_refl _))⟩
  · obtain ⟨its, r', pl, hz⟩ := I.tuple hq
    exact call_tuple_same pl ⟨.ref p, H, I, rfl, q⟩
def tyV (K : PySem.W.Frag) (T : String) (x : V) (H : Hp) : Prop := match x with
  | .str _ => T = "str"
  | .int _ => T = "int"
  | .ref p => (T = "list" ∧ ∃ xs, SqL K H p xs) ∨ (T = "tuple" ∧ ∃ o, K.lookup p = some o ∧ o.cls = .type "tuple" ∧ o.dict = none) ∨
      (T = "dict" ∧ ((∃ kvs, H p = some (.dK kvs)) ∨ ∃ kvs, H p = some (.dT kvs))) ∨ (T = "set" ∧ ∃ S n, H p = some (.set S n))
  | _ => False
theorem tyV_is {pins : List (Addr × Obj)} {σ : St} {H : Hp} {s : Shared} {T : String} {x : V} {v : Value} (I : Inv X pins σ H s) (r : RelV x v) (ty : tyV X.K T x H) :
    s.TypeIs v T ∧ ∀ a, v = .ref a → ∃ ob, s.heap.get? a = some ob ∧ ob.dict = none := by
  cases x with
  | str z =>
    obtain ⟨t, rfl⟩ := r
    cases (show T = "str" from ty)
    exact ⟨typeIs_str s z t, fun _ e => nomatch e⟩
  | int i =>
    obtain ⟨t, rfl⟩ := r
    cases (show T = "int" from ty)
    exact ⟨typeIs_int s i t, fun _ e => nomatch e⟩
  | ref p =>
    cases r
    rcases ty with ⟨rfl, xs, hq⟩ | ⟨rfl, o, hk, hc, hd⟩ | ⟨rfl, hk⟩ | ⟨rfl, S, n, hk⟩
    · obtain ⟨its, _, pl, _⟩ := I.list hq
      refine ⟨pl.isList.typeIs, fun a e => ?_⟩
      cases e
      obtain ⟨o, n, e, c, hd, _⟩ := pl
      exact ⟨o, e, hd⟩
    · refine ⟨⟨o, I.kIn p o hk, hc⟩, fun a e => ?_⟩
      cases e
      exact ⟨o, I.kIn _ o hk, hd⟩
    · have z : ∃ o, s.heap.get? p = some o ∧ o.ExactDict := by
        rcases hk with ⟨kvs, hk⟩ | ⟨kvs, hk⟩
        · obtain ⟨_, _, _, _, o, _, _, e, ex, _⟩ := I.hok p _ hk
          exact ⟨o, e, ex⟩
        · obtain ⟨_, _, _, _, o, _, _, e, ex, _⟩ := I.hok p _ hk
          exact ⟨o, e, ex⟩
      obtain ⟨o, e, ex⟩ := z
      refine ⟨⟨o, e, ex.1⟩, fun a e2 => ?_⟩
      cases e2
      exact ⟨o, e, ex.2.1⟩
    · obtain ⟨o, _, _, _, e, ex, _⟩ := I.hok p _ hk
      refine ⟨⟨o, e, ex.1⟩, fun a e2 => ?_⟩
      cases e2
      exact ⟨o, e, ex.2.1⟩
  | _ => exact False.elim ty
def tBM0 (K : PySem.W.Frag) (T : String) (r : V → List V → Hp → VK → Prop) (to : TE) : TE := fun σ H Q => to σ H fun x H1 => tyV K T x H1 ∧ r x [] H1 Q
def tBM (K : PySem.W.Frag) (T : String) (r : V → List V → Hp → VK → Prop) (to : TE) (t : TA) : TE := fun σ H Q => to σ H fun x H1 => tyV K T x H1 ∧ t σ H1 fun xs H2 => r x xs H2 Q
variable {o e : Expr} {es : List Expr} {to : TE} {t : TA} {name : Str} {apos cpos : Pos} {T id : String} {r : V → List V → Hp → VK → Prop}
theorem pe_bm0 (pa : PlainAttrs T) (slot : Slot T name id) (hty : typeOf (.builtin id) = pure (.type "method_descriptor")) (hm : MtR X id r) (ho : PE X o to)
    (hbase : attributeBase o name X.env (eval o X.env) = eval o X.env := by rfl) (hline : (apos.endLine == cpos.line) = true := by rfl) : PE X (.Call (.Attribute o name apos) [] [] cpos) (tBM0 X.K T r to) := by
  intro pins s σ H Q I h
  refine wpAny_Call_method0_late hbase hline (thn (ho pins s σ H _ I h) fun v s1 ⟨x, H1, I1, r1, ty, q1⟩ => ?_)
  obtain ⟨h1, h2⟩ := tyV_is I1 r1 ty
  exact ⟨T, id, pa, slot, hty, h1, h2, Calls.callWith_builtin rfl (PySem.evalArgs_none (hm pins s1 σ H1 x [] v [] Q I1 r1 .nil q1))⟩
theorem pe_bm (pa : PlainAttrs T) (slot : Slot T name id) (hty : typeOf (.builtin id) = pure (.type "method_descriptor")) (hm : MtR X id r) (ho : PE X o to) (ha : PA X (e :: es) t)
    (hbase : attributeBase o name X.env (eval o X.env) = eval o X.env := by rfl)
    (hfew : ((backTo cpos (starEach (e :: es) X.env)).all (fun x => !x.1) && (backToKw cpos (keywordEach [] X.env)).all (fun x => x.1.isSome)
      && decide ((e :: es).length + ([] : List Keyword).length + (if ([] : List Keyword).isEmpty then 0 else 1) < 30)) = true := by rfl)
    (hline : (apos.endLine == cpos.line) = true := by rfl) (hs : starEach (e :: es) X.env = (false, eval e X.env) :: starEach es X.env := by rfl) (hplain : (backTo cpos (starEach es X.env)).any (·.1) = false := by rfl) :
    PE X (.Call (.Attribute o name apos) (e :: es) [] cpos) (tBM X.K T r to t) := by
  intro pins s σ H Q I h
  refine wpAny_Call_method_late hbase hfew hline rfl (thn (ho pins s σ H _ I h) fun v s1 ⟨x, H1, I1, r1, ty, q1⟩ => ?_)
  obtain ⟨h1, h2⟩ := tyV_is I1 r1 ty
  refine ⟨T, id, pa, slot, hty, h1, h2, ?_⟩
  have hA := ha cpos pins s1 σ H1 _ I1 q1
  rw [hs] at hA ⊢
  refine Calls.callWith_builtin (by show (false || (backTo cpos (starEach es X.env)).any (·.1)) = false; rw [hplain] <;> rfl) (Calls.evalArgs_plain ?_)
  exact thn hA fun us s2 ⟨vs, H2, I2, r2, q2⟩ => hm pins s2 σ H2 x vs v us Q I2 r1 r2 q2
/- xs.append(e), list.index on a module's tuple .. are MtR facts of 06m -/
end
end L2
namespace L2
open PySem PySem.Spec PyProof.Rows
def MtM (X : Cx) (id : String) (r : V → List V → Hp → VK → Prop) : Prop :=
  ∀ (pins : List (Addr × Obj)) (s : Shared) (σ : St) (H : Hp) (x : V) (xs : List V) (v : Value) (us : List Value) (Q : VK), Inv X pins σ H s → RelV x v → Vals xs us → r x xs H Q →
    wpAny (model X.prog X.w) X.A (call (.builtin id) (v :: us)) (EP X pins σ Q) X.xe s
theorem Vals.one : ∀ {x : V} {us : List Value}, Vals [x] us → ∃ u, us = [u] ∧ RelV x u
  | _, _, .cons r .nil => ⟨_, rfl, r⟩
theorem Vals.two : ∀ {x y : V} {us : List Value}, Vals [x, y] us → ∃ u v, us = [u, v] ∧ RelV x u ∧ RelV y v
  | _, _, _, .cons r (.cons q .nil) => ⟨_, _, rfl, r, q⟩
theorem Vals.zero : ∀ {us : List Value}, Vals [] us → us = []
  | _, .nil => rfl
theorem Vals.dropLast {xs : List V} {us : List Value} (h : Vals xs us) : Vals xs.dropLast us.dropLast := by
  induction h with
  | nil => exact .nil
  | cons r t ih =>
    cases t with
    | nil => exact .nil
    | cons q t' => exact .cons r ih
theorem Vals.eraseIdx : ∀ {xs : List V} {us : List Value} (i : Nat), Vals xs us → Vals (xs.eraseIdx i) (us.eraseIdx i)
  | _, _, _, .nil => .nil
  | _, _, 0, .cons _ t => t
  | _, _, i + 1, .cons r t => .cons r (Vals.eraseIdx i t)
theorem Vals.reverse {xs : List V} {us : List Value} (h : Vals xs us) : Vals xs.reverse us.reverse := by
  induction h with
  | nil => exact .nil
  | cons r t ih => rw [List.reverse_cons, List.reverse_cons]; exact Vals.append ih (.cons r .nil)
theorem erase_last {α : Type} (l : List α) : l.eraseIdx (l.length - 1) = l.dropLast := by
  induction l with
  | nil => rfl
  | cons a r ih =>
    cases r with
    | nil => rfl
    | cons b r =>
      have e : (a :: b :: r).length - 1 = ((b :: r).length - 1) + 1 := by
        have h1 : (a :: b :: r).length = r.length + 2 := rfl
        have h2 : (b :: r).length = r.length + 1 := rfl
        omega
      rw [e, List.eraseIdx_cons_succ, ih]
      all_goals rfl
section
variable {X : Cx} {pins : List (Addr × Obj)} {σ : St} {H : Hp} {s : Shared} {l b : Addr} {xs ys zs : List V}
theorem Inv.lset {its its' : List Value} {n : Nat} {f : Array Value → Array Value} {t' : Nat} (I : Inv X pins σ H s) (hH : H l = some (.lst xs))
    (e : s.heap.get? l = some { cls := .type "list", data := .seq its.toArray n }) (hf : f its.toArray = its'.toArray) (hv : Vals ys its') (hz : ys.length ≤ sizeLine) :
    Inv X pins σ (upd H l (.lst ys)) { s with heap := s.heap.update l (Obj.mapSeq f), toks := t' } := by
  have q := PySem.IsL.update e f
  rw [hf] at q
  refine I.write (x := l) (e := l) (by rw [hH]; exact trivial) (.inl rfl) (fun b' u hb hu => (Heap.get?_update_other s.heap (Obj.mapSeq f) (Ne.symm hb)).trans hu) ⟨_, q⟩ ?_
  exact ⟨hz, its', _, hv, q⟩
theorem Inv.fresh (I : Inv X pins σ H s) : H s.heap.objs.size = none := I.hok.fresh (Nat.le_refl _)
theorem Inv.lstM (I : Inv X pins σ H s) (hH : H l = some (.lst xs)) : xs.length ≤ sizeLine ∧ ∃ (its : List Value) (n : Nat), Vals xs its ∧ xs.length = its.length ∧ s.heap.get? l = some { cls := .type "list", data := .seq its.toArray n } := by
  obtain ⟨z, its, n, r, e⟩ := I.hok l _ hH
  exact ⟨z, its, n, r, r.length, e⟩
theorem notLongL {n : Nat} (h : n ≤ sizeLine) : Builtin.List.listTooLong n = false := by
  unfold Builtin.List.listTooLong
  exact decide_eq_false (by omega)
end
section
variable {X : Cx}
def rAppend : V → List V → Hp → VK → Prop := fun x vs H Q => ∃ l xs y, x = .ref l ∧ vs = [y] ∧ H l = some (.lst xs) ∧ xs.length < sizeLine ∧ Q .non (upd H l (.lst (xs ++ [y])))
theorem mt_append : MtM X "list.append" rAppend := by
  intro pins s σ H x vs v us Q I rx rv h
  obtain ⟨l, xs, y, rfl, rfl, hH, hz, q⟩ := h
  cases rx
  obtain ⟨u, rfl, ru⟩ := rv.one
  obtain ⟨z, its, n, r, hl, e⟩ := I.lstM hH
  refine call_meets F.slot_list_append ⟨_, e, rfl⟩ F.entry_list_append (F.args_list_append_2 _ _) (PySem.list_append l its.toArray n u (by rw [List.size_toArray]; omega)) ⟨e, ?_⟩
  refine ⟨.non, _, I.lset (its' := its ++ [u]) hH e (by simp) (r.append (.cons ru .nil)) ?_, rfl, q⟩
  rw [List.length_append, List.length_singleton]
  omega
def rExtend : V → List V → Hp → VK → Prop := fun x vs H Q => ∃ l b xs zs, x = .ref l ∧ vs = [.ref b] ∧ H l = some (.lst xs) ∧ H b = some (.lst zs) ∧ xs.length + zs.length ≤ sizeLine ∧ Q .non (upd H l (.lst (xs ++ zs)))
theorem mt_extend : MtM X "list.extend" rExtend := by
  intro pins s σ H x vs v us Q I rx rv h
  obtain ⟨l, b, xs, zs, rfl, rfl, hH, hB, hz, q⟩ := h
  cases rx
  obtain ⟨u, rfl, ru⟩ := rv.one
  cases ru
  obtain ⟨z, its, n, r, hl, e⟩ := I.lstM hH
  obtain ⟨z2, its2, n2, r2, hl2, e2⟩ := I.lstM hB
  have hsz : its.toArray.size + its2.toArray.size ≤ sizeLine := by rw [List.size_toArray, List.size_toArray]; omega
  have hlong : ¬ (!its.toArray.isEmpty && Builtin.List.listTooLong (its.toArray.size + its2.toArray.size)) = true := by
    rw [notLongL hsz, Bool.and_false]
    exact Bool.false_ne_true
  refine call_meets F.slot_list_extend ⟨_, e, rfl⟩ F.entry_list_extend (F.args_list_extend_2 _ _)
    (AutoSeq1.list_extend_list_list_0 l its.toArray n b its2.toArray n2 hlong (by rw [List.size_toArray]; omega) (by omega)) ⟨e, e2, ?_⟩
  refine ⟨.non, _, I.lset (its' := its ++ its2) hH e (by simp) (r.append r2) ?_, rfl, q⟩
  rw [List.length_append]
  omega
def rPop : V → List V → Hp → VK → Prop := fun x vs H Q => ∃ l xs y, x = .ref l ∧ vs = [] ∧ H l = some (.lst xs) ∧ xs[xs.length - 1]? = some y ∧ Q y (upd H l (.lst xs.dropLast))
theorem mt_pop : MtM X "list.pop" rPop := by
  intro pins s σ H x vs v us Q I rx rv h
  obtain ⟨l, xs, y, rfl, rfl, hH, hy, q⟩ := h
  cases rx
  have hus := rv.zero
  subst hus
  obtain ⟨z, its, n, r, hl, e⟩ := I.lstM hH
  obtain ⟨u, hu, ru⟩ := r.get hy
  have hy' : its.toArray[its.toArray.size - 1]? = some u := by
    show its.toArray[its.length - 1]? = some u
    rw [← Array.getElem?_toList, ← hl]
    exact hu
  refine call_meets F.slot_list_pop ⟨_, e, rfl⟩ F.entry_list_pop (F.args_list_pop_1 _) (MeetsSeq.list_pop_last l its.toArray n u hy' (by rw [List.size_toArray]; omega)) ⟨e, ?_⟩
  refine ⟨y, _, I.lset (its' := its.dropLast) hH e ?_ r.dropLast ?_, ru, q⟩
  · show its.toArray.eraseIdxIfInBounds (its.toArray.size - 1) = its.dropLast.toArray
    rw [List.size_toArray, List.eraseIdxIfInBounds_toArray, erase_last]
  · rw [List.length_dropLast]
    omega
def rPopAt : V → List V → Hp → VK → Prop := fun x vs H Q => ∃ l xs i k y, x = .ref l ∧ vs = [.int i] ∧ H l = some (.lst xs) ∧ -(2 ^ 63) ≤ i ∧ i < 2 ^ 63 ∧ seqIndex? i xs.length = some k ∧ xs[k]? = some y ∧ Q y (upd H l (.lst (xs.eraseIdx k)))
def rReverse : V → List V → Hp → VK → Prop := fun x vs H Q => ∃ l xs, x = .ref l ∧ vs = [] ∧ H l = some (.lst xs) ∧ Q .non (upd H l (.lst xs.reverse))
def rClear : V → List V → Hp → VK → Prop := fun x vs H Q => ∃ l xs, x = .ref l ∧ vs = [] ∧ H l = some (.lst xs) ∧ Q .non (upd H l (.lst []))
def rCat : R2 := fun x y H Q => ∃ l b xs zs, x = .ref l ∧ y = .ref b ∧ H l = some (.lst xs) ∧ H b = some (.lst zs) ∧ xs.length + zs.length ≤ sizeLine ∧ ∀ p, H p = none → Q (.ref p) (upd H p (.lst (xs ++ zs)))
def rRep : R2 := fun x y H Q => ∃ l k xs, x = .ref l ∧ y = .int k ∧ H l = some (.lst xs) ∧ -(2 ^ 63) ≤ k ∧ k < 2 ^ 63 ∧ xs.length * k.toNat ≤ sizeLine ∧
  ∀ p, H p = none → Q (.ref p) (upd H p (.lst (List.replicate k.toNat xs).flatten))
end
section
variable {prog : Program} {w : World} {A : Around} {E : Value → Shared → Prop} {s : Shared}
end
section
variable {X : Cx}
end
end L2
namespace Att
open PySem PySem.W PySem.Calls PyProof.Rows
theorem ints_of_wellAll {P : Params} {h : Heap} : ∀ (ns : List Int) (vs : List Value), WellAll P h vs (ns.map WData.int) → IntsAre vs ns := by
  intro ns
  induction ns with
  | nil =>
    intro vs w
    rw [List.map_nil] at w
    cases w
    exact .nil
  | cons n ns ih =>
    intro vs w
    rw [List.map_cons] at w
    cases w with
    | cons a b =>
      cases a
      exact .cons _ _ (ih _ b)
theorem script_of {l : OpenLaw} {n : Nat} (hn : l.most = some n) {P : Params} {h : Heap} {args : List WData} {vals : List Value}
    (hpre : l.row.toRowW.claim.pre args = true) (hwl : WellAll P h vals args) :
    ∃ a vs ns, vals = [Value.ref a] ∧ args = [WData.list (ns.map WData.int)] ∧ h.get? a = some { cls := .type "list", data := .seq vs.toArray } ∧ IntsAre vs ns ∧ ns.length ≤ n := by
  have hsh : WShape.hasAll [] args [.list .int] = true := (pre_splitW hpre).1
  have hc : l.pre.holds [] { args := args } = true := (pre_splitW hpre).2
  obtain ⟨d, r, rfl, h1, h2⟩ := hasAllW_cons hsh
  obtain rfl := hasAllW_nil h2
  obtain ⟨xs, rfl, h3⟩ := hasW_list h1
  obtain ⟨ns, rfl⟩ := items_int h3
  have hlen : ns.length ≤ n := by
    unfold OpenLaw.pre at hc
    have h4 : (WTm.not (.lt (.lit (.int (n : Int))) (.len (.arg 0)))).holds [] { args := [.list (ns.map .int)] } = true := by
      have h4 := (holds_andW hc).1
      rw [hn] at h4
      exact h4
    have h5 := condW_of h4 (w_not (w_lt w_lit (w_len_list (w_arg rfl))))
    rw [List.length_map] at h5
    refine Nat.le_of_not_lt fun q => ?_
    have q' : (n : Int) < ((ns.length : Nat) : Int) := by omega
    first
      | (rw [decide_eq_true q'] at h5; exact absurd h5 (by decide))
      | (simp at h5; omega)
  cases hwl with
  | cons w1 w2 =>
    cases w2
    cases w1 with
    | list ho hall => exact ⟨_, _, ns, rfl, rfl, ho, ints_of_wellAll ns _ hall, hlen⟩
theorem post_true (l : OpenLaw) (args : List WData) : l.row.toRowW.claim.post args (.bool true) args = true :=
  postW_of (r := l.row.toRowW) (X := (true == true))
    (show WShape.has [] (.bool true) .bool = true by first | rfl | decide | simp [WShape.has, WShape.arms, WShape.armsAll])
    (show (WTm.eq .res (.lit (.bool true))).value [] { args := args, res := some (.bool true), after := args } = some (.bool (true == true)) from w_eq_bool (w_res rfl) w_lit) rfl
theorem attach_call {l : OpenLaw} {n : Nat} {q : Program} {loose : List Str} {XP : (Str → Option Value) → Heap → Prop} {YP : World → Heap → Prop} {d : DefRec}
    (hn : l.most = some n) (hdf : d.params.defaults = [])
    (call : ∀ (w : World) (s₀ s₁ : Shared) (mg mb : Str → Option Value) (fa : Addr) (o : Obj) (pm cd doc : Value) (a : Addr) (vs : List Value) (ns : List Int),
      Ground q loose [] XP w s₀ mg mb s₁.heap → YP w s₁.heap →
      s₁.heap.get? fa = some o → o.data = .func (docDef d.name d.params d.body d.scope pm cd doc) → s₁.heap.CodeRec cd d.name → mg d.name = some (.ref fa) →
      s₁.heap.get? a = some { cls := .type "list", data := .seq vs.toArray } → IntsAre vs ns → ns.length ≤ n → s₁.gens = #[] →
      codeAny (model l.prog w) callerA (.call (.ref fa) ⟨[.ref a], []⟩) (fun r s' => r = .ok (.ret (.bool true)) ∧ OldK s₁.heap s'.heap ∧ s'.os = s₁.os ∧ AllBare s'.gens) s₁) :
    WalkO q loose XP YP l.row.toRowW d [] (fun f vs => PySem.call f vs) := by
  intro w s₀ s₁ mg mb G Y fa o pm cd doc dV kV ho hd hcd hD hmg hg args vals as hpre hlay hrd hwl hlo
  obtain rfl : dV = .none := Dflts.none hD hdf
  obtain rfl : kV = .none := Dflts.noKw hD
  obtain ⟨a, vs, ns, rfl, rfl, hobj, hints, hlen⟩ := script_of hn hpre hwl
  refine enter_call (codeAny_mono (call w s₀ s₁ mg mb fa o pm cd doc a vs ns G Y ho (fd_plain hd) hcd hmg hobj hints hlen hg) fun r s' hq => ?_)
  obtain ⟨rfl, h2, h3, h4⟩ := hq
  exact ⟨.inl ⟨.bool true, .bool true, [], rfl, fun _ => rfl, .bool true, post_true l _, fun _ => ⟨List.Pairwise.nil, fun _ hm => (nomatch hm)⟩⟩, h2, h3, h4⟩
section
variable {prog : Program} {w : World} {A : Around} {E : Value → Shared → Prop} {s : Shared} {K : Frag}
def noObjs (h : Heap) : Heap := { h with objs := #[] }
def ledger (h : Heap) (L d : Addr) : List (Addr × Obj) := (List.range h.objs.size).filterMap fun a => if a = L ∨ a = d then none else (h.get? a).map fun o => (a, o)
end
end Att
namespace L2
open PySem PySem.Spec PyProof.Rows
theorem vals_ints : ∀ {vs : List Value} {ns : List Int}, IntsAre vs ns → Vals (ns.map V.int) vs
  | _, _, .nil => .nil
  | _, _, .cons n t h => .cons ⟨t, rfl⟩ (vals_ints h)
def Only (H : Hp) : Prop := ∀ b, H b = none ∨ ∃ o xs, H b = some (.frz o (.lst xs))
theorem law_call {P : Program} {w : World} {K : PySem.W.Frag} {mg mb : Str → Option Value} {CX : CXT} {k : Nat} {fa a : Addr} {fd : FuncData} {x : Str} {sp : Sp} {s₁ : Shared} {vs : List Value} {ns : List Int}
    (KX : K.In s₁.heap) (hns : s₁.heap.Ns mainGlobals mg) (hb : s₁.heap.Ns builtinsNs mb) (hbb : ∀ x : Str, x ≠ "__name__" → mb x = bootBuiltins x) (hlim : s₁.heap.NoLimit) (hg : s₁.gens = #[])
    (ha : s₁.heap.get? a = some { cls := .type "list", data := .seq vs.toArray }) (hi : IntsAre vs ns) (hl : ns.length ≤ sizeLine) (hr : Room k callerA)
    (F : ∀ base : Heap, K.In base → base.Ns mainGlobals mg → FnOk P w K mg base CX k fa fd [x] sp) (hbind : ∀ (s : Shared) (u : Value), BindsTo s fd ⟨[u], []⟩ [(x, u)])
    (hsp : ∀ H : Hp, Only H → SqL K H a (ns.map V.int) → sp [.ref a] H (fun v _ => v = .bl true) fun _ _ _ => False)
    (hCX : ∀ H e s', CX [] H s₁ (fun _ _ _ => False) e s' → False) :
    codeAny (model P w) callerA (.call (.ref fa) ⟨[.ref a], []⟩) (fun r s' => r = .ok (.ret (.bool true)) ∧ OldK s₁.heap s'.heap ∧ s'.os = s₁.os ∧ AllBare s'.gens) s₁ := by
  have rv := vals_ints hi
  have lenV := hi.length
  -- from an abstract heap in which nothing but the script may be tracked
  have core : ∀ H : Hp, Only H → SqL K H a (ns.map V.int) → HOk P w H s₁.heap → (∀ b, H b ≠ none → b = a) → (H a ≠ none → K.lookup a = none) →
      codeAny (model P w) callerA (.call (.ref fa) ⟨[.ref a], []⟩) (fun r s' => r = .ok (.ret (.bool true)) ∧ OldK s₁.heap s'.heap ∧ s'.os = s₁.os ∧ AllBare s'.gens) s₁ := by
    intro H hO hS hok hA hK
    have base_of : ∀ {b : Addr} {o : Obj}, s₁.heap.get? b = some o → H b = none → (hidT s₁.heap H).get? b = some o := fun e n => hidT_get e n
    have noA : ∀ {b : Addr} {o : Obj} {es : Array DictEntry} {ep : Nat}, s₁.heap.get? b = some o → o.data = .dict es ep → H b = none := fun {b o es ep} e d => by
      cases q : H b with
      | none => rfl
      | some u =>
        have e' : b = a := hA b (by rw [q]; simp)
        subst e'
        rw [ha] at e; cases e
        have d' : Data.seq vs.toArray _ = Data.dict es ep := d
        cases d'
    have nsK : ∀ {b : Addr} {m : Str → Option Value}, s₁.heap.Ns b m → (hidT s₁.heap H).Ns b m := fun {b m} ⟨o, es, ep, e, d, r⟩ => ⟨o, es, ep, base_of e (noA e d), d, r⟩
    have hKb : K.In (hidT s₁.heap H) := fun b o e => base_of (KX b o e) (by
      cases q : H b with
      | none => rfl
      | some u =>
        have e' : b = a := hA b (by rw [q]; simp)
        subst e'
        rw [hK (by rw [q]; simp)] at e; cases e)
    have hM : Mod K mg (hidT s₁.heap H) := ⟨hKb, nsK hns, ⟨mb, nsK hb, hbb⟩, let ⟨mc, h1, h2⟩ := hlim; ⟨mc, nsK h1, h2⟩⟩
    have e0 : Env0 P w K mg (hidT s₁.heap H) callerA [] s₁ H := ⟨rfl, hM, fun b o e => of_hidT e, Nat.le_of_eq (hidT_size _ _), trivial, fun b hb => absurd (show b ∈ ([] : List Addr) from hb) (by simp), hok, .of_eq hg⟩
    refine codeAny_mono ((F _ hKb (nsK hns)).run callerA [] s₁ H ⟨[.ref a], []⟩ [.ref a] [.ref a] _ _ hr e0 (hbind s₁ (.ref a)) (.cons rfl .nil) (hsp H hO hS)) fun r s' h => ?_
    cases r with
    | error e => exact (hCX H e s' h).elim
    | ok fl =>
      cases fl with
      | next => exact False.elim h
      | brk => exact False.elim h
      | cont => exact False.elim h
      | ret u =>
        obtain ⟨v, H', os, bare, un, hok', r', q⟩ := h
        have q' : v = .bl true := q
        subst q'
        obtain rfl : u = Value.bool true := r'
        refine ⟨rfl, OldK.of_keep fun b o e => ?_, os, bare⟩
        cases q : H b with
        | none => exact un.keep b o e q (by intro z; exact absurd (show b ∈ ([] : List Addr) from z) (by simp)) (by simp)
        | some u =>
          rcases hO b with z | ⟨ob, xs, z⟩
          · rw [q] at z; cases z
          · have z2 := un.frzs b ob _ z
            obtain ⟨e1, _⟩ := hok b _ z
            obtain ⟨e2, _⟩ := hok' b _ z2
            rw [e] at e1; cases e1
            exact e2
  cases hk : K.lookup a with
  | some o =>
    -- the script is one of the module's own objects
    have e := KX a o hk
    rw [ha] at e
    cases e
    refine core (fun _ => none) (fun _ => .inl rfl) (.inr ⟨_, vs.toArray, _, hk, rfl, rfl, rfl, by rw [List.size_toArray, lenV]; exact hl, by simpa using rv⟩) (fun b u z => by have z' : (none : Option HO) = some u := z; cases z') (fun b z => absurd rfl z) fun z => absurd rfl z
  | none =>
    refine core (fun b => if b = a then some (.frz { cls := .type "list", data := .seq vs.toArray } (.lst (ns.map V.int))) else none) (fun b => ?_) (.inl (.inr ⟨{ cls := .type "list", data := .seq vs.toArray }, if_pos rfl⟩)) (fun b u z => ?_) (fun b z => ?_) fun _ => hk
    · by_cases hb : b = a
      · exact .inr ⟨_, _, if_pos hb⟩
      · exact .inl (if_neg hb)
    · by_cases hb : b = a
      · have z' := (if_pos hb).symm.trans z
        cases z'
        subst hb
        exact ⟨ha, by rw [List.length_map]; exact hl, vs, _, rv, ha⟩
      · have z' := (if_neg hb).symm.trans z
        cases z'
    · by_cases hb : b = a
      · exact hb
      · exact absurd (if_neg hb) z
end L2
namespace L2
open PySem PySem.Spec PyProof.Rows
abbrev KOf {K : PySem.W.Frag} {h : Heap} (_ : K.In h) : PySem.W.Frag := K
theorem walk_of {l : PySem.W.OpenLaw} {n k : Nat} {q : Program} {loose : List Str} {XP : (Str → Option Value) → Heap → Prop} {YP : World → Heap → Prop} {d : DefRec} {K : Params → PySem.W.Frag} {CX : World → CXT} {sp : World → Sp} {x : Str}
    (hn : l.most = some n) (hn2 : n ≤ sizeLine) (hdf : d.params.defaults = []) (hr : Room k callerA)
    (hY : ∀ (w : World) (h : Heap), YP w h → (K w.params).In h)
    (F : ∀ (w : World) (mg : Str → Option Value) (fa : Addr) (h : Heap), (K w.params).In h → h.Ns mainGlobals mg → mg d.name = some (.ref fa) →
      ∃ fd : FuncData, (∀ (s : Shared) (u : Value), BindsTo s fd ⟨[u], []⟩ [(x, u)]) ∧
        ∀ base : Heap, (K w.params).In base → base.Ns mainGlobals mg → FnOk l.prog w (K w.params) mg base (CX w) k fa fd [x] (sp w))
    (hsp : ∀ (w : World) (H : Hp) (a : Addr) (ns : List Int), ns.length ≤ n → Only H → SqL (K w.params) H a (ns.map V.int) → sp w [.ref a] H (fun v _ => v = .bl true) fun _ _ _ => False)
    (hCX : ∀ (w : World) (H : Hp) (s : Shared) (e : Value) (s' : Shared), CX w [] H s (fun _ _ _ => False) e s' → False) :
    PySem.W.WalkO q loose XP YP l.row.toRowW d [] (fun f vs => PySem.call f vs) := by
  refine Att.attach_call hn hdf fun w s₀ s₁ mg mb fa o pm cd doc a vs ns G Y ho hd hcd hmg hobj hints hlen hg => ?_
  have KX := hY w _ Y
  obtain ⟨fd, hb, hF⟩ := F w mg fa _ KX G.T.g hmg
  exact law_call KX G.T.g G.T.b G.T.builtins G.T.nolimit hg hobj hints (Nat.le_trans hlen hn2) hr hF hb (fun H hO hS => hsp w H a ns hlen hO hS) fun H e s' => hCX w H s₁ e s'
theorem walk_ofK {l : PySem.W.OpenLaw} {n k : Nat} {q : Program} {loose : List Str} {XP : (Str → Option Value) → Heap → Prop} {YP : World → Heap → Prop} {d : DefRec} {K : Params → PySem.W.Frag} {CX : CXT} {sp : PySem.W.Frag → Sp} {x : Str}
    (hn : l.most = some n) (hn2 : n ≤ sizeLine) (hdf : d.params.defaults = []) (hr : Room k callerA)
    (hY : ∀ (w : World) (h : Heap), YP w h → (K w.params).In h)
    (F : ∀ (w : World) (mg : Str → Option Value) (fa : Addr) (h : Heap), (K w.params).In h → h.Ns mainGlobals mg → mg d.name = some (.ref fa) →
      ∃ fd : FuncData, (∀ (s : Shared) (u : Value), BindsTo s fd ⟨[u], []⟩ [(x, u)]) ∧
        ∀ base : Heap, (K w.params).In base → base.Ns mainGlobals mg → FnOk l.prog w (K w.params) mg base CX k fa fd [x] (sp (K w.params)))
    (hsp : ∀ (K : PySem.W.Frag) (H : Hp) (a : Addr) (ns : List Int), ns.length ≤ n → Only H → SqL K H a (ns.map V.int) → sp K [.ref a] H (fun v _ => v = .bl true) fun _ _ _ => False)
    (hCX : ∀ (H : Hp) (s : Shared) (e : Value) (s' : Shared), CX [] H s (fun _ _ _ => False) e s' → False) :
    PySem.W.WalkO q loose XP YP l.row.toRowW d [] (fun f vs => PySem.call f vs) :=
  walk_of (K := K) (CX := fun _ => CX) (sp := fun w => sp (K w.params)) hn hn2 hdf hr hY F (fun w H a ns h1 h2 h3 => hsp (K w.params) H a ns h1 h2 h3) fun _ H s e s' => hCX H s e s'
end L2
/- THE LAST THEOREM (shape; LID, My.* are yours):
   My.Adr: a structure of the addresses that your layer names (classes, functions); My.Txt K t: a structure (Prop) of the equations over K;
   My.txt_mk : {K} {implicit addresses ..} (e1 : nsIn K mainGlobals "law" = some (some (.ref f))) (e2 : K.lookup f = some ⟨oc, od, .func (fnOf "law" "law" params body scope dV kV doc pm an cdv ct), sl⟩) (e3 : codeIn K cdv "law" = true) .. : ∃ t, My.Txt K t
set_option maxRecDepth 100000 in
set_option maxHeartbeats 0 in
theorem PySem.Challenge.cw_LID_holds : PySem.Challenge.rw_LID.Holds := by
  w_on; o_law; k_head; (case hw => w_witness2)
  k_fill
  refine L2.walk_of (l := PySem.Challenge.rw_LID) (n := 63) (k := 40) (x := "script") (CX := fun w => ..) (sp := fun _ => My.sp_law) rfl (by decide) rfl ⟨rfl, by decide, by decide⟩ (fun w h Y => PySem.W.kIn_of Y) ?F ?S ?C
  case F =>
    intro w mg fa h KX G hmg
    have T : ∃ t, My.Txt (L2.KOf KX) t := by
      dsimp only [L2.KOf]                          -- K must stand as «<heap const> w.params» for k_is
      refine' My.txt_mk ?e1 ?e2 ?e3 ..
      (case e1 => PySem.W.k_is)                    -- in the order: a name -> its address -> its object -> its parts
      (case e2 => PySem.W.k_is)
      ..
    obtain ⟨t, T⟩ := T
    have e0 := hmg.symm.trans (PySem.W.mg_of KX G T.law)
    cases e0                                       -- fa is the law's own address
    exact ⟨_, fun s u => .of_eq rfl, fun base kb nb => My.law_fn T kb nb⟩     -- if «.of_eq rfl» comes too early: refine' ⟨_, ?b, fun base kb nb => My.law_fn T kb nb⟩; exact fun s u => .of_eq rfl
  case S => exact fun w H a ns hl hO hS => ..
  case C => exact ..
(the tactic k_is has no namespace: write k_is) -/
namespace L2
open PySem PySem.Spec PyProof.Rows
def inClass (s : Stmt) (j : Nat) : Stmt := match s with
  | .ClassDef _ _ _ body _ _ _ _ _ _ _ => body.getD j (.Pass ⟨0, 0, 0, 0⟩)
  | _ => .Pass ⟨0, 0, 0, 0⟩
def defArgs (s : Stmt) : Arguments := match s with
  | .FunctionDef _ a _ _ _ _ _ _ _ _ => a
  | _ => { posonlyargs := [], args := [], vararg := none, kwonlyargs := [], kw_defaults := [], kwarg := none, defaults := [] }
def defBody (s : Stmt) : List Stmt := match s with
  | .FunctionDef _ _ b _ _ _ _ _ _ _ => b
  | _ => []
def defScope (s : Stmt) : Scope := match s with
  | .FunctionDef _ _ _ _ _ _ sc _ _ _ => sc
  | _ => { kind := .function, names := [], isGenerator := false, isCoroutine := false }
abbrev CX0 : CXT := fun _ _ _ _ _ _ => False
abbrev E0 : XK := fun _ _ _ => False
theorem pass0 {X : Cx} : Passes CX0 X E0 := fun _ _ _ _ _ _ _ h => h.elim
structure Fun (K : PySem.W.Frag) (x qual : Str) (st : Stmt) (f : Addr) (fd : FuncData) : Prop where
  ex : ∃ (oc : Value) (od : Option Addr) (kV doc pm : Value) (an : Option Addr) (cdv ct : Value) (osl : Array (Option Value)),
    fd = PySem.W.fnOf x qual (defArgs st) (defBody st) (defScope st) .none kV doc pm an cdv ct ∧ K.lookup f = some ⟨oc, od, .func fd, osl⟩ ∧ PySem.W.codeIn K cdv qual = true
  kp : PySem.W.keepIn K (.ref f) = true
section
variable {P : Program} {w : World} {K : PySem.W.Frag} {mg : Str → Option Value} {base : Heap}
theorem Fun.ok {x qual : Str} {st : Stmt} {f : Addr} {fd : FuncData} {N ps : List Str} {k : Nat} {sp : Sp} (F : Fun K x qual st f fd) (S : FnScope N ps (defScope st)) (len : ∀ vs H Q E, sp vs H Q E → vs.length = ps.length)
    (hbody : ∀ (cdv : Value) (A : Around) (outer : List Env) (s : Shared) (H : Hp) (vs : List V) (Q : VK) (E : XK), Room k (A.deeper (envOfC qual (defScope st) s.heap.objs.size f cdv)) → sp vs H Q E →
      ∃ t, PSs (cxOf CX0 P w K mg base N qual (defScope st) f cdv A outer s H E).nox (defBody st) t ∧ t { nx := fun _ H' => Q .non H', rt := Q } (start N vs) H) : FnOk P w K mg base CX0 (k + 1) f fd ps sp := by
  obtain ⟨oc, od, kV, doc, pm, an, cdv, ct, osl, rfl, lk, hcd⟩ := F.ex
  refine fn_of lk hcd S len fun A outer s H vs Q E hr hsp => ?_
  obtain ⟨t, h, q⟩ := hbody cdv A outer s H vs Q E hr hsp
  exact ⟨t, h.nox, q⟩
theorem Fun.binds {x qual : Str} {st : Stmt} {f : Addr} {fd : FuncData} {ps : List Str} (F : Fun K x qual st f fd)
    (h : ∀ (kV doc pm : Value) (an : Option Addr) (cdv ct : Value) (us : List Value), us.length = ps.length → bindArgs (PySem.W.fnOf x qual (defArgs st) (defBody st) (defScope st) .none kV doc pm an cdv ct) ⟨us, []⟩ = pure (ps.zip us)) : Binds K fd ps [] := by
  obtain ⟨oc, od, kV, doc, pm, an, cdv, ct, osl, rfl, lk, hcd⟩ := F.ex
  exact .all (h kV doc pm an cdv ct)
theorem fun_mk {x qual : Str} {st : Stmt} {f : Addr} {oc : Value} {od an : Option Addr} {osl : Array (Option Value)} {kV doc pm cdv ct : Value} (l : K.lookup f = some ⟨oc, od, .func (PySem.W.fnOf x qual (defArgs st) (defBody st) (defScope st) .none kV doc pm an cdv ct), osl⟩)
    (c : PySem.W.codeIn K cdv qual = true) (k : PySem.W.keepIn K (.ref f) = true) : Fun K x qual st f (PySem.W.fnOf x qual (defArgs st) (defBody st) (defScope st) .none kV doc pm an cdv ct) := ⟨⟨oc, od, kV, doc, pm, an, cdv, ct, osl, rfl, l, c⟩, k⟩
end
theorem small1000 {n : Nat} (h : n ≤ 1000) : n < sizeLine := Nat.lt_of_le_of_lt h (by decide)
section
variable {X : Cx}
theorem pv (i : Nat) {x : Str} {pos : Pos} (hN : X.N[i]? = some x := by rfl) (hv : Vis X.env.scope x := by first | exact Or.inl rfl | exact Or.inr (Or.inl rfl) | exact Or.inr (Or.inr rfl)) (hd : (x == ("__debug__" : Str)) = false := by decide)
    (hcd : (x == ("__classdict__" : Str)) = false := by decide) : PE X (.Name x pos) (tVar i) := pe_var hN hv hd hcd
end
theorem ite2 {c A B : Prop} [Decidable c] (h1 : c → A) (h2 : ¬ c → B) : if c then A else B := by
  by_cases h : c
  · rw [if_pos h]
    exact h1 h
  · rw [if_neg h]
    exact h2 h
def Same (H H' : Hp) : Prop := ∀ b o, H b = some o → H' b = some o
theorem Same.refl (H : Hp) : Same H H := fun _ _ h => h
theorem Same.trans {H H1 H2 : Hp} (a : Same H H1) (b : Same H1 H2) : Same H H2 := fun c o h => b c o (a c o h)
theorem Same.free {H H' : Hp} (e : Same H H') {l : Addr} (h : H' l = Option.none) : H l = Option.none := by
  cases q : H l with
  | none => rfl
  | some o =>
    rw [e l o q] at h
    cases h
theorem Same.seq {K : PySem.W.Frag} {H H' : Hp} {a : Addr} {xs : List V} (e : Same H H') (h : SqL K H a xs) : SqL K H' a xs := by
  rcases h with (h | ⟨o, h⟩) | h
  · exact .inl (.inl (e _ _ h))
  · exact .inl (.inr ⟨o, e _ _ h⟩)
  · exact .inr h
end L2
set_option Elab.async false
set_option linter.all false
set_option maxRecDepth 100000
set_option maxHeartbeats 1000000
namespace L2
open PySem PySem.Spec PyProof.Rows
theorem compLoop_any {Ex : Value → Shared → Prop} {prog : Program} {w : World} {A : Around} {R : Result → Shared → Prop} {s : Shared} {elt target iter : Expr} {ifs : List Expr} {scope : Scope} {pos : Pos} {it acc : Value} {env : Env} (I : Nat → Shared → Prop)
    (turn : ∀ n s, I n s → wpAny (model prog w) A (pyNext it) (fun r s₁ => match r with
      | none => R (.ok .next) s₁
      | some v => wpAny (model prog w) A (letOwnedTupleGo target it v) (fun _ s₁' => wpAny (model prog w) A (assign target env v) (fun _ s₂ =>
          wpAny (model prog w) A (forIn ifs true fun c r => if r = true then do let ok ← isTrue c env (eval c env); pure (ForInStep.yield ok) else pure (ForInStep.yield r)) (fun ok s₃ =>
            if ok = true then wpAny (model prog w) A (eval elt env) (fun x s₄ =>
              wpAny (model prog w) A (call (.builtin "list.append") [acc, x]) (fun _ s₅ => ∃ m, m < n ∧ I m s₅) Ex s₄) Ex s₃
            else ∃ m, m < n ∧ I m s₃) Ex s₂) Ex s₁') Ex s₁) Ex s)
    (n : Nat) (h : I n s) (hE : ∀ e s', Ex e s' → notedBy (model prog w) A env (fun e s'' => R (.error e) s'') e s') :
    codeAny (model prog w) A (.compLoop (.ListComp elt [⟨target, iter, ifs, 0⟩] scope pos) 0 it acc env) R s := by
  refine codeAny_loop rfl I (fun n s hI => ?_) n h
  show wpAny _ A ((compTurn (.ListComp elt [⟨target, iter, ifs, 0⟩] scope pos) 0 it acc env).onRaise (fun x => do noteFrame x env; theTreesLotGoes x)) _ _ s
  refine wpAny_noted ?_
  rw [compTurn_list]
  refine wpAny_bind (wpAny_standAt (wpAny_bind (wpAny_mono (turn n s hI) (fun r s₁ h₁ => ?_) fun _ _ h' => hE _ _ h')))
  cases r with
  | none => exact wpAny_pure h₁
  | some v =>
    refine wpAny_bind (wpAny_mono h₁ (fun _ s₁' h₁' => ?_) fun _ _ h' => hE _ _ h')
    refine wpAny_bind (wpAny_mono h₁' (fun _ s₂ h₂ => wpAny_bind (wpAny_mono h₂ (fun ok s₃ h₃ => ?_) fun _ _ h' => hE _ _ h')) fun _ _ h' => hE _ _ h')
    cases ok with
    | false => exact wpAny_pure ⟨rfl, h₃⟩
    | true =>
      exact wpAny_bind (wpAny_bind (wpAny_mono h₃ (fun x s₄ h₄ => wpAny_bind (wpAny_mono h₄ (fun _ s₅ h₅ => wpAny_pure (wpAny_pure ⟨rfl, h₅⟩)) fun _ _ h' => hE _ _ h')) fun _ _ h' => hE _ _ h'))
def compCxE (X : Cx) (Ex : Value → Shared → Prop) (N' : List Str) (scope : Scope) (cl : List (Str × Addr)) (C : Addr) (s₂ : Shared) (H₂ : Hp) (fp : List Addr) : Cx :=
  { X with N := N', s₀ := s₂, H₀ := H₂, env := compEnvC scope cl C X.env, outer := X.stack, stack := X.stack, ex := fp, fn := fun _ => false, pn := [], xe := Ex }
abbrev compCx (X : Cx) := compCxE X fun _ _ => False
def AllIn (env : Env) : List (Str × Addr) → Prop
  | [] => True
  | p :: r => env.cells.lookup p.1 = some p.2 ∧ AllIn env r
theorem AllIn.get {env : Env} : ∀ {l : List (Str × Addr)}, AllIn env l → ∀ y c, l.lookup y = some c → env.cells.lookup y = some c
  | [], _, _, _, h => by simp at h
  | (z, d) :: r, a, y, c, h => by
    rw [List.lookup_cons] at h
    cases e : y == z with
    | true =>
      rw [e] at h
      have q : y = z := by simpa using e
      subst q
      cases h
      exact a.1
    | false =>
      rw [e] at h
      exact AllIn.get a.2 y c h
def inSt (js : List (Option Nat)) (σ : St) : St := js.map fun o => match o with | none => none | some j => (σ[j]?).join
structure CompOk (X : Cx) (N' : List Str) (js : List (Option Nat)) (scope : Scope) (cl : List (Str × Addr)) : Prop where
  clos : closureFor scope X.env = pure cl
  kind : scope.kind = .function
  nocell : ∀ y ∈ scope.names, y.2 ≠ .cell
  names : ∀ y ∈ scope.names, y.2 = .local → scope.names.lookup y.1 = some .local
  sub : AllIn X.env cl
  has : ∀ y ∈ scope.names, y.2 = .free → (cl.lookup y.1).isSome = true
  jlen : js.length = N'.length
  jok : ∀ (i j : Nat) x, js[i]? = some (some j) → N'[i]? = some x → X.N[j]? = some x ∧ (cl.lookup x).isSome = true ∧ Vis X.env.scope x ∧ X.env.kindOf x ≠ some .local ∧ ((relabel scope X.env).names.lookup x = some .cell ∨ (relabel scope X.env).names.lookup x = some .free)
theorem mem_relabel {scope : Scope} {env : Env} {x : Str} {k : NameKind} (hn : ∀ y ∈ scope.names, y.2 ≠ .cell) (h : (relabel scope env).names.lookup x = some k) (hk : k = .cell ∨ k = .free) : ∃ y ∈ scope.names, y.1 = x ∧ y.2 = .free := by
  have hm := PySem.mem_of_lookup h
  obtain ⟨⟨n, q⟩, hm', e⟩ := List.mem_map.mp hm
  dsimp only at e
  split at e
  · rename_i hc
    have e1 : n = x := congrArg Prod.fst e
    refine ⟨(n, q), hm', e1, ?_⟩
    have : (q == NameKind.free) = true := by
      simp only [Bool.and_eq_true] at hc
      exact hc.1.1
    simpa using this
  · have e1 : n = x := congrArg Prod.fst e
    have e2 : q = k := congrArg Prod.snd e
    refine ⟨(n, q), hm', e1, ?_⟩
    rcases hk with hk | hk
    · exact absurd (e2.trans hk) (hn _ hm')
    · exact e2.trans hk
def lobj (ys : List Value) : Obj := { cls := .type "list", data := .seq ys.toArray ys.length }
def PIfs (X : Cx) (ifs : List Expr) (t : TT) : Prop :=
  ∀ (pins : List (Addr × Obj)) (s : Shared) (σ : St) (H : Hp) (Q : Bool → Hp → Prop), Inv X pins σ H s → t σ H Q →
    wpAny (model X.prog X.w) X.A (forIn ifs true fun c r => if r = true then do let ok ← isTrue c X.env (eval c X.env); pure (ForInStep.yield ok) else pure (ForInStep.yield r)) (TP X pins σ Q) X.xe s
def tNoIf : TT := fun _ H Q => Q true H
theorem pifs_nil {X : Cx} : PIfs X [] tNoIf := fun pins s σ H Q I h => wpAny_tests_nil ⟨H, I, h⟩
def KeepsS : List (Option V) → List (Option V) → Prop
  | [], [] => True
  | none :: r, _ :: r' => KeepsS r r'
  | some v :: r, some u :: r' => u = v ∧ KeepsS r r'
  | _, _ => False
theorem KeepsS.len : ∀ {a b : List (Option V)}, KeepsS a b → a.length = b.length
  | [], [], _ => rfl
  | none :: r, _ :: r', h => by simp [KeepsS.len (a := r) (b := r') h]
  | some v :: r, some u :: r', h => by simp [KeepsS.len (a := r) (b := r') h.2]
  | some v :: r, none :: r', h => h.elim
  | some v :: r, [], h => h.elim
  | none :: r, [], h => h.elim
  | [], _ :: _, h => h.elim
theorem KeepsS.get : ∀ {a b : List (Option V)}, KeepsS a b → ∀ (i : Nat) v, a[i]? = some (some v) → b[i]? = some (some v)
  | [], [], _, i, v, h => by simp at h
  | none :: r, _ :: r', h, 0, v, e => by simp at e
  | none :: r, _ :: r', h, i + 1, v, e => by
    have := KeepsS.get (a := r) (b := r') h i v (by simpa using e)
    simpa using this
  | some v :: r, some u :: r', h, 0, v', e => by
    have q : v = v' := by simpa using e
    have := h.1
    simp [this, q]
  | some v :: r, some u :: r', h, i + 1, v', e => by
    have := KeepsS.get (a := r) (b := r') h.2 i v' (by simpa using e)
    simpa using this
  | some v :: r, none :: r', h, _, _, _ => h.elim
  | some v :: r, [], h, _, _, _ => h.elim
  | none :: r, [], h, _, _, _ => h.elim
  | [], _ :: _, h, _, _, _ => h.elim
def tLC (js : List (Option Nat)) (wi : TI) (g : TG) (tt : TT) (te : TE) : TE := fun σ H Q => wi σ H fun J H1 => ∃ W : Nat → Nat → List V → Hp → Prop, (∃ m, W 0 m [] H1) ∧ ∀ i m ys H, W i m ys H →
  (J.stop i H ∧ ys.length ≤ sizeLine ∧ ∀ p, H p = none → Q (.ref p) (upd H p (.lst ys))) ∨
  (J.go i H ∧ ys.length < sizeLine ∧ ∃ N : List V → Hp → Prop, (∀ ys' H', N ys' H' → ∃ m', m' < m ∧ W (i + 1) m' ys' H') ∧
    ∀ x H', J.yld i H x H' → g x (inSt js σ) H' fun σ2 H2 => KeepsS (inSt js σ) σ2 ∧ tt σ2 H2 fun b H3 => if b = true then te σ2 H3 fun v H4 => N (ys ++ [v]) H4 else N ys H3)
structure LcOk (X : Cx) (C : Addr) (s₂ : Shared) (H₂ : Hp) (fp : List Addr) : Prop where
  inv : ∃ pins σ, Inv X pins σ H₂ s₂
  new : ∀ b ∈ fp, X.s₀.heap.objs.size ≤ b ∨ b ∈ X.ex
  nof : ∀ b ∈ frs X.stack, b ∉ fp
  le : s₂.heap.objs.size ≤ C
theorem lc_core {X : Cx} {Ex : Addr → Shared → Hp → List Addr → Value → Shared → Prop} {elt target iter : Expr} {ifs : List Expr} {scope : Scope} {pos : Pos} {N' : List Str} {js : List (Option Nat)} {cl : List (Str × Addr)} {g : TG} {tt : TT} {te : TE} (hcalm : X.calm = true)
    (K : CompOk X N' js scope cl)
    (hg : ∀ C s₂ H₂ fp, LcOk X C s₂ H₂ fp → PG (compCxE X (Ex C s₂ H₂ fp) N' scope cl C s₂ H₂ fp) target g) (ht : ∀ C s₂ H₂ fp, LcOk X C s₂ H₂ fp → PIfs (compCxE X (Ex C s₂ H₂ fp) N' scope cl C s₂ H₂ fp) ifs tt) (he : ∀ C s₂ H₂ fp, LcOk X C s₂ H₂ fp → PE (compCxE X (Ex C s₂ H₂ fp) N' scope cl C s₂ H₂ fp) elt te)
    (herr : ∀ C s₂ H₂ fp use Q' acc e s', Ex C s₂ H₂ fp e s' → notedBy (model X.prog X.w) X.A (compEnvC scope cl C X.env) (fun e s'' => compPost (model X.prog X.w) X.A X.xe use Q' acc C (.error e) s'') e s')
    {pins : List (Addr × Obj)} {σ : St} {Q : VK} {use : Option (Value → Sem Unit)} {Q' : Value → Shared → Prop} {itv : Value} {s2 : Shared}
    (h2 : PIE X pins σ target (fun J H1 => ∃ W : Nat → Nat → List V → Hp → Prop, (∃ m, W 0 m [] H1) ∧ ∀ i m ys H, W i m ys H →
  (J.stop i H ∧ ys.length ≤ sizeLine ∧ ∀ p, H p = none → Q (.ref p) (upd H p (.lst ys))) ∨
  (J.go i H ∧ ys.length < sizeLine ∧ ∃ N : List V → Hp → Prop, (∀ ys' H', N ys' H' → ∃ m', m' < m ∧ W (i + 1) m' ys' H') ∧
    ∀ x H', J.yld i H x H' → g x (inSt js σ) H' fun σ2 H2 => KeepsS (inSt js σ) σ2 ∧ tt σ2 H2 fun b H3 => if b = true then te σ2 H3 fun v H4 => N (ys ++ [v]) H4 else N ys H3)) itv s2)
    (hok : ∀ C D vys H4 s5, (∃ m, s5.heap.Ns C m) → s2.heap.objs.size ≤ D → D ≤ C → D ≠ C → H4 D = none → H4 C = none → (∀ h', Heap.SameBut C s5.heap h' → Inv X pins σ (upd H4 D (.lst vys)) { s5 with heap := h' }) → Q (.ref D) (upd H4 D (.lst vys)) → compPost (model X.prog X.w) X.A X.xe use Q' (.ref D) C (.ok .next) s5) :
    wpAny (model X.prog X.w) X.A (newList []) (fun acc s₃ => wpAny (model X.prog X.w) X.A (newFunctionEnv scope X.env.globals cl [] X.env.qual none .none (some X.env)) (fun cenv s₄ =>
      codeAny (model X.prog X.w) X.A (.compStart (.ListComp elt [⟨target, iter, ifs, 0⟩] scope pos) 0 itv acc { cenv with scope := relabel scope X.env }) (compPost (model X.prog X.w) X.A X.xe use Q' acc cenv.locals) s₄) X.xe s₃) X.xe s2 := by
  obtain ⟨it, fp, tn, J, H2, e, I2, T, st2, f2, W, ⟨m0, w0⟩, turn⟩ := h2
  subst e
  refine wpAny_newObj_type (wpAny_newFunctionEnv K.nocell (by intro y hy; simp at hy) (fun h₁ hns₁ hsb₁ => ?_) K.kind)
  dsimp only at hns₁ hsb₁ ⊢
  generalize hP2 : s2.heap.push { cls := .type "list", dict := none, data := .seq ([] : List Value).toArray } = P2 at hns₁ hsb₁ ⊢
  have hC : P2.objs.size = s2.heap.objs.size + 1 := by rw [← hP2, Heap.size_push]
  have hDC : s2.heap.objs.size ≠ P2.objs.size := by rw [hC]; exact Nat.ne_of_lt (Nat.lt_succ_self _)
  have below : ∀ b, b < s2.heap.objs.size → b ≠ P2.objs.size ∧ b ≠ s2.heap.objs.size := fun b hb => ⟨by rw [hC]; exact Nat.ne_of_lt (Nat.lt_succ_of_lt hb), Nat.ne_of_lt hb⟩
  have old : ∀ b o, s2.heap.get? b = some o → h₁.get? b = some o := fun b o e => hsb₁.extBut b o (below b (Heap.lt_size e)).1 (Heap.get?_push_of_some _ (hP2 ▸ Heap.get?_push_of_some _ e))
  have hacc : h₁.get? s2.heap.objs.size = some (lobj []) := hsb₁.extBut _ _ hDC (Heap.get?_push_of_some _ (hP2 ▸ Heap.get?_push_size _ rfl))
  generalize hCe : P2.objs.size = C at *
  generalize hDe : s2.heap.objs.size = D at *
  let Y : Cx := compCxE X (Ex C s2 H2 fp) N' scope cl C s2 H2 fp
  have cellsX : ∀ y c, Y.env.cells.lookup y = some c → X.env.cells.lookup y = some c := K.sub.get
  have cellLt : ∀ y c, Y.env.cells.lookup y = some c → c < D := fun y c e => by
    obtain ⟨v, q⟩ := I2.cell y c (cellsX y c e)
    rw [← hDe]
    exact q.lt
  have freshH : ∀ a, D ≤ a → H2 a = none := fun a ha => I2.hok.fresh (by rw [hDe]; exact ha)
  have hDleC : D ≤ C := by rw [hC]; exact Nat.le_succ _
  have lc : LcOk X C s2 H2 fp := ⟨⟨pins, σ, I2⟩, fun b hb => ((f2 b hb).2.2.2.1).symm, fun b hf hb => by
      rcases List.mem_cons.mp (I2.stkSub b hf) with z | z
      · exact (f2 b hb).2.1 z
      · exact (f2 b hb).2.2.1 z, by rw [hDe]; exact hDleC⟩
  have hbelowfp : ∀ b ∈ fp, b < D := fun b hb => by
    obtain ⟨o, e, _⟩ := T.obj _ _ st2 b hb
    rw [← hDe]
    exact Heap.lt_size e
  have okY : Y.Ok := by
    refine ⟨I2.ok.mod, K.kind, I2.ok.glob, I2.ok.blt, ?_, fun x y c e1 e2 => I2.ok.inj x y c (cellsX x c e1) (cellsX y c e2), fun x hx => ?_, fun x c hf _ => ?_, I2.ok.hd, I2.ok.frames, .inl rfl, fun b hb => ?_, I2.bs, Nat.le_trans I2.ok.bsz I2.sz, fun b o e hb => ?_, fun b hb hf => ?_, I2.stack, I2.stkFree⟩
    · show s2.heap.objs.size ≤ C
      rw [hDe]; exact hDleC
    · have hx' : (relabel scope X.env).names.lookup x = some .cell ∨ (relabel scope X.env).names.lookup x = some .free := hx
      have : ∃ y ∈ scope.names, y.1 = x ∧ y.2 = .free := by
        rcases hx' with q | q
        · exact mem_relabel K.nocell q (.inl rfl)
        · exact mem_relabel K.nocell q (.inr rfl)
      obtain ⟨y, hm, e1, e2⟩ := this
      have q := K.has y hm e2
      rw [e1] at q
      exact Option.isSome_iff_exists.mp q
    · exact absurd (show false = true from hf) (by decide)
    · exact ⟨Nat.ne_of_lt (Nat.lt_of_lt_of_le (hbelowfp b hb) hDleC), fun x c e => (f2 b hb).2.2.2.2.1 x c (cellsX x c e)⟩
    · rcases (f2 b hb).2.2.2.1 with z | z
      · exact I2.ok.noex b o e z
      · exact absurd (Nat.lt_of_lt_of_le (Heap.lt_size e) (Nat.le_trans I2.ok.bsz z)) (Nat.lt_irrefl _)
    · rcases List.mem_cons.mp (I2.stkSub b hf) with z | z
      · exact (f2 b hb).2.1 z
      · exact (f2 b hb).2.2.1 z
  -- the block's names
  have locY : ∀ {s' : Shared} {H' : Hp} {σ' : St}, True := fun {_ _ _} => trivial
  have invY0 : Inv Y [(D, lobj [])] (inSt js σ) H2 { s2 with heap := h₁, toks := s2.toks + ([] : List (Str × Value)).length } := by
    refine ⟨okY, rfl, I2.bare, Un.kept old, ⟨_, hns₁, fun i x v e1 e2 vis => ?_⟩, fun y c e => ?_, freshH C hDleC, fun y c e => I2.freeC y c (cellsX y c e), fun p hp => ?_, I2.hok.kept old, ?_⟩
    · -- a name of the block that has a value stands outside in a cell
      have e2' : (inSt js σ)[i]? = some (some v) := e2
      unfold inSt at e2'
      rw [List.getElem?_map] at e2'
      cases ej : js[i]? with
      | none => rw [ej] at e2'; cases e2'
      | some o =>
        rw [ej] at e2'
        cases o with
        | none => cases e2'
        | some j =>
          obtain ⟨n1, n2, n3, n4, n5⟩ := K.jok i j x ej e1
          have e3 : (σ[j]?).join = some v := by simpa using e2'
          have e4 : σ[j]? = some (some v) := by
            cases q : σ[j]? with
            | none => rw [q] at e3; cases e3
            | some z => rw [q] at e3; simpa using e3
          obtain ⟨m, hn, hl⟩ := I2.loc
          obtain ⟨u, r, l⟩ := hl j x v n1 e4 n3
          refine ⟨u, r, .inr ⟨n5, ?_⟩⟩
          rcases l with ⟨k, _⟩ | ⟨k, c, ec, z⟩
          · exact absurd k n4
          · obtain ⟨c', ec'⟩ := Option.isSome_iff_exists.mp n2
            have ee := cellsX x c' ec'
            rw [ec] at ee
            cases ee
            refine ⟨c, ec', ?_⟩
            obtain ⟨o, ho, hd⟩ := z
            exact ⟨o, old c o ho, hd⟩
    · obtain ⟨v, o, ho, hd⟩ := I2.cell y c (cellsX y c e)
      exact ⟨v, o, old c o ho, hd⟩
    · have hp' : p ∈ [(D, lobj [])] := hp
      have e : p = (D, lobj []) := by simpa using hp'
      subst e
      refine ⟨hacc, freshH D (Nat.le_refl _), hDC, fun z => ?_, fun v z => by cases z⟩
      rcases List.mem_cons.mp (I2.stkSub D z) with q | q
      · exact absurd (q ▸ I2.lt) (by rw [hDe]; exact Nat.lt_irrefl _)
      · exact I2.nofs (by rw [hDe]; exact Nat.le_refl _) q
    · show (inSt js σ).length = N'.length
      unfold inSt
      rw [List.length_map]
      exact K.jlen
  have hDfs : D ∉ Y.fs := fun z => by
    rcases List.mem_cons.mp (I2.stkSub D z) with q | q
    · exact absurd (q ▸ I2.lt) (by rw [hDe]; exact Nat.lt_irrefl _)
    · exact I2.nofs (by rw [hDe]; exact Nat.le_refl _) q
  have stat : ∀ {H' : Hp} {ys : List Value}, (∀ b ∈ fp, H' b = none) → ∀ b ∈ fp, FpOk Y [(D, lobj ys)] H' b := fun {H' ys} hn b hb => by
    refine ⟨hn b hb, Nat.ne_of_lt (Nat.lt_of_lt_of_le (hbelowfp b hb) hDleC), okY.exfs b hb, .inl hb, fun x c e => (f2 b hb).2.2.2.2.1 x c (cellsX x c e), fun p hp => ?_⟩
    have hp' : p ∈ [(D, lobj ys)] := hp
    have e : p = (D, lobj ys) := by simpa using hp'
    subst e
    exact Nat.ne_of_gt (hbelowfp b hb)
  have loop : ∀ s3 : Shared, s3 = { s2 with heap := h₁, toks := s2.toks + ([] : List (Str × Value)).length } →
      codeAny (model X.prog X.w) X.A (.compLoop (.ListComp elt [⟨target, iter, ifs, 0⟩] scope pos) 0 (.ref it) (.ref D) (compEnvC scope cl C X.env)) (compPost (model X.prog X.w) X.A X.xe use Q' (.ref D) C) s3 := by
    rintro s3 rfl
    refine compLoop_any (fun n s' => ∃ i ys vys H', Inv Y [(D, lobj ys)] (inSt js σ) H' s' ∧ tn i s'.heap ∧ (∀ b ∈ fp, H' b = none) ∧ Vals vys ys ∧ W i n vys H') ?_ m0
      ⟨0, [], [], H2, invY0, T.keep _ _ _ st2 fun b _ o e => old b o e, fun b hb => (f2 b hb).1, .nil, w0⟩ fun e s' z => herr C s2 H2 fp use Q' (.ref D) e s' z
    rintro n s4 ⟨i, ys, vys, H4, I4, st4, fr4, rv, w4⟩
    rcases turn i n vys H4 w4 with ⟨stop, hz, qn⟩ | ⟨go, hz, Nn, hN, step⟩
    · refine thn (T.done Y rfl rfl rfl hcalm i _ s4 _ H4 (Ex C s2 H2 fp) I4 (stat fr4) st4 stop) fun r s5 ⟨hr, I5⟩ => ?_
      subst hr
      obtain ⟨m5, hn5, _⟩ := I5.loc
      obtain ⟨pD, nD, _, _, _⟩ := I5.pin (D, lobj ys) (by show _ ∈ [(D, lobj ys)]; simp)
      have nC : H4 C = none := I5.free
      refine hok C D vys H4 s5 ⟨m5, hn5⟩ (Nat.le_refl _) hDleC hDC nD nC (fun h' hsb => ?_) (qn D nD)
      have pD' : h'.get? D = some (lobj ys) := hsb.extBut _ _ hDC pD
      refine I2.call' (s' := { s5 with heap := h' }) (ch := fp) I5.os ?_ ?_ I5.bare (fun b hb => ?_)
      · -- kept
        have u := I5.base
        have neC : ∀ b o, s2.heap.get? b = some o → b ≠ C ∧ b ≠ D := fun b o e => by
          have := Heap.lt_size e
          rw [hDe] at this
          exact ⟨Nat.ne_of_lt (Nat.lt_of_lt_of_le this hDleC), Nat.ne_of_lt this⟩
        refine ⟨fun b o e nn hb hx => hsb.extBut b o (neC b o e).1 (u.keep b o e nn hb hx), fun b o e nn hb hx => ?_, fun b o e nn hx => ?_, fun b o e hx => ?_, fun b xs e => ?_, fun b o xs e => ?_, fun b ps e => ?_⟩
        · obtain ⟨sl, q⟩ := u.slot b o e nn hb hx
          exact ⟨sl, hsb.extBut b _ (neC b o e).1 q⟩
        · rw [upd_ne (neC b o e).2]
          exact u.free b o e nn hx
        · obtain ⟨o', q⟩ := u.there b o e hx
          exact ⟨o', hsb.extBut b _ (neC b o e).1 q⟩
        · rw [upd_ne (ne_of_none (u.tups b xs e) nD)]
          exact u.tups b xs e
        · rw [upd_ne (ne_of_none (u.frzs b o xs e) nD)]
          exact u.frzs b o xs e
        · obtain ⟨more, q⟩ := u.tbls b ps e
          exact ⟨more, by rw [upd_ne (ne_of_none q nD)]; exact q⟩
      · intro b o e
        by_cases hb : b = D
        · subst hb
          rw [upd_same] at e
          cases e
          exact ⟨hz, ys, _, rv, pD'⟩
        · rw [upd_ne hb] at e
          refine (I5.hok b o e).stay (fun c w' hc q => hsb.extBut c w' ?_ q) (fun c q => by rw [upd_ne (ne_of_none q nD)]; exact q) fun c xs q => by rw [upd_ne (ne_of_none q nD)]; exact q
          rintro rfl
          rcases hc with rfl | hc
          · rw [nC] at e; cases e
          · rw [nC] at hc; cases hc
      · exact ⟨(f2 b hb).2.2.2.1, (f2 b hb).2.1, (f2 b hb).2.2.2.2.1, (f2 b hb).2.2.2.2.2⟩
    · refine thn (T.item Y rfl rfl rfl hcalm i _ s4 _ H4 (Ex C s2 H2 fp) I4 (stat fr4) st4 go) fun r s5 ⟨u, hr, h5⟩ => ?_
      subst hr
      refine thn h5 fun _ s6 ⟨x, H6, I6, r6, y6, st6, fr6⟩ => ?_
      have I6' := I6.pinned (stat fr6) (T.obj _ _ st6)
      refine thn (hg C s2 H2 fp lc _ s6 _ H6 x u _ I6' r6 (step x H6 y6)) fun _ s7 ⟨σ7, H7, I7, k7, q7⟩ => ?_
      refine thn (ht C s2 H2 fp lc _ s7 σ7 H7 _ I7 q7) fun b s8 ⟨H8, I8, q8⟩ => ?_
      -- behind the tests and the element: the state goes back to what the next turn wants
      have again : ∀ {s9 : Shared} {H9 : Hp}, Inv Y ([(D, lobj ys)] ++ pinsAt fp s6.heap) σ7 H9 s9 → Inv Y [(D, lobj ys)] (inSt js σ) H9 s9 ∧ tn (i + 1) s9.heap ∧ ∀ b ∈ fp, H9 b = none := fun {s9 H9} I9 => by
        refine ⟨(I9.unpinned).weak k7.len k7.get, T.keep _ _ _ st6 fun b hb o e => (I9.pin (b, o) (List.mem_append_right _ (List.mem_append_right _ (mem_pinsAt hb e)))).1, fun b hb => ?_⟩
        obtain ⟨o, e, d⟩ := T.obj _ _ st6 b hb
        exact (I9.pin (b, o) (List.mem_append_right _ (List.mem_append_right _ (mem_pinsAt hb e)))).2.1
      cases b with
      | false =>
        rw [if_neg Bool.false_ne_true] at q8 ⊢
        obtain ⟨m', hm, w8⟩ := hN _ _ q8
        obtain ⟨J8, t8, f8⟩ := again I8
        exact ⟨m', hm, i + 1, ys, vys, H8, J8, t8, f8, rv, w8⟩
      | true =>
        rw [if_pos rfl] at q8 ⊢
        refine thn (he C s2 H2 fp lc _ s8 σ7 H8 _ I8 q8) fun y s9 ⟨vy, H9, I9, r9, q9⟩ => ?_
        obtain ⟨J9, t9, f9⟩ := again I9
        obtain ⟨pD, nD, neD, nfD, _⟩ := J9.pin (D, lobj ys) (by show _ ∈ [(D, lobj ys)]; simp)
        have zl : ys.length < sizeLine := by rw [← rv.length]; exact hz
        refine append_at (hsz := by show ys.toArray.size ≤ sizeLine; rw [List.size_toArray]; exact Nat.le_of_lt zl) (show s9.heap.get? D = some { cls := .type "list", data := .seq ys.toArray ys.length } from pD) fun h' hsb hD' => ?_
        obtain ⟨m', hm, w9⟩ := hN _ _ q9
        have eD : h'.get? D = some (lobj (ys ++ [y])) := by
          rw [hD']
          unfold lobj
          rw [List.length_append, List.length_singleton, List.push_toArray]
        have J10 : Inv Y [] (inSt js σ) H9 s9 := J9.pins_of fun p hp => absurd hp (by simp)
        have J11 : Inv Y [] (inSt js σ) H9 { s9 with heap := h' } := J10.turned (t' := s9.toks) (it := D) (fun b o hb e => hsb.extBut b o hb e) nD neD (.inr (by show s2.heap.objs.size ≤ D; rw [hDe]; exact Nat.le_refl _))
          (fun x c e => Nat.ne_of_lt (cellLt x c e)) fun p hp => absurd (show p ∈ ([] : List (Addr × Obj)) from hp) (by simp)
        have J12 : Inv Y [(D, lobj (ys ++ [y]))] (inSt js σ) H9 { s9 with heap := h' } := J11.pins_of fun p hp => by
          have e : p = (D, lobj (ys ++ [y])) := by simpa using hp
          subst e
          exact ⟨eD, nD, neD, nfD, fun v z => by cases z⟩
        have hDf : D ∉ fp := fun z => Nat.lt_irrefl _ (hbelowfp D z)
        exact ⟨m', hm, i + 1, ys ++ [y], vys ++ [vy], H9, J12, T.keep _ _ _ t9 fun b hb o e => hsb.extBut b o (fun z => hDf (z ▸ hb)) e, f9, rv.append (.cons r9 .nil), w9⟩
  exact codeAny_compStart_list (loop _ rfl) (T.self _ 0 _ _ _ (T.keep _ _ _ st2 fun b _ o e => old b o e) (loop _ rfl))
theorem pe_lc {X : Cx} {elt target iter : Expr} {ifs : List Expr} {scope : Scope} {pos : Pos} {N' : List Str} {js : List (Option Nat)} {cl : List (Str × Addr)} {wi : TI} {g : TG} {tt : TT} {te : TE} (hcalm : X.calm = true)
    (K : CompOk X N' js scope cl) (hi : PI X target iter wi)
    (hg : ∀ C s₂ H₂ fp, PG (compCx X N' scope cl C s₂ H₂ fp) target g) (ht : ∀ C s₂ H₂ fp, PIfs (compCx X N' scope cl C s₂ H₂ fp) ifs tt) (he : ∀ C s₂ H₂ fp, PE (compCx X N' scope cl C s₂ H₂ fp) elt te)
    (hs : ∀ x, foldedSetIterable iter X.env x = pure x := by intro _; rfl) : PE X (.ListComp elt [⟨target, iter, ifs, 0⟩] scope pos) (tLC js wi g tt te) := by
  intro pins s σ H Q I h
  rw [eval_ListComp]
  refine wpAny_comprehension_free (use := none) rfl hs K.clos K.kind K.names (thn (hi pins s σ H _ I h) fun v s1 h1 => thn h1 fun itv s2 h2 => ?_)
  exact lc_core (Ex := fun _ _ _ _ _ _ => False) hcalm K (fun C s H f _ => hg C s H f) (fun C s H f _ => ht C s H f) (fun C s H f _ => he C s H f) (fun _ _ _ _ _ _ _ _ _ z => z.elim) h2 fun C D vys H4 s5 ⟨m, hn⟩ _ _ _ _ _ hI q => ⟨m, hn, fun h' hsb => ⟨.ref D, _, hI h' hsb, rfl, q⟩⟩
end L2
set_option Elab.async false
set_option linter.all false
set_option maxRecDepth 100000
set_option maxHeartbeats 1000000
namespace L2
open PySem PySem.Spec PyProof.Rows
def Bd (i : Int) : Prop := i.natAbs < 2 ^ 4000
theorem big_lt : (10 : Nat) ^ 250 ≤ 2 ^ 4000 := by decide +kernel
theorem Bd.of {i : Int} (h1 : -(10 ^ 250) < i) (h2 : i < 10 ^ 250) : Bd i := by
  refine Nat.lt_of_lt_of_le ?_ big_lt
  have : ((10 : Nat) ^ 250 : Nat) = ((10 : Int) ^ 250).toNat := by decide +kernel
  rw [this]
  omega
theorem Bd.mono {i j : Int} (h : Bd j) (h' : i.natAbs ≤ j.natAbs) : Bd i := Nat.lt_of_le_of_lt h' h
theorem Bd.bits {i : Int} (h : Bd i) : Builtin.Int.intBits i ≤ 2 ^ 20 :=
  Nat.le_trans (intBits_le h) (by decide)
theorem Bd.pyl {i j : Int} (h : Bd j) : Builtin.divisionGoesByPylong i j = false := by
  refine PyProof.noPylong_of_log2 ?_
  by_cases z : j.natAbs = 0
  · rw [z]; decide
  · exact Nat.lt_of_lt_of_le ((Nat.log2_lt z).mpr h) (by decide)
section
variable {X : Cx}
theorem op_mulB : OpR X (binaryOp .Mult) (rI (fun i j => Bd i ∧ Bd j) fun i j => .int (i * j)) := opI fun _ _ _ _ _ _ _ hc q => mul_int q (IntMulOk.of_bits hc.1.bits hc.2.bits)
theorem op_divB : OpR X (binaryOp .FloorDiv) (rI (fun _ j => 0 < j ∧ Bd j) fun i j => .int (i / j)) := opI fun i j _ _ _ _ _ hc q => by
  have h1 : (0 : Int) < j := hc.1
  exact floordiv_int (by omega) (by rw [Int.fdiv_eq_ediv_of_nonneg i (by omega)]; exact q) (.inl hc.2.pyl)
theorem iop_divB : OpR X (inplaceOp .FloorDiv) (rI (fun _ j => 0 < j ∧ Bd j) fun i j => .int (i / j)) := opI fun i j _ _ _ _ _ hc q => by
  have h1 : (0 : Int) < j := hc.1
  exact ifloordiv_int (by omega) (by rw [Int.fdiv_eq_ediv_of_nonneg i (by omega)]; exact q) (.inl hc.2.pyl)
theorem ip_of {op : Operator} {r : R2} (ho : OpR X (inplaceOp op) r) : PIp X op r := fun pins s σ H x y v u Q I r1 r2 h => ho pins s σ H x y v u Q I r1 r2 h
def tPar3 (i j k : Nat) (ta : TA) : TS := fun D σ H => ta σ H fun vs H1 => ∃ v w u, vs = [v, w, u] ∧ D.nx (((σ.set i (some v)).set j (some w)).set k (some u)) H1
theorem ps_par3 {i j k : Nat} {x y z : Str} {a b c : Expr} {ta : TA} {px py pz pt pos : Pos} {kt k2 pt2} (hc : X.calm = true) (hN : X.N.Nodup) (hi : X.N[i]? = some x) (hj : X.N[j]? = some y) (hk : X.N[k]? = some z) (hij : i ≠ j) (hik : i ≠ k) (hjk : j ≠ k)
    (hx : X.env.scope.names.lookup x = some .local) (hy : X.env.scope.names.lookup y = some .local) (hz : X.env.scope.names.lookup z = some .local) (ha : PA X [a, b, c] ta)
    (hw : swappedStores [.Tuple [.Name x px, .Name y py, .Name z pz] kt pt] (.Tuple [a, b, c] k2 pt2) X.env = pure (some [x, y, z]))
    (hs : swapsWithSole [.Tuple [.Name x px, .Name y py, .Name z pz] kt pt] (.Tuple [a, b, c] k2 pt2) pos.line X.env = pure false := by rfl) :
    PS X (.Assign [.Tuple [.Name x px, .Name y py, .Name z pz] kt pt] (.Tuple [a, b, c] k2 pt2) pos) (tPar3 i j k ta) := by
  intro pins s σ H D I h
  rw [exec_Assign_arm]
  refine wpAny_bind (wpAny_standAt ?_)
  rw [hs]
  refine wpAny_bind (wpAny_pure ?_)
  rw [if_neg (by decide)]
  refine wpAny_bind (Tuple_ (thn (ha _ pins s σ H _ I h) fun us s1 ⟨vs, H1, I1, r1, q1⟩ => ?_))
  obtain ⟨v, w, u, e1, q1⟩ := q1
  subst e1
  obtain ⟨u1, u2, u3, rfl, rv, rw', ru⟩ : ∃ u1 u2 u3, us = [u1, u2, u3] ∧ RelV v u1 ∧ RelV w u2 ∧ RelV u u3 := by
    cases r1 with
    | cons p q =>
      cases q with
      | cons p' q' =>
        cases q' with
        | cons p'' q'' =>
          cases q''
          exact ⟨_, _, _, rfl, p, p', p''⟩
  refine wpAny_newObj_type ?_ (by show 3 ≤ sizeLine; decide)
  have I2 : Inv X pins σ H1 { s1 with heap := s1.heap.push { cls := .type "tuple", data := .seq [u1, u2, u3].toArray } } := I1.kept (t' := s1.toks) fun b o e => Heap.get?_push_of_some _ e
  rw [hw]
  refine wpAny_bind (wpAny_pure ?_)
  show wpAny (model X.prog X.w) X.A (do rule "assign.swapped-stores"; let items ← unpackItems (.ref s1.heap.objs.size) 3 none; assignInOrder [fun v => bindName X.env z v, fun v => bindName X.env y v, fun v => bindName X.env x v] items.reverse; pure Flow.next) _ _ _
  refine wpAny_bind (wpAny_rule (wpAny_bind (unpackItems_tuple (items := #[u1, u2, u3]) (I.ok.hd hc) (IsTup.new s1.heap _) fun h' hx' => ?_)))
  have I3 := I2.kept (h' := h') (t' := s1.toks) fun b o e => hx' b o (Nat.ne_of_lt (Heap.lt_size e)) e
  show wpAny _ _ (assignInOrder [fun v => bindName X.env z v, fun v => bindName X.env y v, fun v => bindName X.env x v] [u3, u2, u1] >>= fun _ => pure Flow.next) _ _ _
  refine wpAny_bind (assignInOrder_cons (wpAny_bindName (store_ok I3 hN hk (.inl hz) ru (fun s2 I4 => ?_) (.inr hz))))
  refine assignInOrder_cons (wpAny_bindName (store_ok I4 hN hj (.inl hy) rw' (fun s3 I5 => ?_) (.inr hy)))
  refine assignInOrder_cons (wpAny_bindName (store_ok I5 hN hi (.inl hx) rv (fun s4 I6 => assignInOrder_nil (wpAny_pure ?_)) (.inr hx)))
  have e : ((σ.set k (some u)).set j (some w)).set i (some v) = ((σ.set i (some v)).set j (some w)).set k (some u) := by
    rw [List.set_comm _ _ (Ne.symm hij), List.set_comm _ _ (Ne.symm hik), List.set_comm _ _ (Ne.symm hjk)]
  rw [e] at I6
  exact ⟨_, H1, I6, q1⟩
def rAll (K : PySem.W.Frag) : List V → Hp → VK → Prop := fun xs H Q => ∃ (a : Addr) (bs : List Bool), xs = [.ref a] ∧ SqL K H a (bs.map V.bl) ∧ Q (.bl (bs.all id)) H
theorem call_all (hc : X.calm = true) : CallR X (.builtin "all") (rAll X.K) := by
  intro pins s σ H xs us Q I r h
  obtain ⟨a, bs, rfl, hq, q⟩ := h
  obtain ⟨u, rfl, ru⟩ := vals1 r
  cases ru
  obtain ⟨its, rv, p, hz⟩ := I.list hq
  have hl := p.isList
  have hlt : a < s.heap.objs.size := by obtain ⟨_, e, _⟩ := hl; exact Heap.lt_size e
  have hb : ∀ (i : Nat) v, its[i]? = some v → ∃ b, bs[i]? = some b ∧ v = .bool b := fun i v e => by
    have hi : i < its.length := (List.getElem?_eq_some_iff.mp e).1
    have hi2 : i < bs.length := by have := rv.length; rw [List.length_map] at this; omega
    obtain ⟨u, e1, e2⟩ := rv.get (i := i) (x := V.bl bs[i]) (by rw [List.getElem?_map, List.getElem?_eq_getElem hi2]; rfl)
    rw [e] at e1
    cases e1
    exact ⟨bs[i], List.getElem?_eq_getElem hi2, e2⟩
  have hln : its.length = bs.length := by have := rv.length; rw [List.length_map] at this; omega
  refine call_all_walk (wpAny_pyIter_list hl ?_)
  refine ⟨s.heap.objs.size, [s.heap.objs.size, a], [s.heap.objs.size], its.toArray.size, _, _, fun i => (bs[i]?).getD true, rfl, Walks.list (A := X.A.in1) (I.ok.hd hc) _ a (Nat.ne_of_lt hlt) its.toArray,
    ⟨⟨_, Heap.get?_push_size _ rfl, rfl, rfl⟩, hl.push _⟩, fun i v s' Q' E' hP hQ => ?_, fun h' tk hk => ?_⟩
  · obtain ⟨b, e, rfl⟩ := hb i v (by simpa using hP)
    simp only [e, Option.getD_some] at hQ
    exact wpAny_truthy_bool hQ
  · have e : ((List.range its.toArray.size).all fun i => (bs[i]?).getD true) = bs.all id := by
      rw [List.size_toArray, hln, Bool.eq_iff_iff]
      simp only [List.all_eq_true, List.mem_range, id]
      constructor
      · intro z b hb'
        obtain ⟨i, hi, rfl⟩ := List.mem_iff_getElem.mp hb'
        have := z i hi
        rwa [List.getElem?_eq_getElem hi, Option.getD_some] at this
      · intro z i hi
        rw [List.getElem?_eq_getElem hi, Option.getD_some]
        exact z _ (List.getElem_mem hi)
    rw [e]
    exact ⟨.bl _, H, I.kept fun b o eb => hk b o (fun hm => by rw [List.mem_singleton.mp hm] at eb; exact Nat.lt_irrefl _ (Heap.lt_size eb)) (Heap.get?_push_of_some _ eb), rfl, q⟩
def clsV : V → Option Value
  | .ty n => some (.type n)
  | .ref a => some (.ref a)
  | _ => none
def rIsi (K : PySem.W.Frag) : List V → Hp → VK → Prop := fun xs H Q => ∃ x c t cv b, xs = [x, c] ∧ clsV c = some cv ∧ TyOf K H x t ∧ PySem.W.kitOne K t cv = some b ∧ Q (.bl b) H
end
end L2
set_option Elab.async false
set_option linter.all false
set_option maxRecDepth 100000
set_option maxHeartbeats 1000000
namespace L2
open PySem PySem.Spec PyProof.Rows
def DefAt (K : PySem.W.Frag) (mg : Str → Option Value) (x : Str) (st : Stmt) : Prop := ∃ f fd, Fun K x x st f fd ∧ mg x = some (.ref f)
structure Callee (P : Program) (w : World) (K : PySem.W.Frag) (mg : Str → Option Value) (base : Heap) (CX : CXT) (k : Nat) (x : Str) (ps : List Str) (sp : Sp) : Prop where
  ex : ∃ f fd, FnOk P w K mg base CX k f fd ps sp ∧ mg x = some (.ref f) ∧ PySem.W.keepIn K (.ref f) = true ∧ Binds K fd ps []
section
variable {P : Program} {w : World} {K : PySem.W.Frag} {mg : Str → Option Value} {base : Heap} {CX : CXT} {k : Nat} {x : Str} {ps : List Str} {sp : Sp}
theorem Callee.imp {sp' : Sp} (C : Callee P w K mg base CX k x ps sp) (h : ∀ vs H Q E, sp' vs H Q E → sp vs H Q E) : Callee P w K mg base CX k x ps sp' := by
  obtain ⟨f, fd, F, a, b, c⟩ := C.ex
  exact ⟨f, fd, F.imp h, a, b, c⟩
theorem Callee.mono {j : Nat} (C : Callee P w K mg base CX k x ps sp) (h : k ≤ j) : Callee P w K mg base CX j x ps sp := by
  obtain ⟨f, fd, F, a, b, c⟩ := C.ex
  exact ⟨f, fd, F.mono h, a, b, c⟩
theorem pe_callC {X : Cx} {E : XK} {e : Expr} {es : List Expr} {t : TA} {p pos : Pos} (C : Callee X.prog X.w X.K X.mg X.base CX k x ps sp) (hr : Room k X.A) (hg : Gl X x) (hx : Passes CX X E)
    (ha : PA X (e :: es) t) (hdb : (x == ("__debug__" : Str)) = false := by decide) (he : starEach (e :: es) X.env = (false, eval e X.env) :: starEach es X.env := by rfl) (hpl : (backTo pos (starEach es X.env)).any (·.1) = false := by rfl) :
    PE X (.Call (.Name x p) (e :: es) [] pos) (tCall sp [] E t) := by
  obtain ⟨f, fd, F, hm, hk, hb⟩ := C.ex
  exact pe_call F hr hg hm hk hb .nil hx ha hdb he hpl
theorem callee_of {st : Stmt} {N : List Str} (D : DefAt K mg x st)
    (hb : ∀ (kV doc pm : Value) (an : Option Addr) (cdv ct : Value) (us : List Value), us.length = ps.length → bindArgs (PySem.W.fnOf x x (defArgs st) (defBody st) (defScope st) .none kV doc pm an cdv ct) ⟨us, []⟩ = pure (ps.zip us))
    (S : FnScope N ps (defScope st)) (len : ∀ vs H Q E, sp vs H Q E → vs.length = ps.length)
    (hbody : ∀ (f : Addr) (cdv : Value) (A : Around) (outer : List Env) (s : Shared) (H : Hp) (vs : List V) (Q : VK) (E : XK), Room k (A.deeper (envOfC x (defScope st) s.heap.objs.size f cdv)) → sp vs H Q E →
      ∃ t, PSs (cxOf CX0 P w K mg base N x (defScope st) f cdv A outer s H E).nox (defBody st) t ∧ t { nx := fun _ H' => Q .non H', rt := Q } (start N vs) H) : Callee P w K mg base CX0 (k + 1) x ps sp := by
  obtain ⟨f, fd, F, hm⟩ := D
  exact ⟨f, fd, F.ok S len fun cdv A outer s H vs Q E hr h => hbody f cdv A outer s H vs Q E hr h, hm, F.kp, F.binds hb⟩
theorem defAt_mk {h : Heap} {f : Addr} {st : Stmt} {oc : Value} {od an : Option Addr} {osl : Array (Option Value)} {kV doc pm cdv ct : Value} (X : K.In h) (G : h.Ns mainGlobals mg)
    (a : PySem.W.nsIn K mainGlobals x = some (some (.ref f))) (l : K.lookup f = some ⟨oc, od, .func (PySem.W.fnOf x x (defArgs st) (defBody st) (defScope st) .none kV doc pm an cdv ct), osl⟩)
    (c : PySem.W.codeIn K cdv x = true) (kk : PySem.W.keepIn K (.ref f) = true) : DefAt K mg x st := ⟨f, _, fun_mk l c kk, PySem.W.mg_of X G a⟩
end
def HasAll (cl : List (Str × Addr)) : List (Str × NameKind) → Prop
  | [] => True
  | y :: r => (match y.2 with | .free => (cl.lookup y.1).isSome = true | _ => True) ∧ HasAll cl r
theorem HasAll.get {cl : List (Str × Addr)} : ∀ {l : List (Str × NameKind)}, HasAll cl l → ∀ y ∈ l, y.2 = .free → (cl.lookup y.1).isSome = true
  | [], _, _, h, _ => nomatch h
  | z :: r, a, y, h, e => by
    rcases List.mem_cons.mp h with q | q
    · subst q
      have := a.1
      rw [e] at this
      exact this
    · exact HasAll.get a.2 y q e
def JAll (X : Cx) (scope : Scope) (cl : List (Str × Addr)) : List (Option Nat) → List Str → Prop
  | none :: r, _ :: n => JAll X scope cl r n
  | some j :: r, x :: n => (X.N[j]? = some x ∧ (cl.lookup x).isSome = true ∧ (X.env.scope.names.lookup x = some .cell ∨ X.env.scope.names.lookup x = some .free) ∧ ((relabel scope X.env).names.lookup x = some .cell ∨ (relabel scope X.env).names.lookup x = some .free)) ∧ JAll X scope cl r n
  | [], [] => True
  | _, _ => False
theorem JAll.len {X : Cx} {scope : Scope} {cl : List (Str × Addr)} : ∀ {js : List (Option Nat)} {N : List Str}, JAll X scope cl js N → js.length = N.length
  | [], [], _ => rfl
  | none :: r, _ :: n, h => by
    have h' : JAll X scope cl r n := h
    simp [JAll.len h']
  | some j :: r, x :: n, h => by
    have h' : JAll X scope cl r n := h.2
    simp [JAll.len h']
  | [], _ :: _, h => h.elim
  | none :: _, [], h => h.elim
  | some _ :: _, [], h => h.elim
theorem JAll.get {X : Cx} {scope : Scope} {cl : List (Str × Addr)} : ∀ {js : List (Option Nat)} {N : List Str}, JAll X scope cl js N → ∀ (i j : Nat) x, js[i]? = some (some j) → N[i]? = some x →
    X.N[j]? = some x ∧ (cl.lookup x).isSome = true ∧ Vis X.env.scope x ∧ X.env.kindOf x ≠ some .local ∧ ((relabel scope X.env).names.lookup x = some .cell ∨ (relabel scope X.env).names.lookup x = some .free)
  | [], [], _, i, j, x, e, _ => by simp at e
  | none :: r, y :: n, h, 0, j, x, e, _ => by simp at e
  | none :: r, y :: n, h, i + 1, j, x, e, e2 => JAll.get (js := r) (N := n) h i j x (by simpa using e) (by simpa using e2)
  | some k :: r, y :: n, h, 0, j, x, e, e2 => by
    have q : k = j := by simpa using e
    have q2 : y = x := by simpa using e2
    subst q; subst q2
    obtain ⟨a, b, c, d⟩ := h.1
    refine ⟨a, b, ?_, ?_, d⟩
    · rcases c with c | c
      · exact .inr (.inl c)
      · exact .inr (.inr c)
    · intro z
      have z' : X.env.scope.names.lookup y = some .local := z
      rcases c with c | c
      · rw [c] at z'; cases z'
      · rw [c] at z'; cases z'
  | some k :: r, y :: n, h, i + 1, j, x, e, e2 => JAll.get (js := r) (N := n) h.2 i j x (by simpa using e) (by simpa using e2)
  | [], _ :: _, h, _, _, _, _, _ => h.elim
  | none :: _, [], h, _, _, _, _, _ => h.elim
  | some _ :: _, [], h, _, _, _, _, _ => h.elim
theorem compOk {X : Cx} {N' : List Str} {js : List (Option Nat)} {scope : Scope} {cl : List (Str × Addr)} (clos : closureFor scope X.env = pure cl) (kind : scope.kind = .function) (nocell : ∀ y ∈ scope.names, y.2 ≠ .cell)
    (names : ∀ y ∈ scope.names, y.2 = .local → scope.names.lookup y.1 = some .local) (sub : AllIn X.env cl) (has : HasAll cl scope.names) (j : JAll X scope cl js N') : CompOk X N' js scope cl :=
  ⟨clos, kind, nocell, names, sub, has.get, j.len, j.get⟩
theorem boot_int : bootBuiltins "int" = some (.type "int") := by decide +kernel
theorem boot_bool : bootBuiltins "bool" = some (.type "bool") := by decide +kernel
theorem boot_tuple : bootBuiltins "tuple" = some (.type "tuple") := by decide +kernel
theorem boot_list : bootBuiltins "list" = some (.type "list") := by decide +kernel
theorem boot_abs : bootBuiltins "abs" = some (.builtin "abs") := by decide +kernel
theorem boot_all : bootBuiltins "all" = some (.builtin "all") := by decide +kernel
theorem boot_max : bootBuiltins "max" = some (.builtin "max") := by decide +kernel
theorem boot_min : bootBuiltins "min" = some (.builtin "min") := by decide +kernel
theorem same_upd {H : Hp} {p : Addr} {o : HO} (h : H p = none) : Same H (upd H p o) := fun b u q => by rw [upd_ne (ne_of_none q h)]; exact q
end L2
set_option Elab.async false
set_option linter.all false
set_option maxRecDepth 100000
set_option maxHeartbeats 1000000
namespace L2
open PySem PySem.Spec PyProof.Rows
theorem while_st {α : Type} {c : TT} {tb : TS} {D : Ends} {σ : St} {H : Hp} (S : α → St) (Pv : α → Hp → Prop) (μ : α → Nat) (x₀ : α) (hσ : σ = S x₀) (h0 : Pv x₀ H)
    (hs : ∀ x H, Pv x H → c (S x) H fun b H1 => if b = true then (∃ N : St → Hp → Prop, (∀ σ' H', N σ' H' → ∃ y, σ' = S y ∧ Pv y H' ∧ μ y < μ x) ∧ tb { D with nx := N, ct := N, bk := D.nx } (S x) H1) else D.nx (S x) H1) : tWhile c tb D σ H := by
  subst hσ
  refine ⟨fun m σ H => ∃ x, σ = S x ∧ Pv x H ∧ m = μ x, ⟨_, x₀, rfl, h0, rfl⟩, ?_⟩
  rintro m σ H ⟨x, rfl, p, rfl⟩
  have q := hs x H p
  have e : (fun b H1 => if b = true then (∃ N : St → Hp → Prop, (∀ σ' H', N σ' H' → ∃ y, σ' = S y ∧ Pv y H' ∧ μ y < μ x) ∧ tb { D with nx := N, ct := N, bk := D.nx } (S x) H1) else D.nx (S x) H1) =
      (fun b H1 => if b = true then (∃ N : St → Hp → Prop, (∀ σ' H', N σ' H' → ∃ m', m' < μ x ∧ ∃ y, σ' = S y ∧ Pv y H' ∧ m' = μ y) ∧ tb { D with nx := N, ct := N, bk := D.nx } (S x) H1) else D.nx (S x) H1) := by
    funext b H1
    cases b with
    | false => rfl
    | true =>
      simp only [if_true]
      refine propext ⟨fun ⟨N, hN, z⟩ => ⟨N, fun σ' H' n => ?_, z⟩, fun ⟨N, hN, z⟩ => ⟨N, fun σ' H' n => ?_, z⟩⟩
      · obtain ⟨y, e1, e2, e3⟩ := hN σ' H' n
        exact ⟨_, e3, y, e1, e2, rfl⟩
      · obtain ⟨m', l, y, e1, e2, e3⟩ := hN σ' H' n
        exact ⟨y, e1, e2, e3 ▸ l⟩
  rw [e] at q
  exact q
end L2
namespace Gcd
structure J (A B g u v ng nu nv : Int) : Prop where
  g0 : 0 ≤ g
  n0 : 0 ≤ ng
  e1 : u * A + v * B = g
  e2 : nu * A + nv * B = ng
  ex : ∃ s U NU V NV : Int, (s = 1 ∨ s = -1) ∧ 0 ≤ U ∧ 0 ≤ NU ∧ 0 ≤ V ∧ 0 ≤ NV ∧ u = s * U ∧ nu = -s * NU ∧ v = -s * V ∧ nv = s * NV ∧ g * NU + ng * U = B ∧ g * NV + ng * V = A ∧
    (U ≤ 1 ∨ U ≤ B) ∧ (NU ≤ 1 ∨ NU ≤ B) ∧ (V ≤ 1 ∨ V ≤ A) ∧ (NV ≤ 1 ∨ NV ≤ A)
theorem J.start {A B : Int} (ha : 0 ≤ A) (hb : 0 ≤ B) : J A B A 1 0 B 0 1 :=
  ⟨ha, hb, by grind, by grind, 1, 1, 0, 0, 1, .inl rfl, by decide, by decide, by decide, by decide, by grind, by grind, by grind, by grind, by grind, by grind, .inl (by decide), .inl (by decide), .inl (by decide), .inl (by decide)⟩
theorem le_of_mul {n x B : Int} (hn : 0 < n) (hx : 0 ≤ x) (h : n * x ≤ B) : x ≤ B := by
  have : 1 * x ≤ n * x := Int.mul_le_mul_of_nonneg_right hn hx
  omega
theorem J.turn {A B g u v ng nu nv : Int} (j : J A B g u v ng nu nv) (hn : 0 < ng) :
    J A B ng nu nv (g - g / ng * ng) (u - g / ng * nu) (v - g / ng * nv) ∧ (g - g / ng * ng) < ng ∧ 0 ≤ g / ng ∧ g / ng ≤ g := by
  have q0 : 0 ≤ g / ng := Int.ediv_nonneg j.g0 j.n0
  have r := Int.emod_def g ng
  have r0 := Int.emod_nonneg g (show ng ≠ 0 by omega)
  have r1 := Int.emod_lt_of_pos g hn
  have ql : g / ng ≤ g := Int.ediv_le_self ng j.g0
  have e1 := j.e1
  have e2 := j.e2
  have hc : g / ng * ng = ng * (g / ng) := Int.mul_comm _ _
  generalize g / ng = q at *
  obtain ⟨s, U, NU, V, NV, hs, hU, hNU, hV, hNV, eu, enu, ev, env, b1, b2, l1, l2, l3, l4⟩ := j.ex
  have hqNU : 0 ≤ q * NU := Int.mul_nonneg q0 hNU
  have hqNV : 0 ≤ q * NV := Int.mul_nonneg q0 hNV
  have rr : 0 ≤ g - q * ng := by omega
  have i1 : ng * (U + q * NU) + (g - q * ng) * NU = B := by grind
  have i2 : ng * (V + q * NV) + (g - q * ng) * NV = A := by grind
  have n1 : 0 ≤ (g - q * ng) * NU := Int.mul_nonneg rr hNU
  have n2 : 0 ≤ (g - q * ng) * NV := Int.mul_nonneg rr hNV
  refine ⟨⟨j.n0, rr, e2, by grind, -s, NU, U + q * NU, NV, V + q * NV, by omega, hNU, by omega, hNV, by omega, by grind, by grind, by grind, by grind, i1, i2, l2, .inr (le_of_mul hn (by omega) (by omega)), l4, .inr (le_of_mul hn (by omega) (by omega))⟩, by omega, q0, ql⟩
structure Bez (a b g u v : Int) : Prop where
  g0 : 0 ≤ g
  lin : u * a + v * b = g
  da : g ∣ a
  db : g ∣ b
  bu : u.natAbs ≤ max 1 b.natAbs
  bv : v.natAbs ≤ max 1 a.natAbs
theorem J.done {a b g u v nu nv : Int} (j : J (if a < 0 then -a else a) (if b < 0 then -b else b) g u v 0 nu nv) : Bez a b g (if a < 0 then -u else u) (if b < 0 then -v else v) := by
  have e1 := j.e1
  obtain ⟨s, U, NU, V, NV, hs, hU, hNU, hV, hNV, eu, enu, ev, env, b1, b2, l1, l2, l3, l4⟩ := j.ex
  have hu : u.natAbs = U.toNat := by
    rcases hs with rfl | rfl
    · omega
    · omega
  have hv : v.natAbs = V.toNat := by
    rcases hs with rfl | rfl
    · omega
    · omega
  refine ⟨j.g0, ?_, ?_, ?_, ?_, ?_⟩
  · split <;> split <;> rename_i h1 h2 <;> simp only [h1, h2, if_true, if_false] at e1 <;> grind
  · have : g ∣ (if a < 0 then -a else a) := ⟨NV, by omega⟩
    by_cases h : a < 0
    · rw [if_pos h] at this
      exact Int.dvd_neg.mp this
    · rw [if_neg h] at this
      exact this
  · have : g ∣ (if b < 0 then -b else b) := ⟨NU, by omega⟩
    by_cases h : b < 0
    · rw [if_pos h] at this
      exact Int.dvd_neg.mp this
    · rw [if_neg h] at this
      exact this
  · have : (if a < 0 then -u else u).natAbs = u.natAbs := by split <;> omega
    rw [this, hu]
    split at l1 <;> omega
  · have : (if b < 0 then -v else v).natAbs = v.natAbs := by split <;> omega
    rw [this, hv]
    split at l3 <;> omega
theorem J.small {A B g u v ng nu nv M : Int} (j : J A B g u v ng nu nv) (hA : 0 ≤ A) (hB : 0 ≤ B) (hAM : A ≤ M) (hBM : B ≤ M) (hM : 1 ≤ M) : (-M ≤ u ∧ u ≤ M) ∧ (-M ≤ v ∧ v ≤ M) ∧ (-M ≤ nu ∧ nu ≤ M) ∧ (-M ≤ nv ∧ nv ≤ M) := by
  obtain ⟨s, U, NU, V, NV, hs, hU, hNU, hV, hNV, eu, enu, ev, env, b1, b2, l1, l2, l3, l4⟩ := j.ex
  rcases hs with rfl | rfl
  · refine ⟨⟨?_, ?_⟩, ⟨?_, ?_⟩, ⟨?_, ?_⟩, ⟨?_, ?_⟩⟩ <;> omega
  · refine ⟨⟨?_, ?_⟩, ⟨?_, ?_⟩, ⟨?_, ?_⟩, ⟨?_, ?_⟩⟩ <;> omega
end Gcd
set_option Elab.async false
set_option linter.all false
set_option maxRecDepth 100000
set_option maxHeartbeats 1000000
namespace L2
open PySem PySem.Spec PyProof.Rows
theorem Same.upd {H H1 : Hp} {p : Addr} {o : HO} (h : Same H H1) (hp : H p = none) : Same H (upd H1 p o) := fun b u q => by rw [upd_ne (ne_of_none q hp)]; exact h b u q
theorem Same.upd1 {H H1 : Hp} {p : Addr} {o : HO} (h : Same H H1) (hp : H1 p = none) : Same H (L2.upd H1 p o) := h.upd (h.free hp)
theorem atI_lt {α : Type} {xs : List α} {k : Int} (h0 : 0 ≤ k) (h1 : k < xs.length) : ∃ v, atI xs k = some v ∧ xs[k.toNat]? = some v := by
  have hk : k.toNat < xs.length := by omega
  refine ⟨xs[k.toNat], ?_, List.getElem?_eq_getElem hk⟩
  have := atI_nat (xs := xs) (j := k.toNat) (List.getElem?_eq_getElem hk)
  rwa [Int.toNat_of_nonneg h0] at this
theorem ix_some {K : PySem.W.Frag} {H : Hp} {p : Addr} {xs : List V} {k : Int} {Q : VK} (h : SqL K H p xs) (h0 : 0 ≤ k) (h1 : k < xs.length) (q : ∀ v ∈ xs, Q v H) : rIxL K (.ref p) (.int k) H Q := by
  obtain ⟨v, e, e2⟩ := atI_lt h0 h1
  exact ⟨p, xs, k, v, rfl, rfl, h, e, q v (List.mem_of_getElem? e2)⟩
theorem ix_ints {K : PySem.W.Frag} {H : Hp} {p : Addr} {xs : List Int} {k : Int} {Q : VK} (h : H p = some (.lst (xs.map V.int))) (h0 : 0 ≤ k) (h1 : k < xs.length) (q : ∀ v ∈ xs, Q (.int v) H) : rIxL K (.ref p) (.int k) H Q :=
  ix_some (SqL.of h) h0 (by rw [List.length_map]; exact h1) fun v hv => by
    obtain ⟨i, hi, rfl⟩ := List.mem_map.mp hv
    exact q i hi
theorem app_int {H : Hp} {p : Addr} {xs : List Int} {i : Int} {Q : VK} (h : H p = some (.lst (xs.map V.int))) (hz : xs.length < sizeLine) (q : Q .non (upd H p (.lst ((xs ++ [i]).map V.int)))) : rAppend (.ref p) [.int i] H Q :=
  ⟨p, xs.map V.int, .int i, rfl, rfl, h, by rw [List.length_map]; exact hz, by rw [List.map_append] at q; exact q⟩
def Loop (J : It) (g : TG) (tb : TS) (D : Ends) (σ : St) (H : Hp) : Prop := ∃ W : Nat → Nat → St → Hp → Prop, (∃ m, W 0 m σ H) ∧ ∀ i m σ H, W i m σ H →
  (J.stop i H ∧ D.nx σ H) ∨ (J.go i H ∧ ∃ N : St → Hp → Prop, (∀ σ' H', N σ' H' → ∃ m', m' < m ∧ W (i + 1) m' σ' H') ∧ ∀ x H', J.yld i H x H' → g x σ H' fun σ2 H2 => tb { D with nx := N, ct := N, bk := D.nx } σ2 H2)
theorem tFor_eq {wi : TI} {g : TG} {tb : TS} {D : Ends} {σ : St} {H : Hp} : tFor wi g tb D σ H = wi σ H fun J H1 => Loop J g tb D σ H1 := rfl
theorem loop_range {lo : Int} {n : Nat} {g : TG} {tb : TS} {D : Ends} {σ : St} {H : Hp} (Pv : Nat → St → Hp → Prop) (h0 : Pv 0 σ H)
    (hs : ∀ i σ H, i < n → Pv i σ H → g (.int (lo + i)) σ H fun σ2 H2 => tb { D with nx := Pv (i + 1), ct := Pv (i + 1), bk := D.nx } σ2 H2) (hd : ∀ σ H, Pv n σ H → D.nx σ H) : Loop (Itr lo n) g tb D σ H := for_range Pv h0 hs hd
theorem loop_list {K : PySem.W.Frag} {a : Addr} {xs : List V} {g : TG} {tb : TS} {D : Ends} {σ : St} {H : Hp} (Pv : Nat → St → Hp → Prop) (h0 : Pv 0 σ H) (hl : ∀ i σ H, i ≤ xs.length → Pv i σ H → SqL K H a xs)
    (hs : ∀ i x σ H, xs[i]? = some x → Pv i σ H → g x σ H fun σ2 H2 => tb { D with nx := Pv (i + 1), ct := Pv (i + 1), bk := D.nx } σ2 H2) (hd : ∀ σ H, Pv xs.length σ H → D.nx σ H) : Loop (Itl K a) g tb D σ H := for_list Pv h0 hl hs hd
theorem loop_tup {K : PySem.W.Frag} {a : Addr} {xs : List V} {g : TG} {tb : TS} {D : Ends} {σ : St} {H : Hp} (Pv : Nat → St → Hp → Prop) (h0 : Pv 0 σ H) (hl : ∀ i σ H, i ≤ xs.length → Pv i σ H → SqT K H a xs)
    (hs : ∀ i x σ H, xs[i]? = some x → Pv i σ H → g x σ H fun σ2 H2 => tb { D with nx := Pv (i + 1), ct := Pv (i + 1), bk := D.nx } σ2 H2) (hd : ∀ σ H, Pv xs.length σ H → D.nx σ H) : Loop (Itt K a) g tb D σ H := for_tup Pv h0 hl hs hd
def CLoop (J : It) (js : List (Option Nat)) (g : TG) (tt : TT) (te : TE) (σ : St) (Q : VK) (H1 : Hp) : Prop := ∃ W : Nat → Nat → List V → Hp → Prop, (∃ m, W 0 m [] H1) ∧ ∀ i m ys H, W i m ys H →
  (J.stop i H ∧ ys.length ≤ sizeLine ∧ ∀ p, H p = none → Q (.ref p) (upd H p (.lst ys))) ∨
  (J.go i H ∧ ys.length < sizeLine ∧ ∃ N : List V → Hp → Prop, (∀ ys' H', N ys' H' → ∃ m', m' < m ∧ W (i + 1) m' ys' H') ∧
    ∀ x H', J.yld i H x H' → g x (inSt js σ) H' fun σ2 H2 => KeepsS (inSt js σ) σ2 ∧ tt σ2 H2 fun b H3 => if b = true then te σ2 H3 fun v H4 => N (ys ++ [v]) H4 else N ys H3)
theorem tLC_eq {js : List (Option Nat)} {wi : TI} {g : TG} {tt : TT} {te : TE} {σ : St} {H : Hp} {Q : VK} : tLC js wi g tt te σ H Q = wi σ H fun J H1 => CLoop J js g tt te σ Q H1 := rfl
theorem cloop_list {K : PySem.W.Frag} {a : Addr} {xs : List V} {js : List (Option Nat)} {g : TG} {tt : TT} {te : TE} {σ : St} {Q : VK} {H1 : Hp} (Pv : Nat → List V → Hp → Prop) (h0 : Pv 0 [] H1) (hx : xs.length ≤ sizeLine) (hl : ∀ i ys H, i ≤ xs.length → Pv i ys H → SqL K H a xs ∧ ys.length ≤ i)
    (hs : ∀ i x ys H, xs[i]? = some x → Pv i ys H → g x (inSt js σ) H fun σ2 H2 => KeepsS (inSt js σ) σ2 ∧ tt σ2 H2 fun b H3 => if b = true then te σ2 H3 fun v H4 => Pv (i + 1) (ys ++ [v]) H4 else Pv (i + 1) ys H3)
    (hd : ∀ ys H p, Pv xs.length ys H → H p = none → Q (.ref p) (upd H p (.lst ys))) : CLoop (Itl K a) js g tt te σ Q H1 := by
  refine ⟨fun i m ys H => m = xs.length - i ∧ i ≤ xs.length ∧ Pv i ys H, ⟨xs.length, by simp, Nat.zero_le _, h0⟩, ?_⟩
  rintro i m ys H ⟨rfl, hi, p⟩
  obtain ⟨q, hy⟩ := hl i ys H hi p
  by_cases hlt : i < xs.length
  · refine .inr ⟨⟨xs, xs[i], q, by simp [hlt]⟩, by omega, Pv (i + 1), fun ys' H' p' => ⟨xs.length - (i + 1), by omega, rfl, hlt, p'⟩, fun x H' y => ?_⟩
    obtain ⟨e, y⟩ := y
    subst e
    exact hs i x ys _ (y xs q) p
  · have e : i = xs.length := by omega
    subst e
    exact .inl ⟨⟨xs, q, Nat.le_refl _⟩, by omega, fun p' hp' => hd ys H p' p hp'⟩
theorem cloop_tup {K : PySem.W.Frag} {a : Addr} {xs : List V} {js : List (Option Nat)} {g : TG} {tt : TT} {te : TE} {σ : St} {Q : VK} {H1 : Hp} (Pv : Nat → List V → Hp → Prop) (h0 : Pv 0 [] H1) (hx : xs.length ≤ sizeLine) (hl : ∀ i ys H, i ≤ xs.length → Pv i ys H → SqT K H a xs ∧ ys.length ≤ i)
    (hs : ∀ i x ys H, xs[i]? = some x → Pv i ys H → g x (inSt js σ) H fun σ2 H2 => KeepsS (inSt js σ) σ2 ∧ tt σ2 H2 fun b H3 => if b = true then te σ2 H3 fun v H4 => Pv (i + 1) (ys ++ [v]) H4 else Pv (i + 1) ys H3)
    (hd : ∀ ys H p, Pv xs.length ys H → H p = none → Q (.ref p) (upd H p (.lst ys))) : CLoop (Itt K a) js g tt te σ Q H1 := by
  refine ⟨fun i m ys H => m = xs.length - i ∧ i ≤ xs.length ∧ Pv i ys H, ⟨xs.length, by simp, Nat.zero_le _, h0⟩, ?_⟩
  rintro i m ys H ⟨rfl, hi, p⟩
  obtain ⟨q, hy⟩ := hl i ys H hi p
  by_cases hlt : i < xs.length
  · refine .inr ⟨⟨xs, xs[i], q, by simp [hlt]⟩, by omega, Pv (i + 1), fun ys' H' p' => ⟨xs.length - (i + 1), by omega, rfl, hlt, p'⟩, fun x H' y => ?_⟩
    obtain ⟨e, y⟩ := y
    subst e
    exact hs i x ys _ (y xs q) p
  · have e : i = xs.length := by omega
    subst e
    exact .inl ⟨⟨xs, q, Nat.le_refl _⟩, by omega, fun p' hp' => hd ys H p' p hp'⟩
theorem cxK {CX : CXT} {P : Program} {w : World} {K : PySem.W.Frag} {mg : Str → Option Value} {base : Heap} {N : List Str} {qual : Str} {scope : Scope} {f : Addr} {cd : Value} {A : Around} {outer : List Env} {s : Shared} {H : Hp} {E : XK} :
    (cxOf CX P w K mg base N qual scope f cd A outer s H E).K = K := rfl
theorem compK {X : Cx} {N' : List Str} {scope : Scope} {cl : List (Str × Addr)} {C : Addr} {s₂ : Shared} {H₂ : Hp} {fp : List Addr} : (compCx X N' scope cl C s₂ H₂ fp).K = X.K := rfl
theorem truV_bl {K : PySem.W.Frag} {b k : Bool} {H : Hp} : TruV K (.bl b) H k = (k = b) := rfl
theorem truV_int {K : PySem.W.Frag} {i : Int} {k : Bool} {H : Hp} : TruV K (.int i) H k = (k = (i != 0)) := rfl
def rLen (K : PySem.W.Frag) : List V → Hp → VK → Prop := fun xs H Q => ∃ p ys, xs = [.ref p] ∧ (SqL K H p ys ∨ SqT K H p ys) ∧ Q (.int ys.length) H
theorem call_lenS {X : Cx} : CallR X (.builtin "len") (rLen X.K) := call_len_seq
theorem len_lst {K : PySem.W.Frag} {H : Hp} {p : Addr} {xs : List V} {Q : VK} (h : SqL K H p xs) (q : Q (.int xs.length) H) : rLen K [.ref p] H Q := ⟨p, xs, rfl, .inl h, q⟩
theorem len_tup {K : PySem.W.Frag} {H : Hp} {p : Addr} {xs : List V} {Q : VK} (h : SqT K H p xs) (q : Q (.int xs.length) H) : rLen K [.ref p] H Q := ⟨p, xs, rfl, .inr h, q⟩
theorem all_of {K : PySem.W.Frag} {H : Hp} {p : Addr} {bs : List Bool} {Q : VK} (h : SqL K H p (bs.map V.bl)) (q : Q (.bl (bs.all id)) H) : rAll K [.ref p] H Q := ⟨p, bs, rfl, h, q⟩
theorem scal_ii {a b : Int} : scal (.int a) (.int b) = true := rfl
theorem scal_bb {a b : Bool} : scal (.bl a) (.bl b) = true := rfl
theorem scal_in {a : Int} : scal (.int a) .non = true := rfl
theorem scal_ni {a : Int} : scal .non (.int a) = true := rfl
theorem scal_nn : scal .non .non = true := rfl
theorem scal_bn {a : Bool} : scal (.bl a) .non = true := rfl
theorem scal_ss {a b : Str} : scal (.str a) (.str b) = true := rfl
def tCut (t : TS) : TS := fun D σ H => ∃ R : St → Hp → Prop, t { D with nx := R } σ H ∧ ∀ σ' H', R σ' H' → D.nx σ' H'
theorem ps_cut {X : Cx} {st : Stmt} {t : TS} (h : PS X st t) : PS X st (tCut t) := by
  intro pins s σ H D I ⟨R, hw, hR⟩
  refine thn (h pins s σ H _ I hw) fun f s' q => ?_
  cases f with
  | next => obtain ⟨σ', H', I', r⟩ := q; exact ⟨σ', H', I', hR _ _ r⟩
  | brk => exact q
  | cont => exact q
  | ret u => exact q
def tCutE (t : TE) : TE := fun σ H Q => ∃ R : VK, t σ H R ∧ ∀ v H', R v H' → Q v H'
theorem fnOk_of {P : Program} {w : World} {K : PySem.W.Frag} {mg : Str → Option Value} {base : Heap} {k : Nat} {x : Str} {ps : List Str} {sp : Sp} {st : Stmt} {N : List Str} {f : Addr} {fd : FuncData} (F : Fun K x x st f fd)
    (S : FnScope N ps (defScope st)) (len : ∀ vs H Q E, sp vs H Q E → vs.length = ps.length)
    (hbody : ∀ (cdv : Value) (A : Around) (outer : List Env) (s : Shared) (H : Hp) (vs : List V) (Q : VK) (E : XK), Room k (A.deeper (envOfC x (defScope st) s.heap.objs.size f cdv)) → sp vs H Q E →
      ∃ t, PSs (cxOf CX0 P w K mg base N x (defScope st) f cdv A outer s H E).nox (defBody st) t ∧ t { nx := fun _ H' => Q .non H', rt := Q } (start N vs) H) : FnOk P w K mg base CX0 (k + 1) f fd ps sp :=
  F.ok S len fun cdv A outer s H vs Q E hr h => hbody cdv A outer s H vs Q E hr h
theorem law_end {P : Program} {w : World} {K : PySem.W.Frag} {mg : Str → Option Value} {k : Nat} {x y : Str} {sp : Sp} {st : Stmt} {fa : Addr} (hfa : mg x = some (.ref fa)) (D : DefAt K mg x st)
    (hb : ∀ (kV doc pm : Value) (an : Option Addr) (cdv ct : Value) (u : Value), bindArgs (PySem.W.fnOf x x (defArgs st) (defBody st) (defScope st) .none kV doc pm an cdv ct) ⟨[u], []⟩ = pure [(y, u)])
    (ok : ∀ (base : Heap) (f : Addr) (fd : FuncData), K.In base → Fun K x x st f fd → FnOk P w K mg base CX0 k f fd [y] sp) :
    ∃ fd : FuncData, (∀ (s : Shared) (u : Value), BindsTo s fd ⟨[u], []⟩ [(y, u)]) ∧ ∀ base : Heap, K.In base → base.Ns mainGlobals mg → FnOk P w K mg base CX0 k fa fd [y] sp := by
  obtain ⟨f, fd, F, hm⟩ := D
  have e := hfa.symm.trans hm
  cases e
  refine ⟨fd, fun s u => ?_, fun base kb _ => ok base _ _ kb F⟩
  obtain ⟨oc, od, kV, doc, pm, an, cdv, ct, osl, rfl, lk, hcd⟩ := F.ex
  exact .of_eq (hb kV doc pm an cdv ct u)
end L2
set_option Elab.async false
set_option linter.all false
set_option maxRecDepth 100000
set_option maxHeartbeats 1000000
namespace L2
open PySem PySem.Spec PyProof.Rows PySem.W
def excTail : List Value := [.type "ValueError", .type "Exception", .type "BaseException", .type "object"]
def excMro : List Value → Bool
  | .ref _ :: r => excMro r
  | l => l == excTail
theorem refuse_tail (self : Value) : refuseLoop self "__setattr__" excTail = pure () := by kernel_rfl
theorem refuse_exc (self : Value) : ∀ {l : List Value}, excMro l = true → refuseLoop self "__setattr__" l = pure ()
  | .ref c :: r, e => by rw [refuseLoop_ref]; exact refuse_exc self (l := r) e
  | [], e => by cases e
  | .type n :: r, e => by
    have : Value.type n :: r = excTail := by simpa [excMro] using e
    rw [this]; exact refuse_tail self
  | .none :: r, e => by simp [excMro, excTail] at e
  | .bool _ :: r, e => by simp [excMro, excTail] at e
  | .int _ _ :: r, e => by simp [excMro, excTail] at e
  | .str _ _ :: r, e => by simp [excMro, excTail] at e
  | .bytes _ _ :: r, e => by simp [excMro, excTail] at e
  | .float _ _ :: r, e => by simp [excMro, excTail] at e
  | .builtin _ :: r, e => by simp [excMro, excTail] at e
theorem exc_has {l : List Value} : excMro l = true → l.contains (.type "object") = true ∧ l.contains (.type "BaseException") = true ∧ l.isEmpty = false := by
  intro h
  induction l with
  | nil => cases h
  | cons a r ih =>
    cases a with
    | ref c =>
      obtain ⟨h1, h2, _⟩ := ih h
      exact ⟨by rw [List.contains_cons, h1, Bool.or_true], by rw [List.contains_cons, h2, Bool.or_true], rfl⟩
    | type n =>
      have e : Value.type n :: r = excTail := by simpa [excMro] using h
      rw [e]
      exact ⟨by decide, by decide, rfl⟩
    | _ => simp [excMro, excTail] at h
section
variable {prog : Program} {w : World} {A : Around} {E : Value → Shared → Prop} {s : Shared} {K : PySem.W.Frag} {x C : Addr} {name : Str} {v : Value} {cd : ClassData}
theorem exc_set {vs : Array Value} {sl : Array (Option Value)} {Q : Unit → Shared → Prop} (X : K.In s.heap) (hx : s.heap.get? x = some ⟨.ref C, none, .fields vs, sl⟩) (hc : clsIn K C = some cd) (hm : excMro cd.mro = true) (hh : cd.hasDict = true)
    (hs : findIn K (.ref C) "__setattr__" = some (some (.builtin "object.__setattr__"))) (hn : findIn K (.ref C) name = some none)
    (h : ∀ h', h'.get? x = some ⟨.ref C, some s.heap.objs.size, .fields vs, sl⟩ → h'.Ns1 s.heap.objs.size (fun y => if y = name then some v else none) → (∀ b ob, b ≠ x → s.heap.get? b = some ob → h'.get? b = some ob) → Q () { s with heap := h', toks := s.toks + 2 }) :
    wpAny (model prog w) A (setAttr (.ref x) name v) Q E s := by
  have I : PySem.W.InstAt s.heap x ⟨.ref C, none, .fields vs, sl⟩ C none := ⟨hx, rfl, rfl, True.intro⟩
  obtain ⟨m1, m2, m3⟩ := exc_has hm
  refine PySem.W.set_plain X I hs ?_
  have SF := PySem.F.store_object
  have sub : Looks (model prog w) s.heap (isInstance (.ref x) (.type "object")) true := I.type.andThen (looks_mroIn X (by unfold mroIn; rw [hc, Option.bind_some, if_neg (by rw [m3]; decide), m1]))
  refine codeAny_call_builtin SF.slot.plain SF.entry (@check_slot (model prog w) _ _ { s with toks := s.toks + 1 } "object.__setattr__" "object" "__setattr__" (.ref x) [.str name s.toks, v] [] _ SF.kind SF.split sub (SF.args (.ref x) (.str name s.toks) v) ?_)
  have L1 : Looks (model prog w) s.heap (mroOf (.ref C)) cd.mro := (looks_clsIn X hc).andThen .now
  rw [osa_eq, refuse_eq]
  refine wpAny_bind (wpAny_bind (Looks.here (s := { s with toks := s.toks + 1 }) I.type (wpAny_bind (Looks.here (s := { s with toks := s.toks + 1 }) L1 ?_))))
  rw [refuse_exc _ hm]
  refine wpAny_pure (wpAny_bind (Looks.here (s := { s with toks := s.toks + 1 }) I.type (wpAny_bind (Looks.here (s := { s with toks := s.toks + 1 }) (looks_findIn X hn) (wpAny_bind (wpAny_pure ?_))))))
  show wpAny _ _ (Builtin.ObjectAttr.storeInOwnDict (.ref x) (.ref C) (.str name s.toks) name v false) _ _ _
  refine wpAny_bind (wpAny_pure (wpAny_bind (wpAny_bind (wpAny_loadPart hx (wpAny_bind (Looks.here (s := { s with toks := s.toks + 1 }) (looks_clsIn X hc) ?_))))))
  rw [hh]
  refine wpAny_bind (wpAny_alloc ?_)
  have hlt : x ≠ s.heap.objs.size := Nat.ne_of_lt (Heap.lt_size hx)
  have hp : (s.heap.push { cls := .type "dict", data := .dict #[] }).get? x = some ⟨.ref C, none, .fields vs, sl⟩ := Heap.get?_push_of_some _ hx
  refine wpAny_bind (wpAny_update (s := { s with toks := s.toks + 1, heap := s.heap.push { cls := .type "dict", data := .dict #[] } }) hp ?_)
  refine wpAny_pure ?_
  show wpAny _ _ (Builtin.ObjectAttr.storeInDict s.heap.objs.size (.str name s.toks) name v) _ _ _
  generalize hu : (s.heap.push { cls := .type "dict", data := .dict #[] }).update x (fun o => { o with dict := some s.heap.objs.size }) = h1
  have g1 : h1.get? x = some ⟨.ref C, some s.heap.objs.size, .fields vs, sl⟩ := by rw [← hu]; exact Heap.get?_update_self _ hp rfl
  have g2 : ∀ b, b ≠ x → h1.get? b = (s.heap.push { cls := .type "dict", data := .dict #[] }).get? b := fun b hb => by rw [← hu]; exact Heap.get?_update_other _ _ (Ne.symm hb)
  have g3 : h1.Ns1 s.heap.objs.size (fun _ => none) := by
    have e1 : h1.get? s.heap.objs.size = some { cls := .type "dict", data := .dict #[] } := by rw [g2 _ (Ne.symm hlt)]; exact Heap.get?_push_size _ rfl
    have e3 : h1.Ns s.heap.objs.size (fun _ => none) := ⟨_, #[], _, e1, rfl, (fun e he => absurd he (by simp)), fun _ => rfl⟩
    exact Heap.Ns1.of_empty e3
  refine wpAny_bind (wpAny_pure (wpAny_bind ?_))
  refine wpAny_nsSet1 (s := { s with toks := s.toks + 1, heap := h1 }) g3 fun h' hn2 hs2 => ?_
  obtain ⟨oD, esD, epD, hoD, hdD, hcD⟩ := hn2.count (ns := [name]) (PySem.Within.cons name v (ns := []) (fun y hy => absurd rfl hy))
  refine wpAny_bind (wpAny_lookBehind hoD (by rw [hdD]; exact pastItsLine_dict (Nat.le_trans hcD (by show 1 ≤ sizeLine + 1; decide))) ?_)
  refine wpAny_pure (h h' ((hs2.2 _ hlt).trans g1) hn2 fun b ob hb e => ?_)
  have hb2 : b ≠ s.heap.objs.size := Nat.ne_of_lt (Heap.lt_size e)
  exact (hs2.2 b hb2).trans ((g2 b hb).trans (Heap.get?_push_of_some _ e))
structure XCls (K : PySem.W.Frag) (C : Addr) : Prop where
  cls : ∃ cd, clsIn K C = some cd ∧ excMro cd.mro = true ∧ cd.hasDict = true
  at_ : ∃ od cd sl, K.lookup C = some ⟨.type "type", od, .cls cd, sl⟩
  sa : findIn K (.ref C) "__setattr__" = some (some (.builtin "object.__setattr__"))
  ga : findIn K (.ref C) "__getattribute__" = some (some (.builtin "BaseException.__getattribute__"))
  gx : findIn K (.ref C) "__getattr__" = some none
  ca : findIn K (.ref C) "__class__" = some (some (.builtin "object.__class__"))
  gs : specialIn K (.builtin "object.__class__") "__get__" = some (some (.builtin "getset_descriptor.__get__"))
  tk : takesIn K (.builtin "object.__class__") = some true
theorem XCls.obj (c : XCls K C) : mroIn K C (.type "object") = some true := by
  obtain ⟨cd, hc, hm, _⟩ := c.cls
  obtain ⟨m1, m2, m3⟩ := exc_has hm
  unfold mroIn
  rw [hc, Option.bind_some, if_neg (by rw [m3]; decide), m1]
theorem XCls.there (c : XCls K C) {h : Heap} (X : K.In h) : ∃ oc od cd sl, h.get? C = some ⟨oc, od, .cls cd, sl⟩ := by
  obtain ⟨cd, hc, _⟩ := c.cls
  unfold clsIn at hc
  split at hc
  · rename_i c' d' cd' sl' ho
    exact ⟨_, _, _, _, X _ _ ho⟩
  · cases hc
end
section
variable {prog : Program} {w : World} {A : Around} {E : Value → Shared → Prop} {h : Heap} {g : Array GenState} {d : Drawn} {t : Nat} {os : OsState}
variable {nm q : Str} {C N : Addr} {bs bm : List Value} {hdct : Bool} {sn : List Str} {sub : List Value} {ab : Bool} {col : Option Bool} {dd : Option Addr} {k0 k1 k2 k3 k5 : Option Value}
abbrev vNew : String := "ValueError.__new__"
abbrev newExc (C a : Addr) : Obj := { cls := .ref C, data := .fields #[.ref a, .none, .none, .none, .bool false, .none] }
theorem exc_new (hB : bm.contains (.type "ValueError") = true) (hA : bm.contains (.type "AttributeError") = false) (hN : bm.contains (.type "NameError") = false) {rest : List Value} {R : Result → Shared → Prop}
    (hC : h.get? C = some (excClassObj nm q C N bs bm hdct sn sub ab col dd k0 k1 k2 k3 k5 vNew)) (hrest : rest.length ≤ sizeLine)
    (hq : R (.ok (.ret (.ref (h.objs.size + 1)))) ⟨(h.push { cls := .type "tuple", data := .seq rest.toArray }).push (newExc C h.objs.size), g, d, t, os⟩) :
    codeAny (model prog w) A (.builtin vNew ⟨.ref C :: rest, []⟩) R ⟨h, g, d, t, os⟩ := by
  have Fn := PySem.F.excBase_ValueError
  have hends := Fn.ends
  have cB : (Value.ref C :: bm).contains (.type "ValueError") = true := by rw [List.contains_cons, hB, Bool.or_true]
  have cA : (Value.ref C :: bm).contains (.type "AttributeError") = false := by rw [List.contains_cons, hA]; rfl
  have cN : (Value.ref C :: bm).contains (.type "NameError") = false := by rw [List.contains_cons, hN]; rfl
  refine codeAny_builtinAt Fn.entry ?_
  unfold Builtin.«BaseException.__new__»
  refine PySem.wpAt_bind ?_
  show PySem.wpAt _ _ _ (stack >>= _) _ _ _
  refine PySem.wpAt_bind (PySem.wpAt_stack fun p below => PySem.wpAt_of_wpAny ?_)
  wp_walk
  refine PySem.wpAt_of_wpAny ?_
  rw [Fn.owner]
  repeat (first | with_reducible refine wpAny_madeHere_exc Fn.canon hC ?_ | with_reducible refine wpAny_loadPart_at hC ?_ | (with_reducible refine wpAny_isSubtype_exc hC ?_; first | rw [cB] | rw [cA] | rw [cN]) | wp_step)
  show R _ _
  rw [Heap.size_push]
  exact hq
theorem exc_check_new (hB : bm.contains (.type "ValueError") = true) {rest : List Value} {M : Model} {Q : Unit → Shared → Prop} (hC : h.get? C = some (excClassObj nm q C N bs bm hdct sn sub ab col dd k0 k1 k2 k3 k5 vNew))
    (hq : Q () ⟨h, g, d, t, os⟩) : wpAny M A (checkBuiltinCall vNew ⟨.ref C :: rest, []⟩) Q E ⟨h, g, d, t, os⟩ := by
  have Fn := PySem.F.excBase_ValueError
  have cB : (Value.ref C :: bm).contains (.type "ValueError") = true := by rw [List.contains_cons, hB, Bool.or_true]
  have hstar := Fn.noStar
  simp only [checkBuiltinCall, Fn.newKind, Fn.newSplit, Fn.newRow]
  repeat (first | refine wpAny_loadPart_at hC ?_ | (refine wpAny_isSubtype_exc hC ?_; rw [cB]) | refine wpAny_staticBase_exc hC ?_ | refine wpAny_madeBy_exc hC ?_ | simp only [bne_self_eq_false, Bool.false_eq_true, if_false] | wp_step)
  exact hq
theorem exc_typeCall {K : PySem.W.Frag} {i : Value} {rest : List Value} {Q : Fin → Shared → Prop} (X : K.In h) (hB : bm.contains (.type "ValueError") = true) (hA : bm.contains (.type "AttributeError") = false) (hN : bm.contains (.type "NameError") = false)
    (hC : h.get? C = some (excClassObj nm q C N bs bm hdct sn sub ab col dd k0 k1 k2 k3 k5 vNew)) (hrest : rest.length ≤ sizeLine) (hi : findIn K (.ref C) "__init__" = some (some i)) {j : Value}
    (hb : Looks (model prog w) h (bindSpecial i (.ref (h.objs.size + 1))) (j, [.ref (h.objs.size + 1)]))
    (hq : codeAny (model prog w) A (.call j ⟨.ref (h.objs.size + 1) :: rest, []⟩) (fun r s' => match r with | .ok (.ret v) => v = .none ∧ Q (.done (.ret (.ref (h.objs.size + 1)))) s' | .ok _ => False | .error e => E e s')
      ⟨(h.push { cls := .type "tuple", data := .seq rest.toArray }).push (newExc C h.objs.size), g, d, t, os⟩) :
    wpAny (model prog w) A (Builtin.«type.__call__» ⟨.ref C :: rest, []⟩) Q E ⟨h, g, d, t, os⟩ := by
  have Fn := PySem.F.excBase_ValueError
  repeat (first | with_reducible refine wpAny_loadPart_at hC ?_ | with_reducible refine wpAny_madeBy_exc hC ?_ | wp_step)
  refine codeAny_call_builtin_code (Code.quiet_builtin _ Fn.quiet) (exc_check_new hB hC ?_)
  refine exc_new hB hA hN hC hrest ?_
  show wpAny _ _ _ _ _ _
  have kp : ∀ b o, h.get? b = some o → ((h.push { cls := .type "tuple", data := .seq rest.toArray }).push (newExc C h.objs.size)).get? b = some o := fun b o e => Heap.get?_push_of_some _ (Heap.get?_push_of_some _ e)
  have hget : ((h.push { cls := .type "tuple", data := .seq rest.toArray }).push (newExc C h.objs.size)).get? (h.objs.size + 1) = some (newExc C h.objs.size) := by
    have := Heap.get?_push_size (h.push { cls := .type "tuple", data := .seq rest.toArray }) (o := newExc C h.objs.size) rfl
    rwa [Heap.size_push] at this
  have cC : (Value.ref C :: bm).contains (.ref C) = true := by simp
  have hC₁ := kp _ _ hC
  have L1 := (looks_findIn (M := model prog w) X hi).keeps kp
  have L2 := hb.keeps kp
  unfold isInstance
  repeat (first | with_reducible refine wpAny_loadPart_at hget ?_ | (with_reducible refine wpAny_isSubtype_exc hC₁ ?_; rw [cC]) | wp_step)
  show wpAny _ _ (typeLookup (.ref C) _) _ _ _
  refine L1.at (wpAny_holding (wpAny_bind (L2.at (wpAny_bind (wpAny_call (codeAny_mono hq fun r s' z => ?_))))))
  rcases r with e | (_ | _ | _ | v)
  · exact z
  · exact z.elim
  · exact z.elim
  · exact z.elim
  · obtain ⟨rfl, z⟩ := z
    exact wpAny_pure (wpAny_pure z)
theorem exc_call {K : PySem.W.Frag} {i : Value} {rest : List Value} {Q : Value → Shared → Prop} (X : K.In h) (hB : bm.contains (.type "ValueError") = true) (hA : bm.contains (.type "AttributeError") = false) (hN : bm.contains (.type "NameError") = false)
    (hC : h.get? C = some (excClassObj nm q C N bs bm hdct sn sub ab col dd k0 k1 k2 k3 k5 vNew)) (hrest : rest.length ≤ sizeLine) (hi : findIn K (.ref C) "__init__" = some (some i)) {j : Value}
    (hb : Looks (model prog w) h (bindSpecial i (.ref (h.objs.size + 1))) (j, [.ref (h.objs.size + 1)]))
    (hq : codeAny (model prog w) (A.under (.builtin "type.__call__" ⟨.ref C :: rest, []⟩)) (.call j ⟨.ref (h.objs.size + 1) :: rest, []⟩) (fun r s' => match r with | .ok (.ret v) => v = .none ∧ Q (.ref (h.objs.size + 1)) s' | .ok _ => False | .error e => E e s')
      ⟨(h.push { cls := .type "tuple", data := .seq rest.toArray }).push (newExc C h.objs.size), g, d, t, os⟩) :
    wpAny (model prog w) A (call (.ref C) rest) Q E ⟨h, g, d, t, os⟩ := by
  have f1 := tc_lookup
  have f2 := tc_bind (.ref C)
  have hT : (⟨h, g, d, t, os⟩ : Shared).TypeIs (.ref C) "type" := ⟨_, hC, rfl⟩
  refine wpAny_call (codeAny_of_tree ?_)
  show wpAny _ _ (callAny (.ref C) _) _ _ _
  repeat (any_goals (first | assumption | with_reducible refine wpAny_loadPart_at hC ?_ | wp_step))
  refine ⟨rfl, ?_⟩
  refine codeAny_call_builtin_at (Code.quiet_builtin _ (by decide +kernel)) entry_typeCall (wpAny_check_type_call_sub hC ?_)
  exact exc_typeCall X hB hA hN hC hrest hi hb hq
end
end L2
set_option Elab.async false
set_option linter.all false
set_option maxRecDepth 100000
set_option maxHeartbeats 1000000
namespace L2
open PySem PySem.Spec PyProof.Rows PySem.W
def Tr (h : Heap) (e : Addr) (C : Value) (dd : Option Addr) (T : Addr) (fl : Value) : Prop :=
  ∃ vs sl oT ts, h.get? e = some ⟨C, dd, .fields vs, sl⟩ ∧ vs[1]? = some (.ref T) ∧ T ≠ e ∧ h.get? T = some oT ∧ oT.data = .fields ts ∧ ts[3]? = some fl
structure Kp (fs ch : List Addr) (h h' : Heap) : Prop where
  keep : ∀ b o, b ∉ ch → b ∉ fs → h.get? b = some o → h'.get? b = some o
  slot : ∀ b o, b ∉ ch → h.get? b = some o → ∃ sl, h'.get? b = some { o with slots := sl }
theorem Kp.trans {fs ch : List Addr} {h h' h'' : Heap} (a : Kp fs ch h h') (b : Kp fs ch h' h'') : Kp fs ch h h'' :=
  ⟨fun c o hc hf e => b.keep c o hc hf (a.keep c o hc hf e), fun c o hc e => by
    obtain ⟨sl, e1⟩ := a.slot c o hc e
    obtain ⟨sl', e2⟩ := b.slot c _ hc e1
    exact ⟨sl', e2⟩⟩
theorem Kp.mono {fs ch ch' : List Addr} {h h' : Heap} (a : Kp fs ch h h') (hs : ∀ b ∈ ch, b ∈ ch') : Kp fs ch' h h' :=
  ⟨fun c o hc hf e => a.keep c o (fun z => hc (hs c z)) hf e, fun c o hc e => a.slot c o (fun z => hc (hs c z)) e⟩
section
variable {M : Model} {A : Around} {E : Value → Shared → Prop} {s : Shared} {base : Heap} {env : Env} {outer : List Env} {L e T : Addr} {C : Value} {dd : Option Addr} {fl : Value}
theorem fl_entry {vs : Array Value} {sl : Array (Option Value)} {head : Value} {hadNext : Bool} {Q : Unit → Shared → Prop} (hfr : A.frames = some (env :: outer)) (hl : s.heap.FunFrames base (env :: outer)) (hf : env.frame = some L)
    (he : s.heap.get? e = some ⟨C, dd, .fields vs, sl⟩) (hsz : 1 < vs.size)
    (h : ∀ h' T, Tr h' e C dd T (rawInt L) → s.heap.objs.size ≤ T → Kp (frs (env :: outer)) [e] s.heap h' → Q () { s with heap := h' }) :
    wpAny M A (do let a ← frameOf env; let pl ← entryPlaceOf L hadNext; let b ← EntryCells.newEntry head a .none (rawInt L) .none pl; setField (.ref e) 1 b) Q E s := by
  have hne : e ∉ frs (env :: outer) := fun hm => by
    obtain ⟨_, o, ho, hnf⟩ := hl.mem hm
    rw [he] at ho
    cases ho
    exact hnf vs rfl
  refine wpAny_bind (wpAny_frameOf_fun hfr hl hf fun h1 so => ?_)
  refine wpAny_bind (wpAny_entryPlaceOf fun pl hpl => ?_)
  unfold EntryCells.newEntry newFields
  refine wpAny_bind (wpAny_newObj_type ?_ (hpl.sizeOk5 _ _ _ _ _))
  have e1 : h1.get? e = some ⟨C, dd, .fields vs, sl⟩ := (so.2.1 e hne).trans he
  generalize hO : ({ cls := .type "traceback", dict := none, data := .fields ([head, .ref L, .none, rawInt L, .none] ++ (if pl.isEmpty then List.replicate 6 Value.none else pl)).toArray } : Obj) = oT
  have hTd : oT.data = .fields ([head, .ref L, .none, rawInt L, .none] ++ (if pl.isEmpty then List.replicate 6 Value.none else pl)).toArray := by rw [← hO]
  have hTf : oT.isFreed = false := by rw [← hO]; rfl
  have e2 : (h1.push oT).get? e = some ⟨C, dd, .fields vs, sl⟩ := Heap.get?_push_of_some oT e1
  refine wpAny_setField e2 rfl hsz (h _ h1.objs.size ?_ ?_ ?_)
  · have ne : h1.objs.size ≠ e := Nat.ne_of_gt (Heap.lt_size e1)
    refine ⟨vs.setIfInBounds 1 (.ref h1.objs.size), sl, oT, _, Heap.get?_update_self _ e2 rfl, by simp [hsz], ne, ?_, hTd, by simp⟩
    rw [Heap.get?_update_other _ _ (Ne.symm ne)]
    exact Heap.get?_push_size h1 hTf
  · exact Nat.le_of_eq (Eq.symm so.1)
  · refine ⟨fun b o hb hf' q => ?_, fun b o hb q => ?_⟩
    · have hb' : b ≠ e := fun z => hb (by simp [z])
      rw [Heap.get?_update_other _ _ (Ne.symm hb')]
      exact Heap.get?_push_of_some oT ((so.2.1 b hf').trans q)
    · have hb' : b ≠ e := fun z => hb (by simp [z])
      obtain ⟨sl', q'⟩ := so.2.2 b o q
      refine ⟨sl', ?_⟩
      rw [Heap.get?_update_other _ _ (Ne.symm hb')]
      exact Heap.get?_push_of_some oT q'
theorem note_first {vs : Array Value} {sl : Array (Option Value)} {Q : Unit → Shared → Prop} (hfr : A.frames = some (env :: outer)) (hl : s.heap.FunFrames base (env :: outer)) (hf : env.frame = some L)
    (he : s.heap.get? e = some ⟨C, dd, .fields vs, sl⟩) (h1 : vs[1]? = some .none)
    (h : ∀ h' T, Tr h' e C dd T (rawInt L) → s.heap.objs.size ≤ T → Kp (frs (env :: outer)) [e] s.heap h' → Q () { s with heap := h' }) : wpAny M A (noteFrame (.ref e) env) Q E s := by
  unfold noteFrame
  simp only [hf]
  refine wpAny_bind (wpAny_field he rfl h1 ?_)
  rw [if_neg (by decide)]
  exact fl_entry hfr hl hf he (Array.getElem?_eq_some_iff.mp h1).1 h
theorem note_next {Q : Unit → Shared → Prop} (hfr : A.frames = some (env :: outer)) (hl : s.heap.FunFrames base (env :: outer)) (hf : env.frame = some L) (ht : Tr s.heap e C dd T .none)
    (h : ∀ h' T', Tr h' e C dd T' (rawInt L) → s.heap.objs.size ≤ T' → Kp (frs (env :: outer)) [e, T] s.heap h' → Q () { s with heap := h' }) : wpAny M A (noteFrame (.ref e) env) Q E s := by
  obtain ⟨vs, sl, oT, ts, he, h1, hTe, hT, hdT, h3⟩ := ht
  unfold noteFrame
  simp only [hf]
  refine wpAny_bind (wpAny_field he rfl h1 ?_)
  rw [if_pos (show (Value.ref T != Value.none) = true from by simp)]
  refine wpAny_bind (wpAny_field hT hdT h3 ?_)
  rw [if_neg (show ¬ ((Value.none == rawInt L) = true) from by simp [rawInt])]
  refine wpAny_bind (wpAny_setField hT hdT (Array.getElem?_eq_some_iff.mp h3).1 ?_)
  generalize hu : s.heap.update T (Obj.mapFields (·.setIfInBounds 3 Value.none)) = h1'
  have oth : ∀ b, b ≠ T → h1'.get? b = s.heap.get? b := fun b hb => by rw [← hu]; exact Heap.get?_update_other _ _ (Ne.symm hb)
  have hT1 : ∃ o, h1'.get? T = some o := ⟨_, by rw [← hu]; exact Heap.get?_update_self _ hT (Obj.isFreed_of_fields (Obj.data_mapFields hdT _))⟩
  have hl1 : h1'.FunFrames base (env :: outer) := hl.of_keeps fun b o hb hnf => ⟨o, (oth b fun q => by rw [q, hT] at hb; cases hb; exact hnf ts hdT).trans hb, rfl⟩
  refine fl_entry (s := { s with heap := h1' }) hfr hl1 hf ((oth e (Ne.symm hTe)).trans he) (Array.getElem?_eq_some_iff.mp h1).1 fun h' T' t' n' k' => h h' T' t' ?_ ?_
  · have z : h1'.objs.size = s.heap.objs.size := by rw [← hu]; exact Heap.size_update ..
    rw [← z]; exact n'
  · refine ⟨fun b o hb hf' q => k'.keep b o (fun z => hb (by simp at z; simp [z])) hf' ((oth b fun z => hb (by simp [z])).trans q), fun b o hb q => k'.slot b o (fun z => hb (by simp at z; simp [z])) ((oth b fun z => hb (by simp [z])).trans q)⟩
theorem land {Q : Unit → Shared → Prop} {fs : List Addr} (ht : Tr s.heap e C dd T fl) (h : ∀ h', Tr h' e C dd T .none → Kp fs [T] s.heap h' → Q () { s with heap := h' }) : wpAny M A (setFlight (.ref e) none) Q E s := by
  obtain ⟨vs, sl, oT, ts, he, h1, hTe, hT, hdT, h3⟩ := ht
  unfold setFlight
  refine wpAny_bind (wpAny_field he rfl h1 ?_)
  rw [if_pos (show (Value.ref T != Value.none) = true from by simp)]
  have hsz := (Array.getElem?_eq_some_iff.mp h3).1
  refine wpAny_setField hT hdT hsz (h _ ?_ ?_)
  · refine ⟨vs, sl, _, _, (Heap.get?_update_other _ _ hTe).trans he, h1, hTe, Heap.get?_update_self _ hT (Obj.isFreed_of_fields (Obj.data_mapFields hdT _)), Obj.data_mapFields hdT _, by simp [hsz]⟩
  · refine ⟨fun b o hb _ q => (Heap.get?_update_other _ _ fun z => hb (by simp [z])).trans q, fun b o hb q => ⟨o.slots, (Heap.get?_update_other _ _ fun z => hb (by simp [z])).trans q⟩⟩
theorem leave_first {vs : Array Value} {sl : Array (Option Value)} {Q : Unit → Shared → Prop} (hfr : A.frames = some (env :: outer)) (hl : s.heap.FunFrames base (env :: outer)) (hf : env.frame = some L)
    (he : s.heap.get? e = some ⟨C, dd, .fields vs, sl⟩) (h1 : vs[1]? = some .none)
    (h : ∀ h' T, Tr h' e C dd T .none → s.heap.objs.size ≤ T → Kp (frs (env :: outer)) [e] s.heap h' → Q () { s with heap := h' }) : wpAny M A (leaving env (.ref e)) Q E s := by
  unfold leaving
  refine wpAny_bind (note_first hfr hl hf he h1 fun h1' T t1 n1 k1 => ?_)
  refine land (fs := frs (env :: outer)) t1 fun h2 t2 k2 => h h2 T t2 n1 ⟨fun b o hb hf' q => ?_, fun b o hb q => ?_⟩
  · exact k2.keep b o (fun z => by simp at z; rw [z] at q; exact absurd (Heap.lt_size q) (Nat.not_lt.mpr n1)) hf' (k1.keep b o hb hf' q)
  · obtain ⟨s1, q1⟩ := k1.slot b o hb q
    obtain ⟨s2, q2⟩ := k2.slot b _ (fun z => by simp at z; rw [z] at q; exact absurd (Heap.lt_size q) (Nat.not_lt.mpr n1)) q1
    exact ⟨s2, q2⟩
theorem leave_next {Q : Unit → Shared → Prop} (hfr : A.frames = some (env :: outer)) (hl : s.heap.FunFrames base (env :: outer)) (hf : env.frame = some L) (ht : Tr s.heap e C dd T .none)
    (h : ∀ h' T', Tr h' e C dd T' .none → s.heap.objs.size ≤ T' → Kp (frs (env :: outer)) [e, T] s.heap h' → Q () { s with heap := h' }) : wpAny M A (leaving env (.ref e)) Q E s := by
  unfold leaving
  refine wpAny_bind (note_next hfr hl hf ht fun h1' T' t1 n1 k1 => ?_)
  refine land (fs := frs (env :: outer)) t1 fun h2 t2 k2 => h h2 T' t2 n1 ⟨fun b o hb hf' q => ?_, fun b o hb q => ?_⟩
  · exact k2.keep b o (fun z => by simp at z; rw [z] at q; exact absurd (Heap.lt_size q) (Nat.not_lt.mpr n1)) hf' (k1.keep b o hb hf' q)
  · obtain ⟨s1, q1⟩ := k1.slot b o hb q
    obtain ⟨s2, q2⟩ := k2.slot b _ (fun z => by simp at z; rw [z] at q; exact absurd (Heap.lt_size q) (Nat.not_lt.mpr n1)) q1
    exact ⟨s2, q2⟩
end
end L2
set_option Elab.async false
set_option linter.all false
set_option maxRecDepth 100000
set_option maxHeartbeats 1000000
namespace L2
open PySem PySem.Spec PyProof.Rows PySem.W
def XO (x C : Addr) (dd : Option Addr) : HO := .ext fun h => ∃ vs sl, h.get? x = some ⟨.ref C, dd, .fields vs, sl⟩
def XN (x C : Addr) (dd : Option Addr) : HO := .ext fun h => ∃ t sl, h.get? x = some ⟨.ref C, dd, .fields #[.ref t, .none, .none, .none, .bool false, .none], sl⟩
section
variable {P : Program} {w : World} {H H' : Hp} {h h' : Heap} {x C : Addr} {dd : Option Addr}
theorem XO.ok {vs : Array Value} {sl : Array (Option Value)} (e : h.get? x = some ⟨.ref C, dd, .fields vs, sl⟩) : ObjOk P w H h x (XO x C dd) :=
  ⟨⟨vs, sl, e⟩, ⟨_, e⟩, fun _ _ ⟨vs, sl, q⟩ k => ⟨vs, sl, k _ q⟩⟩
theorem XN.ok {t : Addr} {sl : Array (Option Value)} (e : h.get? x = some ⟨.ref C, dd, .fields #[.ref t, .none, .none, .none, .bool false, .none], sl⟩) : ObjOk P w H h x (XN x C dd) :=
  ⟨⟨t, sl, e⟩, ⟨_, e⟩, fun _ _ ⟨vs, sl, q⟩ k => ⟨vs, sl, k _ q⟩⟩
theorem XN.get (hok : HOk P w H h) (e : H x = some (XN x C dd)) : ∃ t sl, h.get? x = some ⟨.ref C, dd, .fields #[.ref t, .none, .none, .none, .bool false, .none], sl⟩ := by
  obtain ⟨q, _⟩ := (show ObjOk P w H h x (XN x C dd) from hok x _ e)
  exact q
theorem XO.get (hok : HOk P w H h) (e : H x = some (XO x C dd)) : ∃ vs sl, h.get? x = some ⟨.ref C, dd, .fields vs, sl⟩ := by
  obtain ⟨q, _⟩ := (show ObjOk P w H h x (XO x C dd) from hok x _ e)
  exact q
end
def CXE (P : Program) (w : World) : CXT := fun outer H s E e s' => ∃ (x C T : Addr) (dd : Option Addr) (H' : Hp), e = .ref x ∧ s'.os = s.os ∧ AllBare s'.gens ∧ Un (frs outer) [] H H' s.heap s'.heap ∧ HOk P w H' s'.heap ∧
  Tr s'.heap x (.ref C) dd T .none ∧ s.heap.get? x = none ∧ s.heap.get? T = none ∧ H' T = none ∧ H' x = some (XO x C dd) ∧ E (.ref C) (some x) H'
theorem funs_un {base h h' : Heap} {H H' : Hp} {ex : List Addr} : ∀ {l : List Env} {fs : List Addr}, h.FunFrames base l → Un fs ex H H' h h' → (∀ b ∈ frs l, H b = none) → (∀ b ∈ frs l, b ∉ ex) → h'.FunFrames base l
  | [], _, _, _, _, _ => trivial
  | env :: r, fs, hl, u, hn, hx => by
    obtain ⟨hk, ⟨L, o, hf, hb, ho, hd⟩, hr⟩ := hl
    have hL : L ∈ frs (env :: r) := by unfold frs; rw [List.filterMap_cons, hf]; exact List.mem_cons_self
    have sub : ∀ b ∈ frs r, b ∈ frs (env :: r) := fun b hb' => by unfold frs; rw [List.filterMap_cons, hf]; exact List.mem_cons_of_mem _ hb'
    obtain ⟨sl, e⟩ := u.any ho (hn L hL) (hx L hL)
    exact ⟨hk, ⟨L, _, hf, hb, e, hd⟩, funs_un hr u (fun b hb' => hn b (sub b hb')) fun b hb' => hx b (sub b hb')⟩
theorem fly_hok {P : Program} {w : World} {H' : Hp} {h h' : Heap} {x C : Addr} {dd : Option Addr} {fs ch : List Addr} (hok : HOk P w H' h) (k : Kp fs ch h h') (hch : ∀ b ∈ ch, b = x ∨ H' b = none) (hfs : ∀ b ∈ fs, H' b = none)
    (hx : H' x = some (XO x C dd)) {vs : Array Value} {sl : Array (Option Value)} (e : h'.get? x = some ⟨.ref C, dd, .fields vs, sl⟩) : HOk P w H' h' := by
  intro b o q
  by_cases hb : b = x
  · subst hb
    rw [hx] at q
    cases q
    exact XO.ok e
  · refine (hok b o q).stay (fun c u hc r => k.keep c u (fun z => ?_) (fun z => ?_) r) (fun _ r => r) fun _ _ r => r
    · rcases hch c z with q1 | q1
      · rcases hc with q2 | q2
        · exact hb (q2.symm.trans q1)
        · rw [q1, hx] at q2; cases q2
      · rcases hc with q2 | q2
        · rw [q2, q] at q1; cases q1
        · rw [q2] at q1; cases q1
    · have q1 := hfs c z
      rcases hc with q2 | q2
      · rw [q2, q] at q1; cases q1
      · rw [q2] at q1; cases q1
theorem pass_def {P : Program} {w : World} {K : PySem.W.Frag} {mg : Str → Option Value} {base : Heap} {N : List Str} {qual : Str} {scope : Scope} {f : Addr} {cd : Value} {A : Around} {outer : List Env} {s : Shared} {H : Hp} {E : XK} :
    Passes (CXE P w) (cxOf (CXE P w) P w K mg base N qual scope f cd A outer s H E) E := by
  intro pins σ H1 s1 e s' I hq
  obtain ⟨x, C, T, dd, H', rfl, os, bare, un, hok, tr, nx, nT, hT, hx, hE⟩ := hq
  have hl := funs_un I.stack un I.stkFree (fun b _ => by simp)
  have frN : ∀ b ∈ frs (envOfC qual scope s.heap.objs.size f cd :: outer), H' b = none := fun b hb => by
    obtain ⟨_, o, ho, _⟩ := I.stack.mem hb
    exact un.free b o ho (I.stkFree b hb) (by simp)
  show wpAny (model P w) (A.deeper (envOfC qual scope s.heap.objs.size f cd)) (leaving (envOfC qual scope s.heap.objs.size f cd) (.ref x)) _ _ s'
  refine leave_next (L := s.heap.objs.size) I.ok.frames hl rfl tr fun h'' T' t' n' k' => ?_
  have old : ∀ b o, s.heap.get? b = some o → b ∉ [x, T] := fun b o q hb => by
    obtain ⟨o1, q1⟩ := I.base.there b o q (by intro z; exact absurd (show b ∈ ([] : List Addr) from z) (by simp))
    rcases List.mem_cons.mp hb with z | z
    · rw [z, nx] at q1; cases q1
    · rw [List.mem_singleton.mp z, nT] at q1; cases q1
  have nex : ∀ b : Addr, b ∉ (cxOf (CXE P w) P w K mg base N qual scope f cd A outer s H E).ex := fun b z => absurd (show b ∈ ([] : List Addr) from z) (by simp)
  have nfr : ∀ b o, s.heap.get? b = some o → b ∉ frs outer → b ∉ frs (envOfC qual scope s.heap.objs.size f cd :: outer) := fun b o q hb hm => by
    rcases List.mem_cons.mp (I.stkSub b hm) with z | z
    · exact absurd (Heap.lt_size q) (by rw [z]; exact Nat.lt_irrefl _)
    · exact hb z
  obtain ⟨vs, sl, oT, ts, he, r'⟩ := t'
  have tr' : Tr h'' x (.ref C) dd T' .none := ⟨vs, sl, oT, ts, he, r'⟩
  refine ⟨x, C, T', dd, H', rfl, os.trans I.os, bare, ?_, ?_, tr', ?_, ?_, hok.fresh n', hx, hE⟩
  · refine ⟨fun b o q nn hb _ => ?_, fun b o q nn hb _ => ?_, fun b o q nn _ => ?_, fun b o q _ => ?_, fun b xs q => un.tups b xs (I.base.tups b xs q), fun b o xs q => un.frzs b o xs (I.base.frzs b o xs q), fun b ps q => ?_⟩
    · have q1 := I.base.keep b o q nn hb (nex b)
      have q2 := un.keep b o q1 (I.base.free b o q nn (nex b)) (nfr b o q hb) (by simp)
      exact k'.keep b o (old b o q) (nfr b o q hb) q2
    · obtain ⟨s1', q1⟩ := I.base.slot b o q nn hb (nex b)
      obtain ⟨s2', q2⟩ := un.any q1 (I.base.free b o q nn (nex b)) (by simp)
      obtain ⟨s3', q3⟩ := k'.slot b _ (old b o q) q2
      exact ⟨s3', q3⟩
    · obtain ⟨o1, q1⟩ := I.base.there b o q (nex b)
      exact un.free b o1 q1 (I.base.free b o q nn (nex b)) (by simp)
    · obtain ⟨o1, q1⟩ := I.base.there b o q (nex b)
      obtain ⟨o2, q2⟩ := un.there b o1 q1 (by simp)
      obtain ⟨s3', q3⟩ := k'.slot b _ (old b o q) q2
      exact ⟨_, q3⟩
    · obtain ⟨m1, e1⟩ := I.base.tbls b ps q
      obtain ⟨m2, e2⟩ := un.tbls b _ e1
      exact ⟨m1 ++ m2, by rw [e2, Array.append_assoc]⟩
  · exact fly_hok hok k' (fun b hb => by
      rcases List.mem_cons.mp hb with z | z
      · exact .inl z
      · exact .inr (by rw [List.mem_singleton.mp z]; exact hT)) frN hx he
  · cases q : s.heap.get? x with
    | none => rfl
    | some o => exact absurd (List.mem_cons_self) (old x o q)
  · cases q : s.heap.get? T' with
    | none => rfl
    | some o =>
      obtain ⟨o1, q1⟩ := I.base.there T' o q (nex T')
      obtain ⟨o2, q2⟩ := un.there T' o1 q1 (by simp)
      exact absurd (Heap.lt_size q2) (Nat.not_lt.mpr n')
section
variable {prog : Program} {w : World} {A : Around} {E : Value → Shared → Prop} {s : Shared} {K : PySem.W.Frag} {env : Env}
theorem exc_raiseStmt {x : Sem Value} {Q : Flow → Shared → Prop} (hh : A.handled = none)
    (h : wpAny (model prog w) A x (fun v s₁ => ∃ e C t dd sl, v = .ref e ∧ K.In s₁.heap ∧ XCls K C ∧ s₁.heap.get? e = some ⟨.ref C, dd, .fields #[.ref t, .none, .none, .none, .bool false, .none], sl⟩ ∧ E (.ref e) s₁) E s) :
    wpAny (model prog w) A (raiseStmt env (some x) none) Q E s := by
  unfold raiseStmt
  refine wpAny_bind (wpAny_mono h (fun v s₁ h₁ => ?_) fun _ _ z => z)
  obtain ⟨e, C, t, dd, sl, rfl, X, c, he, hE⟩ := h₁
  obtain ⟨hp, g, d, tk, os⟩ := s₁
  have L1 : Looks (model prog w) hp (isSubtype (.ref C) (.type "BaseException")) true := by
    obtain ⟨cd, hc, hm, _⟩ := c.cls
    obtain ⟨m1, m2, m3⟩ := exc_has hm
    exact looks_mroIn X (by unfold mroIn; rw [hc, Option.bind_some, if_neg (by rw [m3]; decide), m2])
  obtain ⟨od, cd, sc, hk⟩ := c.at_
  have hC := X _ _ hk
  repeat (first | with_reducible refine wpAny_loadPart_at he ?_ | with_reducible refine wpAny_loadPart_at hC ?_ | with_reducible refine Looks.at L1 ?_ | wp_step)
  exact wpAny_raiseNew_none hh hE
end
end L2
set_option Elab.async false
set_option linter.all false
set_option maxRecDepth 100000
set_option maxHeartbeats 1000000
namespace L2
open PySem PySem.Spec PyProof.Rows PySem.W
def tRaise (K : PySem.W.Frag) (H₀ : Hp) (E : XK) (te : TE) : TS := fun _ σ H => te σ H fun v H1 => ∃ x C dd, v = .ref x ∧ H1 x = some (XN x C dd) ∧ XCls K C ∧ H₀ x = none ∧ E (.ref C) (some x) (upd H1 x (XO x C dd))
section
variable {P : Program} {w : World} {K : PySem.W.Frag} {mg : Str → Option Value} {base : Heap} {N : List Str} {qual : Str} {scope : Scope} {f : Addr} {cd : Value} {A : Around} {outer : List Env} {s : Shared} {H : Hp} {E : XK}
theorem raise_out {pins : List (Addr × Obj)} {σ : St} {H2 : Hp} {s2 : Shared} {x C : Addr} {dd : Option Addr} (I : Inv (cxOf (CXE P w) P w K mg base N qual scope f cd A outer s H E) pins σ H2 s2) (hx : H2 x = some (XN x C dd)) (hn : H x = none)
    (hE : E (.ref C) (some x) (upd H2 x (XO x C dd))) : (cxOf (CXE P w) P w K mg base N qual scope f cd A outer s H E).xe (.ref x) s2 := by
  obtain ⟨t, sl, he⟩ := XN.get I.hok hx
  have nex : ∀ b : Addr, b ∉ (cxOf (CXE P w) P w K mg base N qual scope f cd A outer s H E).ex := fun b z => absurd (show b ∈ ([] : List Addr) from z) (by simp)
  have nx : s.heap.get? x = none := by
    cases q : s.heap.get? x with
    | none => rfl
    | some o =>
      have := I.base.free x o q hn (nex x)
      rw [hx] at this
      cases this
  have old : ∀ b o, s.heap.get? b = some o → b ≠ x := fun b o q z => by rw [z, nx] at q; cases q
  have nfr : ∀ b o, s.heap.get? b = some o → b ∉ frs outer → b ∉ frs (envOfC qual scope s.heap.objs.size f cd :: outer) := fun b o q hb hm => by
    rcases List.mem_cons.mp (I.stkSub b hm) with z | z
    · exact absurd (Heap.lt_size q) (by rw [z]; exact Nat.lt_irrefl _)
    · exact hb z
  have hok' : HOk P w (upd H2 x (XO x C dd)) s2.heap := fun b o q => by
    by_cases hb : b = x
    · subst hb
      rw [upd_same] at q
      cases q
      exact XO.ok he
    · rw [upd_ne hb] at q
      refine (I.hok b o q).stay (fun _ _ _ r => r) (fun c r => ?_) fun c xs r => ?_
      · rw [upd_ne (fun z => by rw [z, hx] at r; cases r)]; exact r
      · rw [upd_ne (fun z => by rw [z, hx] at r; cases r)]; exact r
  show wpAny (model P w) (A.deeper (envOfC qual scope s.heap.objs.size f cd)) (leaving (envOfC qual scope s.heap.objs.size f cd) (.ref x)) _ _ s2
  refine leave_first (L := s.heap.objs.size) I.ok.frames I.stack rfl he rfl fun h'' T t' n' k' => ?_
  obtain ⟨vs, sl', oT, ts, he', r'⟩ := t'
  have tr' : Tr h'' x (.ref C) dd T .none := ⟨vs, sl', oT, ts, he', r'⟩
  have nT : T ≠ x := r'.2.1
  refine ⟨x, C, T, dd, upd H2 x (XO x C dd), rfl, I.os, I.bare, ?_, ?_, tr', nx, ?_, ?_, upd_same, hE⟩
  · refine ⟨fun b o q nn hb _ => ?_, fun b o q nn hb _ => ?_, fun b o q nn _ => ?_, fun b o q _ => ?_, fun b xs q => ?_, fun b o xs q => ?_, fun b ps q => ?_⟩
    · exact k'.keep b o (by simp [old b o q]) (nfr b o q hb) (I.base.keep b o q nn hb (nex b))
    · obtain ⟨s1', q1⟩ := I.base.slot b o q nn hb (nex b)
      obtain ⟨s3', q3⟩ := k'.slot b _ (by simp [old b o q]) q1
      exact ⟨s3', q3⟩
    · rw [upd_ne (old b o q)]
      exact I.base.free b o q nn (nex b)
    · obtain ⟨o1, q1⟩ := I.base.there b o q (nex b)
      obtain ⟨s3', q3⟩ := k'.slot b _ (by simp [old b o q]) q1
      exact ⟨_, q3⟩
    · have := I.base.tups b xs q
      rw [upd_ne (fun z => by rw [z, hx] at this; cases this)]; exact this
    · have := I.base.frzs b o xs q
      rw [upd_ne (fun z => by rw [z, hx] at this; cases this)]; exact this
    · obtain ⟨m1, e1⟩ := I.base.tbls b ps q
      exact ⟨m1, by rw [upd_ne (fun z => by rw [z, hx] at e1; cases e1)]; exact e1⟩
  · exact fly_hok hok' k' (fun b hb => .inl (by simpa using hb)) (fun b hb => by
      have z := I.stkFree b hb
      rw [upd_ne (fun y => by rw [y, hx] at z; cases z)]; exact z) upd_same he'
  · cases q : s.heap.get? T with
    | none => rfl
    | some o =>
      obtain ⟨o1, q1⟩ := I.base.there T o q (nex T)
      exact absurd (Heap.lt_size q1) (Nat.not_lt.mpr n')
  · rw [upd_ne nT]
    exact I.hok.fresh n'
theorem ps_raise {e : Expr} {te : TE} {pos : Pos} (he : PE (cxOf (CXE P w) P w K mg base N qual scope f cd A outer s H E) e te) : PS (cxOf (CXE P w) P w K mg base N qual scope f cd A outer s H E) (.Raise (some e) none pos) (tRaise K H E te) := by
  intro pins s1 σ H1 D I h
  rw [arm_exec_Raise]
  refine wpAny_bind (wpAny_standAt (exc_raiseStmt (K := K) (I.ok.hd rfl) (wpAny_bind (thn (he pins s1 σ H1 _ I h) fun v s2 ⟨y, H2, I2, r, x, C, dd, ey, hx, c, hn, hE⟩ => ?_))))
  subst ey
  obtain rfl : v = Value.ref x := r
  obtain ⟨t, sl, hg⟩ := XN.get I2.hok hx
  exact wpAny_bind (wpAny_standAt (wpAny_pure ⟨x, C, t, dd, sl, rfl, I2.kIn, c, hg, raise_out I2 hx hn hE⟩))
end
end L2
set_option Elab.async false
set_option linter.all false
set_option maxRecDepth 100000
set_option maxHeartbeats 1000000
namespace L2
open PySem PySem.Spec PyProof.Rows PySem.W
section
variable {prog : Program} {w : World} {A : Around} {E : Value → Shared → Prop} {h : Heap} {g : Array GenState} {d : Drawn} {t : Nat} {os : OsState}
variable {nm q : Str} {C N : Addr} {bs bm : List Value} {hdct : Bool} {sn : List Str} {sub : List Value} {ab : Bool} {col : Option Bool} {dd : Option Addr} {k0 k1 k2 k3 k5 : Option Value}
theorem exc_init0 {R : Result → Shared → Prop} {e a : Addr} (hB : bm.contains (.type "ValueError") = true) (hC : h.get? C = some (excClassObj nm q C N bs bm hdct sn sub ab col dd k0 k1 k2 k3 k5 vNew)) (he : h.get? e = some (newExc C a))
    (hq : ∀ h', h'.get? e = some (newExc C h.objs.size) → (∀ b o, b ≠ e → h.get? b = some o → h'.get? b = some o) → R (.ok (.ret .none)) ⟨h', g, d, t, os⟩) :
    codeAny (model prog w) A (.call (.builtin "ValueError.__init__") ⟨[.ref e], []⟩) R ⟨h, g, d, t, os⟩ := by
  have Fn := PySem.F.excBase_ValueError
  have cB : (Value.ref C :: bm).contains (.type "ValueError") = true := by rw [List.contains_cons, hB, Bool.or_true]
  have hshort := Fn.noStar
  refine codeAny_call_builtin Fn.init.plain Fn.initEntry ?_
  have chk : ∀ {Q : Unit → Shared → Prop} {E : Value → Shared → Prop} {A : Around}, Q () ⟨h, g, d, t, os⟩ → wpAny (model prog w) A (checkBuiltinCall "ValueError.__init__" ⟨[.ref e], []⟩) Q E ⟨h, g, d, t, os⟩ := by
    intro Q E A hq
    simp only [checkBuiltinCall, Fn.initKind, Fn.initSplit, Fn.initRow]
    repeat (first | with_reducible refine wpAny_loadPart_at he ?_ | with_reducible refine wpAny_loadPart_at hC ?_ | (with_reducible refine wpAny_isSubtype_exc hC ?_; rw [cB]) | wp_step)
    exact hq
  refine chk ?_
  wp_walk
  have hp := Heap.get?_push_of_some (h := h) { cls := .type "tuple", data := .seq ([] : List Value).toArray } he
  refine hq _ ?_ fun b o hb z => ?_
  · exact Heap.get?_update_self _ hp rfl
  · rw [Heap.get?_update_other _ _ (Ne.symm hb)]
    exact Heap.get?_push_of_some _ z
end
end L2
set_option Elab.async false
set_option linter.all false
set_option maxRecDepth 100000
set_option maxHeartbeats 1000000
namespace L2
open PySem PySem.Spec PyProof.Rows PySem.W
theorem FnOk.any {P : Program} {w : World} {K : PySem.W.Frag} {mg : Str → Option Value} {base : Heap} {CX : CXT} {k : Nat} {f : Addr} {fd : FuncData} {ps : List Str} {sp : Sp} (F : FnOk P w K mg base CX0 k f fd ps sp) : FnOk P w K mg base CX k f fd ps sp :=
  ⟨F.len, fun A outer s H args us vs Q E hr he hb hv hs => codeAny_mono (F.run A outer s H args us vs Q E hr he hb hv hs) fun r s' q => by
    cases r with
    | error e => exact False.elim q
    | ok fl =>
      cases fl with
      | ret u => exact q
      | next => exact q
      | brk => exact q
      | cont => exact q⟩
def sXset (K : PySem.W.Frag) (ta tv : TE) (f : Str) : TS := fun D σ H => tv σ H fun y H1 => ta σ H1 fun xv H2 => ∃ x C, xv = .ref x ∧ H2 x = some (XN x C none) ∧ XCls K C ∧ findIn K (.ref C) f = some none ∧
  ∀ dx, H2 dx = none → dx ≠ x → D.nx σ (upd (upd H2 dx (.xd [(f, y)])) x (XN x C (some dx)))
section
variable {X : Cx} {o value : Expr} {f : Str} {pos pos' : Pos} {ta tv : TE}
theorem ps_xset (ha : PE X o ta) (hv : PE X value tv) (hs : swapsWith value (some (.Attribute o f pos')) pos.line X.env = pure false := by rfl) : PS X (.Assign [.Attribute o f pos'] value pos) (sXset X.K ta tv f) := by
  intro pins s σ H D I h
  refine plainObj_wpAny_Assign_Attribute (thn (hv pins s σ H _ I h) fun u s1 ⟨y, H1, I1, ry, q⟩ => thn (ha pins s1 σ H1 _ I1 q) fun ov s2 ⟨xv, H2, I2, rx, x, C, ex, hx, c, hf, q2⟩ => ?_) hs
  subst ex
  obtain rfl : ov = Value.ref x := rx
  obtain ⟨t, sl, hg⟩ := XN.get I2.hok hx
  obtain ⟨cd, hc, hm, hh⟩ := c.cls
  refine exc_set I2.kIn hg hc hm hh c.sa hf fun h' g1 g2 g3 => ?_
  have hd0 : H2 s2.heap.objs.size = none := I2.hok.fresh (Nat.le_refl _)
  have hne : s2.heap.objs.size ≠ x := fun z => by rw [z, hx] at hd0; cases hd0
  have bx : ∀ b, H2 b = none → b ≠ x := fun b z y => by rw [y, hx] at z; cases z
  have bd : ∀ b o, s2.heap.get? b = some o → b ≠ s2.heap.objs.size := fun b o q => Nat.ne_of_lt (Heap.lt_size q)
  have tb : ∀ b u, H2 b = some u → b ≠ s2.heap.objs.size := fun b u q z => by rw [z, hd0] at q; cases q
  refine ⟨σ, upd (upd H2 s2.heap.objs.size (.xd [(f, y)])) x (XN x C (some s2.heap.objs.size)), I2.un ⟨fun b o q n _ _ => g3 b o (bx b n) q, fun b o q n _ _ => ⟨o.slots, g3 b o (bx b n) q⟩, fun b o q n _ => ?_, fun b o q _ => ?_, fun b xs q => ?_, fun b o xs q => ?_, fun b ps q => ?_⟩ ?_, q2 _ hd0 hne⟩
  · rw [upd_ne (bx b n), upd_ne (bd b o q)]; exact n
  · by_cases z : b = x
    · exact ⟨_, by rw [z]; exact g1⟩
    · exact ⟨o, g3 b o z q⟩
  · rw [upd_ne (fun z => by rw [z, hx] at q; cases q), upd_ne (tb b _ q)]; exact q
  · rw [upd_ne (fun z => by rw [z, hx] at q; cases q), upd_ne (tb b _ q)]; exact q
  · exact ⟨#[], by rw [upd_ne (fun z => by rw [z, hx] at q; cases q), upd_ne (tb b _ q), q]; simp⟩
  · intro b o q
    by_cases z : b = x
    · subst z
      rw [upd_same] at q
      cases q
      exact XN.ok g1
    · rw [upd_ne z] at q
      by_cases z2 : b = s2.heap.objs.size
      · subst z2
        rw [upd_same] at q
        cases q
        refine ⟨_, g2, fun k => ?_⟩
        show RelO (List.lookup k [(f, y)]) (if k = f then some u else none)
        by_cases e : k = f
        · subst e
          rw [if_pos rfl, List.lookup_cons, beq_self_eq_true]
          exact ry
        · have e' : (k == f) = false := by simpa using e
          rw [if_neg e, List.lookup_cons, e']
          exact True.intro
      · rw [upd_ne z2] at q
        refine (I2.hok b o q).stay (fun c' u' hc' r => g3 c' u' (fun z3 => ?_) r) (fun c' r => ?_) fun c' xs r => ?_
        · rcases hc' with e | e
          · exact z (e.symm.trans z3)
          · rw [z3, hx] at e; cases e
        · rw [upd_ne (fun z3 => by rw [z3, hx] at r; cases r), upd_ne (tb c' _ r)]; exact r
        · rw [upd_ne (fun z3 => by rw [z3, hx] at r; cases r), upd_ne (tb c' _ r)]; exact r
end
structure XMk (K : PySem.W.Frag) (C : Addr) : Prop where
  obj : ∃ nm q N bs bm hdct sn sub ab col dd k0 k1 k2 k3 k5, K.lookup C = some (excClassObj nm q C N bs bm hdct sn sub ab col dd k0 k1 k2 k3 k5 vNew) ∧ bm.contains (.type "ValueError") = true ∧ bm.contains (.type "AttributeError") = false ∧ bm.contains (.type "NameError") = false
  kp : keepIn K (.ref C) = true
def spInit (K : PySem.W.Frag) (f : Str) : Sp := fun vs H Q _ => ∃ x C v, vs = [.ref x, v] ∧ H x = some (XN x C none) ∧ XCls K C ∧ findIn K (.ref C) f = some none ∧
  ∀ dx, H dx = none → dx ≠ x → Q .non (upd (upd H dx (.xd [(f, v)])) x (XN x C (some dx)))
def tXM1 (C : Addr) (f : Str) (t : TA) : TE := fun σ H Q => t σ H fun vs H1 => ∃ v, vs = [v] ∧ ∀ x dx, H1 x = none → H1 dx = none → dx ≠ x → Q (.ref x) (upd (upd (upd H1 x (XN x C none)) dx (.xd [(f, v)])) x (XN x C (some dx)))
def tXM0 (C : Addr) : TE := fun _ H Q => ∀ x, H x = none → Q (.ref x) (upd H x (XN x C none))
section
variable {X : Cx} {C fi : Addr} {fd : FuncData} {p f x : Str} {k : Nat} {pos np : Pos} {e : Expr} {t : TA}
theorem Inv.newExc {pins : List (Addr × Obj)} {σ : St} {H : Hp} {s : Shared} (I : Inv X pins σ H s) (us : List Value) : Inv X pins σ (upd H (s.heap.objs.size + 1) (XN (s.heap.objs.size + 1) C none))
    { s with heap := (s.heap.push { cls := .type "tuple", data := .seq us.toArray }).push (L2.newExc C s.heap.objs.size) } := by
  have I1 : Inv X pins σ H { s with heap := s.heap.push { cls := .type "tuple", data := .seq us.toArray } } := I.kept (t' := s.toks) fun b u q => Heap.get?_push_of_some _ q
  refine I1.laid (a := s.heap.objs.size + 1) (t' := s.toks) (fun b u q => Heap.get?_push_of_some _ q) (Nat.le_of_eq (Heap.size_push _ _)) ?_
  refine XN.ok (t := s.heap.objs.size) (sl := #[]) ?_
  have := Heap.get?_push_size (s.heap.push { cls := .type "tuple", data := .seq us.toArray }) (o := L2.newExc C s.heap.objs.size) rfl
  rwa [Heap.size_push] at this
theorem pe_xmake1 (M : XMk X.K C) (c : XCls X.K C) (hi : findIn X.K (.ref C) "__init__" = some (some (.ref fi))) (fn : isFn X.K (.ref fi) = true) (hf : findIn X.K (.ref C) f = some none) (F : FnOk X.prog X.w X.K X.mg X.base CX0 k fi fd ["self", p] (spInit X.K f)) (hr : Room (k + 1) X.A) (hg : Gl X x)
    (hm : X.mg x = some (.ref C)) (hb : Binds X.K fd ["self", p] []) (ha : PA X [e] t) (hdb : (x == ("__debug__" : Str)) = false := by decide) (he : starEach [e] X.env = (false, eval e X.env) :: starEach [] X.env := by rfl) (hpl : (backTo pos (starEach [] X.env)).any (·.1) = false := by rfl) :
    PE X (.Call (.Name x np) [e] [] pos) (tXM1 C f t) := by
  intro pins s σ H Q I h
  refine wpAny_Call_Name_kw (ld_glob I hg hm ?_ hdb)
  refine PySem.W.callWith_K (h₀ := X.base) I.ok.mod.kin M.kp (thn (ha pos pins s σ H _ I h) fun us s1 ⟨vs, H1, I1, r, q⟩ => ⟨I1.kIn, ?_⟩) he hpl
  obtain ⟨v, rfl, q⟩ := q
  obtain ⟨u, rfl, ru⟩ := vals1 r
  obtain ⟨nm, qn, Nn, bs, bm, hdct, sn, sub, ab, col, dd, k0, k1, k2, k3, k5, hk, hB, hA, hN⟩ := M.obj
  have I2 := Inv.newExc (C := C) I1 [u]
  have n1 : H1 (s1.heap.objs.size + 1) = none := I1.hok.fresh (Nat.le_succ _)
  have r2 : Vals [V.ref (s1.heap.objs.size + 1), v] [Value.ref (s1.heap.objs.size + 1), u] := .cons rfl (.cons ru .nil)
  have hq : spInit X.K f [V.ref (s1.heap.objs.size + 1), v] (upd H1 (s1.heap.objs.size + 1) (XN (s1.heap.objs.size + 1) C none)) (fun z H3 => z = .non ∧ Q (.ref (s1.heap.objs.size + 1)) H3) E0 :=
    ⟨_, C, v, rfl, upd_same, c, hf, fun dx hd hne => ⟨rfl, q _ dx n1 (by rw [upd_ne hne] at hd; exact hd) hne⟩⟩
  obtain ⟨hh, g, d, tk, os⟩ := s1
  refine exc_call (K := X.K) I1.kIn hB hA hN (I1.kIn _ _ hk) (by show 1 ≤ sizeLine; decide) hi (bind_fn I1.kIn _ (beq_iff_eq.mp fn)) ?_
  refine codeAny_mono (F.run _ X.stack _ _ ⟨[Value.ref (hh.objs.size + 1), u], []⟩ [Value.ref (hh.objs.size + 1), u] _ _ E0 (hr.make C [u] []) (I2.env0.make C [u] []) (by have := hb _ [Value.ref (hh.objs.size + 1), u] I2.kIn rfl; rwa [List.append_nil] at this) r2 hq) fun r s' hq' => ?_
  cases r with
  | error e => exact False.elim hq'
  | ok fl =>
    cases fl with
    | ret u' =>
      obtain ⟨v', H', I3, rv, ev, q3⟩ := I2.after hq'
      subst ev
      exact ⟨rv, ⟨V.ref (hh.objs.size + 1), H', I3, rfl, q3⟩⟩
    | next => exact False.elim hq'
    | brk => exact False.elim hq'
    | cont => exact False.elim hq'
theorem pe_xmake0 (M : XMk X.K C) (hi : findIn X.K (.ref C) "__init__" = some (some (.builtin "ValueError.__init__"))) (hg : Gl X x) (hm : X.mg x = some (.ref C)) (hdb : (x == ("__debug__" : Str)) = false := by decide) :
    PE X (.Call (.Name x np) [] [] pos) (tXM0 C) := by
  intro pins s σ H Q I h
  refine wpAny_Call_Name_kw (ld_glob I hg hm ?_ hdb)
  refine PySem.W.callWith_K0 I.kIn M.kp ?_
  obtain ⟨nm, qn, Nn, bs, bm, hdct, sn, sub, ab, col, dd, k0, k1, k2, k3, k5, hk, hB, hA, hN⟩ := M.obj
  have I2 := Inv.newExc (C := C) I []
  have n1 : H (s.heap.objs.size + 1) = none := I.hok.fresh (Nat.le_succ _)
  have Fn := PySem.F.excBase_ValueError
  obtain ⟨hh, g, d, tk, os⟩ := s
  have hC := I.kIn _ _ hk
  refine exc_call (K := X.K) I.kIn hB hA hN hC (by show 0 ≤ sizeLine; decide) hi (j := .builtin "ValueError.__init__") (Looks.of_pure (Fn.init.bind _)) ?_
  have hC2 : ((hh.push { cls := .type "tuple", data := .seq ([] : List Value).toArray }).push (L2.newExc C hh.objs.size)).get? C = some _ := Heap.get?_push_of_some _ (Heap.get?_push_of_some _ hC)
  have he2 : ((hh.push { cls := .type "tuple", data := .seq ([] : List Value).toArray }).push (L2.newExc C hh.objs.size)).get? (hh.objs.size + 1) = some (L2.newExc C hh.objs.size) := by
    have := Heap.get?_push_size (hh.push { cls := .type "tuple", data := .seq ([] : List Value).toArray }) (o := L2.newExc C hh.objs.size) rfl
    rwa [Heap.size_push] at this
  refine exc_init0 hB hC2 he2 fun h' g1 g3 => ⟨rfl, .ref (hh.objs.size + 1), _, ?_, rfl, h _ n1⟩
  have e : upd (upd H (hh.objs.size + 1) (XN (hh.objs.size + 1) C none)) (hh.objs.size + 1) (XN (hh.objs.size + 1) C none) = upd H (hh.objs.size + 1) (XN (hh.objs.size + 1) C none) := by
    funext b
    by_cases z : b = hh.objs.size + 1
    · rw [z, upd_same, upd_same]
    · rw [upd_ne z]
  have W := I2.write (x := hh.objs.size + 1) (e := hh.objs.size + 1) (o := XN (hh.objs.size + 1) C none) (h' := h') (t' := tk) (by rw [upd_same]; exact True.intro) (.inl rfl) (fun b u hb q => g3 b u hb q) ⟨_, g1⟩ (XN.ok g1)
  rw [e] at W
  exact W
end
end L2
set_option Elab.async false
set_option linter.all false
set_option maxRecDepth 100000
set_option maxHeartbeats 1000000
namespace L2
open PySem PySem.Spec PyProof.Rows PySem.W
def XAt (H : Hp) (x C : Addr) (dd : Option Addr) : Prop := H x = some (XO x C dd) ∨ H x = some (XN x C dd)
theorem XAt.get {P : Program} {w : World} {H : Hp} {h : Heap} {x C : Addr} {dd : Option Addr} (a : XAt H x C dd) (hok : HOk P w H h) : ∃ vs sl, h.get? x = some ⟨.ref C, dd, .fields vs, sl⟩ := by
  rcases a with a | a
  · exact XO.get hok a
  · obtain ⟨t, sl, e⟩ := XN.get hok a
    exact ⟨_, sl, e⟩
def tXF (K : PySem.W.Frag) (ta : TE) (f : Str) : TE := fun σ H Q => ta σ H fun xv H1 => ∃ x C dx fs v, xv = .ref x ∧ XAt H1 x C (some dx) ∧ XCls K C ∧ findIn K (.ref C) f = some none ∧ H1 dx = some (.xd fs) ∧ fs.lookup f = some v ∧ Q v H1
def rIsiX (K : PySem.W.Frag) : List V → Hp → VK → Prop := fun xs H Q => ∃ x C dd c cv b, xs = [.ref x, c] ∧ clsV c = some cv ∧ XAt H x C dd ∧ (∀ dx, dd = some dx → ∃ fs, H dx = some (.xd fs)) ∧ XCls K C ∧ kitOne K (.ref C) cv = some b ∧ Q (.bl b) H
section
variable {X : Cx} {e : Expr} {f : Str} {pos : Pos} {ta : TE}
end
end L2
set_option Elab.async false
set_option linter.all false
set_option maxRecDepth 100000
set_option maxHeartbeats 1000000
namespace L2
open PySem PySem.Spec PyProof.Rows PySem.W
section
variable {prog : Program} {w : World} {A : Around} {E : Value → Shared → Prop} {K : PySem.W.Frag} {h : Heap} {g : Array GenState} {d : Drawn} {t : Nat} {os : OsState} {x C B : Addr}
theorem XCls.base (c : XCls K C) : mroIn K C (.type "BaseException") = some true := by
  obtain ⟨cd, hc, hm, _⟩ := c.cls
  obtain ⟨m1, m2, m3⟩ := exc_has hm
  unfold mroIn
  rw [hc, Option.bind_some, if_neg (by rw [m3]; decide), m2]
end
end L2
set_option Elab.async false
set_option linter.all false
set_option maxRecDepth 100000
set_option maxHeartbeats 1000000
namespace L2
open PySem PySem.Spec PyProof.Rows PySem.W
section
variable {M : Model} {A : Around} {E : Value → Shared → Prop} {s : Shared}
end
end L2
set_option Elab.async false
set_option linter.all false
set_option maxRecDepth 100000
set_option maxHeartbeats 1000000
namespace L2
open PySem PySem.Spec PyProof.Rows PySem.W
section
variable {X : Cx} {pins : List (Addr × Obj)} {σ : St} {H : Hp} {s : Shared} {M : Model} {A : Around} {E : Value → Shared → Prop}
end
end L2
set_option Elab.async false
set_option linter.all false
set_option maxRecDepth 100000
set_option maxHeartbeats 1000000
namespace L2
open PySem PySem.Spec PyProof.Rows PySem.W
def hCx (X : Cx) (x : Addr) : Cx := { X with A := X.A.mark (some (.ref x)), calm := false, xe := fun _ _ => False }
section
variable {X : Cx} {pins : List (Addr × Obj)} {σ : St} {H : Hp} {s : Shared} {x : Addr}
def hSet (n : Option Nat) (x : Addr) (σ : St) : St := match n with | some i => σ.set i (some (.ref x)) | none => σ
def hEnds (n : Option Nat) (D : Ends) : Ends := match n with
  | some i => { nx := fun σ H => D.nx (σ.set i none) H, rt := D.rt, bk := fun σ H => D.bk (σ.set i none) H, ct := fun σ H => D.ct (σ.set i none) H }
  | none => D
end
end L2
set_option Elab.async false
set_option linter.all false
set_option maxRecDepth 100000
set_option maxHeartbeats 1000000
namespace L2
open PySem PySem.Spec PyProof.Rows PySem.W
def PH (X : Cx) (n : Option Nat) (B : Addr) (hd : ExceptHandler) (ts : TS) : Prop := ∀ (pins : List (Addr × Obj)) (σ : St) (H : Hp) (s : Shared) (x C T : Addr) (dd : Option Addr) (D : Ends), Inv X pins σ H s → Tr s.heap x (.ref C) dd T .none → H T = none →
  (X.env.locals < T ∧ (∀ y c, X.env.cells.lookup y = some c → c ≠ T) ∧ ∀ p ∈ X.pn ++ pins, p.1 ≠ T) → XCls X.K C → mroIn X.K C (.ref B) = some true → ts (hEnds n D) (hSet n x σ) H → wpAny (model X.prog X.w) X.A (handleBy (.ref x) X.env [hd]) (SP X pins D) X.xe s
def tTry (K : PySem.W.Frag) (B : Addr) (n : Option Nat) (sp : Sp) (ta : TA) (put : V → St → St) (ts : TS) : TS := fun D σ H => ta σ H fun vs H1 => sp vs H1 (fun v H2 => D.nx (put v σ) H2)
  (fun cv xo H2 => ∃ C x dd, cv = .ref C ∧ xo = some x ∧ H2 x = some (XO x C dd) ∧ XCls K C ∧ mroIn K C (.ref B) = some true ∧ ts (hEnds n D) (hSet n x σ) H2)
section
variable {X : Cx} {B : Addr} {n : Option Nat} {hd : ExceptHandler} {ts : TS}
variable {k : Nat} {f : Str} {ps : List Str} {sp : Sp} {e : Expr} {es : List Expr} {t : TA} {p cpos epos pos : Pos}
end
section
variable {P : Program} {w : World} {K : PySem.W.Frag} {mg : Str → Option Value} {base : Heap} {k : Nat} {x : Str} {ps : List Str} {sp : Sp}
theorem calleeX_of {st : Stmt} {N : List Str} (D : DefAt K mg x st)
    (hb : ∀ (kV doc pm : Value) (an : Option Addr) (cdv ct : Value) (us : List Value), us.length = ps.length → bindArgs (PySem.W.fnOf x x (defArgs st) (defBody st) (defScope st) .none kV doc pm an cdv ct) ⟨us, []⟩ = pure (ps.zip us))
    (S : FnScope N ps (defScope st)) (len : ∀ vs H Q E, sp vs H Q E → vs.length = ps.length)
    (hbody : ∀ (f : Addr) (cdv : Value) (A : Around) (outer : List Env) (s : Shared) (H : Hp) (vs : List V) (Q : VK) (E : XK), Room k (A.deeper (envOfC x (defScope st) s.heap.objs.size f cdv)) → sp vs H Q E →
      ∃ t, PSs (cxOf (CXE P w) P w K mg base N x (defScope st) f cdv A outer s H E) (defBody st) t ∧ t { nx := fun _ H' => Q .non H', rt := Q } (start N vs) H) : Callee P w K mg base (CXE P w) (k + 1) x ps sp := by
  obtain ⟨f, fd, F, hm⟩ := D
  obtain ⟨oc, od, kV, doc, pm, an, cdv, ct, osl, rfl, lk, hcd⟩ := F.ex
  exact ⟨f, _, fn_of lk hcd S len fun A outer s H vs Q E hr h => hbody f cdv A outer s H vs Q E hr h, hm, F.kp, F.binds hb⟩
theorem Callee.any {CX : CXT} (C : Callee P w K mg base CX0 k x ps sp) : Callee P w K mg base CX k x ps sp := by
  obtain ⟨f, fd, F, a, b, c⟩ := C.ex
  exact ⟨f, fd, F.any, a, b, c⟩
end
end L2
set_option Elab.async false
set_option linter.all false
set_option maxRecDepth 100000
set_option maxHeartbeats 1000000
namespace L2
open PySem PySem.Spec PyProof.Rows PySem.W
theorem init_ok {P : Program} {w : World} {K : PySem.W.Frag} {mg : Str → Option Value} {base : Heap} {qual f p : Str} {st : Stmt} {fi : Addr} {fd : FuncData} {p1 p2 p3 p4 : Pos} (F : Fun K "__init__" qual st fi fd) (S : FnScope ["self", p] ["self", p] (defScope st))
    (hb : defBody st = [.Assign [.Attribute (.Name "self" p1) f p2] (.Name p p3) p4]) (h1 : (defScope st).names.lookup ("self" : Str) = some .local) (h2 : (defScope st).names.lookup p = some .local) (hd : (p == ("__debug__" : Str)) = false) (hcd : (p == ("__classdict__" : Str)) = false)
    (ab : ∀ env : Env, attributeBase (.Name "self" p1) f env (eval (.Name "self" p1) env) = eval (.Name "self" p1) env) (sw : ∀ env : Env, swapsWith (.Name p p3) (some (.Attribute (.Name "self" p1) f p2)) p4.line env = pure false) : FnOk P w K mg base CX0 1 fi fd ["self", p] (spInit K f) := by
  refine F.ok S (fun vs H Q E h => ?_) (fun cdv A outer s H vs Q E hr h => ?_)
  · obtain ⟨x, C, v, rfl, _⟩ := h
    rfl
  · obtain ⟨x, C, v, rfl, hx, c, hf, q⟩ := h
    rw [hb]
    refine ⟨_, pss_one (ps_xset (pe_var (i := 0) rfl (.inl h1) (by decide) (by decide)) (pe_var (i := 1) rfl (.inl h2) hd hcd) (sw _)), ?_⟩
    exact ⟨v, rfl, .ref x, rfl, x, C, rfl, hx, c, hf, fun dx n ne => q dx n ne⟩
structure XCl1 (P : Program) (w : World) (K : PySem.W.Frag) (mg : Str → Option Value) (base : Heap) (x : Str) (C : Addr) (f : Str) : Prop where
  mkd : XMk K C
  cls : XCls K C
  at_ : mg x = some (.ref C)
  nof : findIn K (.ref C) f = some none
  ex : ∃ fi fd p, findIn K (.ref C) "__init__" = some (some (.ref fi)) ∧ isFn K (.ref fi) = true ∧ FnOk P w K mg base CX0 1 fi fd ["self", p] (spInit K f) ∧ Binds K fd ["self", p] []
structure XCl0 (K : PySem.W.Frag) (mg : Str → Option Value) (x : Str) (C : Addr) : Prop where
  mkd : XMk K C
  cls : XCls K C
  at_ : mg x = some (.ref C)
  ini : findIn K (.ref C) "__init__" = some (some (.builtin "ValueError.__init__"))
section
variable {X : Cx} {C : Addr} {f x : Str} {pos np : Pos} {e : Expr} {t : TA}
theorem pe_xm1 (c : XCl1 X.prog X.w X.K X.mg X.base x C f) (hr : Room 2 X.A) (hg : Gl X x) (ha : PA X [e] t) (hdb : (x == ("__debug__" : Str)) = false := by decide)
    (he : starEach [e] X.env = (false, eval e X.env) :: starEach [] X.env := by rfl) (hpl : (backTo pos (starEach [] X.env)).any (·.1) = false := by rfl) : PE X (.Call (.Name x np) [e] [] pos) (tXM1 C f t) := by
  obtain ⟨fi, fd, p, hi, fn, F, hb⟩ := c.ex
  exact pe_xmake1 c.mkd c.cls hi fn c.nof F hr hg c.at_ hb ha hdb he hpl
theorem pe_xm0 (c : XCl0 X.K X.mg x C) (hg : Gl X x) (hdb : (x == ("__debug__" : Str)) = false := by decide) : PE X (.Call (.Name x np) [] [] pos) (tXM0 C) := pe_xmake0 c.mkd c.ini hg c.at_ hdb
end
end L2
set_option Elab.async false
set_option linter.all false
set_option maxRecDepth 100000
set_option maxHeartbeats 1000000
namespace L2
open PySem PySem.Spec PyProof.Rows PySem.W
inductive EqD (K : PySem.W.Frag) (H : Hp) : Nat → V → V → Bool → Prop
  | flat {d : Nat} {y x : V} : flatV y = true → flatV x = true → EqD K H d y x (eqV y x)
  | same {d : Nat} {p : Addr} : EqD K H d (.ref p) (.ref p) true
  | lists {d : Nat} {p q : Addr} {xs ys : List V} {e : Nat → Bool} : p ≠ q → SqL K H p xs → SqL K H q ys → xs.length = ys.length → (∀ j y x, xs[j]? = some y → ys[j]? = some x → EqD K H d y x (e j)) → EqD K H (d + 1) (.ref p) (.ref q) ((List.range xs.length).all e)
  | unlike {d : Nat} {p q : Addr} {xs ys : List V} : p ≠ q → SqL K H p xs → SqL K H q ys → xs.length ≠ ys.length → EqD K H (d + 1) (.ref p) (.ref q) false
  | tups {d : Nat} {p q : Addr} {xs ys : List V} {e : Nat → Bool} : p ≠ q → SqT K H p xs → SqT K H q ys → (∀ j y x, xs[j]? = some y → ys[j]? = some x → EqD K H d y x (e j)) → EqD K H (d + 1) (.ref p) (.ref q) ((List.range (min xs.length ys.length)).all e && xs.length == ys.length)
section
variable {X : Cx} {pins : List (Addr × Obj)} {σ : St} {H : Hp} {s : Shared}
theorem Vals.at {xs : List V} {us : List Value} (r : Vals xs us) : ∀ {j : Nat} {u : Value}, us[j]? = some u → ∃ x, xs[j]? = some x ∧ RelV x u := by
  induction r with
  | nil => intro j u h; simp at h
  | cons r t ih =>
    intro j u h
    cases j with
    | zero => simp only [List.getElem?_cons_zero, Option.some.injEq] at h; subst h; exact ⟨_, rfl, r⟩
    | succ j => simp only [List.getElem?_cons_succ] at h ⊢; exact ih h
theorem Vals.len {xs : List V} {us : List Value} (r : Vals xs us) : us.length = xs.length := by
  induction r with
  | nil => rfl
  | cons r t ih => simp only [List.length_cons, ih]
def rEqD (K : PySem.W.Frag) : R2 := fun y x H Q => ∃ p q b, y = .ref p ∧ x = .ref q ∧ p ≠ q ∧ EqD K H 60 y x b ∧ Q (.bl b) H
end
end L2
set_option Elab.async false
set_option linter.all false
set_option maxRecDepth 100000
set_option maxHeartbeats 1000000
namespace L2
open PySem PySem.Spec PyProof.Rows PySem.W
theorem cutx {A B : Prop} (a : A) (f : A → B) : B := f a
section
variable {K : PySem.W.Frag} {mg : Str → Option Value} {h : Heap} {x f p qual : Str} {C D fi N : Addr}
section
variable {nm q : Str} {bs bm : List Value} {hdct ab : Bool} {sn : Option Str} {od : Option Addr} {cd : ClassData} {sl : Array (Option Value)}
theorem xmk_of {o : Obj} (l : K.lookup C = some o) (ob : ∃ nm q N bs bm hdct sn sub ab col dd k0 k1 k2 k3 k5, o = excClassObj nm q C N bs bm hdct sn sub ab col dd k0 k1 k2 k3 k5 vNew ∧ bm.contains (.type "ValueError") = true ∧ bm.contains (.type "AttributeError") = false ∧ bm.contains (.type "NameError") = false) (kp : keepIn K (.ref C) = true) : XMk K C := by
  obtain ⟨nm, q, N, bs, bm, hdct, sn, sub, ab, col, dd, k0, k1, k2, k3, k5, e, r⟩ := ob
  subst e
  exact ⟨⟨nm, q, N, bs, bm, hdct, sn, sub, ab, col, dd, k0, k1, k2, k3, k5, l, r⟩, kp⟩
theorem xcls_mk (l : K.lookup C = some ⟨.type "type", od, .cls cd, sl⟩) (h2 : excMro cd.mro = true) (h3 : cd.hasDict = true)
    (sa : findIn K (.ref C) "__setattr__" = some (some (.builtin "object.__setattr__"))) (ga : findIn K (.ref C) "__getattribute__" = some (some (.builtin "BaseException.__getattribute__"))) (gx : findIn K (.ref C) "__getattr__" = some none)
    (ca : findIn K (.ref C) "__class__" = some (some (.builtin "object.__class__"))) (gs : specialIn K (.builtin "object.__class__") "__get__" = some (some (.builtin "getset_descriptor.__get__"))) (tk : takesIn K (.builtin "object.__class__") = some true) : L2.XCls K C :=
  ⟨⟨cd, by unfold clsIn; rw [l], h2, h3⟩, ⟨_, _, _, l⟩, sa, ga, gx, ca, gs, tk⟩
theorem xcl0_mk (a : mg x = some (.ref C)) (M : XMk K C) (c : XCls K C) (ini : findIn K (.ref C) "__init__" = some (some (.builtin "ValueError.__init__"))) : XCl0 K mg x C := ⟨M, c, a, ini⟩
structure InitSt (qual f p : Str) (st : Stmt) : Prop where
  S : FnScope ["self", p] ["self", p] (defScope st)
  hb : ∃ p1 p2 p3 p4, defBody st = [.Assign [.Attribute (.Name "self" p1) f p2] (.Name p p3) p4] ∧ (∀ env : Env, attributeBase (.Name "self" p1) f env (eval (.Name "self" p1) env) = eval (.Name "self" p1) env) ∧ (∀ env : Env, swapsWith (.Name p p3) (some (.Attribute (.Name "self" p1) f p2)) p4.line env = pure false)
  h1 : (defScope st).names.lookup ("self" : Str) = some .local
  h2 : (defScope st).names.lookup p = some .local
  hd : (p == ("__debug__" : Str)) = false
  hcd : (p == ("__classdict__" : Str)) = false
  bd : ∀ (kV doc pm : Value) (an : Option Addr) (cdv ct : Value) (us : List Value), us.length = 2 → bindArgs (PySem.W.fnOf "__init__" qual (defArgs st) (defBody st) (defScope st) .none kV doc pm an cdv ct) ⟨us, []⟩ = pure ((["self", p] : List Str).zip us)
theorem xcl1_mk {st : Stmt} {oc : Value} {od an : Option Addr} {osl : Array (Option Value)} {kV doc pm cdv ct : Value} (I : InitSt qual f p st) (a : mg x = some (.ref C)) (M : XMk K C) (c : XCls K C) (nof : findIn K (.ref C) f = some none)
    (ini : findIn K (.ref C) "__init__" = some (some (.ref fi))) (fn : isFn K (.ref fi) = true) (l : K.lookup fi = some ⟨oc, od, .func (PySem.W.fnOf "__init__" qual (defArgs st) (defBody st) (defScope st) .none kV doc pm an cdv ct), osl⟩) (cc : codeIn K cdv qual = true) (kk : keepIn K (.ref fi) = true) :
    ∀ (P : Program) (w : World) (base : Heap), XCl1 P w K mg base x C f := fun P w base => by
  obtain ⟨p1, p2, p3, p4, hb, ab, sw⟩ := I.hb
  have F := fun_mk l cc kk
  exact ⟨M, c, a, nof, fi, _, p, ini, fn, init_ok F I.S hb I.h1 I.h2 I.hd I.hcd ab sw, F.binds I.bd⟩
end
theorem xcls_at {od : Option Addr} {cd : ClassData} {sl : Array (Option Value)} (_ : K.In h) (_ : mg x = some (.ref C)) (l : K.lookup C = some ⟨.type "type", od, .cls cd, sl⟩) (h2 : excMro cd.mro = true) (h3 : cd.hasDict = true)
    (sa : findIn K (.ref C) "__setattr__" = some (some (.builtin "object.__setattr__"))) (ga : findIn K (.ref C) "__getattribute__" = some (some (.builtin "BaseException.__getattribute__"))) (gx : findIn K (.ref C) "__getattr__" = some none)
    (ca : findIn K (.ref C) "__class__" = some (some (.builtin "object.__class__"))) (gs : specialIn K (.builtin "object.__class__") "__get__" = some (some (.builtin "getset_descriptor.__get__"))) (tk : takesIn K (.builtin "object.__class__") = some true)
    (ob : ∃ nm q N bs bm hdct sn sub ab col dd k0 k1 k2 k3 k5, (⟨.type "type", od, .cls cd, sl⟩ : Obj) = excClassObj nm q C N bs bm hdct sn sub ab col dd k0 k1 k2 k3 k5 vNew ∧ bm.contains (.type "ValueError") = true ∧ bm.contains (.type "AttributeError") = false ∧ bm.contains (.type "NameError") = false) (kp : keepIn K (.ref C) = true) : XCls K C ∧ XMk K C :=
  ⟨xcls_mk l h2 h3 sa ga gx ca gs tk, xmk_of l ob kp⟩
end
end L2
set_option Elab.async false
set_option linter.all false
namespace Pw
theorem pow_emod (x n : Int) : ∀ k : Nat, (x % n) ^ k % n = x ^ k % n
  | 0 => by rw [Int.pow_zero, Int.pow_zero]
  | k + 1 => by rw [Int.pow_succ, Int.pow_succ, Int.mul_emod, pow_emod x n k, Int.emod_emod, ← Int.mul_emod]
theorem sq_pow (b : Int) : ∀ k : Nat, (b * b) ^ k = b ^ (2 * k)
  | 0 => by rw [Nat.mul_zero, Int.pow_zero, Int.pow_zero]
  | k + 1 => by
    rw [Int.pow_succ, sq_pow b k, Nat.mul_add, Nat.mul_one, Int.pow_succ, Int.pow_succ, Int.mul_assoc]
theorem mul_l (x y n : Int) : x % n * y % n = x * y % n := by rw [Int.mul_emod, Int.emod_emod, ← Int.mul_emod]
theorem mul_c {x x' y y' n : Int} (h : x % n = x' % n) (h' : y % n = y' % n) : x * y % n = x' * y' % n := by rw [Int.mul_emod, h, h', ← Int.mul_emod]
theorem step (r b n : Int) (l : Nat) : (if l % 2 = 1 then r * b % n else r) * (b * b % n) ^ (l / 2) % n = r * b ^ l % n := by
  have e : (b * b % n) ^ (l / 2) % n = b ^ (2 * (l / 2)) % n := by rw [pow_emod, sq_pow]
  by_cases c : l % 2 = 1
  · rw [if_pos c]
    have h : l = 2 * (l / 2) + 1 := by omega
    have e2 : b ^ l = b ^ (2 * (l / 2)) * b := by rw [← Int.pow_succ]; exact congrArg _ h
    rw [mul_c (Int.emod_emod_of_dvd (r * b) (Int.dvd_refl n)) e, e2]
    congr 1
    rw [Int.mul_assoc, Int.mul_comm b]
  · rw [if_neg c]
    have h : l = 2 * (l / 2) := by omega
    rw [mul_c (rfl : r % n = r % n) e, ← h]
theorem pow_add (a : Int) (m : Nat) : ∀ k : Nat, a ^ (m + k) = a ^ m * a ^ k
  | 0 => by rw [Nat.add_zero, Int.pow_zero, Int.mul_one]
  | k + 1 => by rw [← Nat.add_assoc, Int.pow_succ, pow_add a m k, Int.pow_succ, Int.mul_assoc]
theorem mul_pow (a b : Int) : ∀ k : Nat, (a * b) ^ k = a ^ k * b ^ k
  | 0 => by rw [Int.pow_zero, Int.pow_zero, Int.pow_zero, Int.mul_one]
  | k + 1 => by
    rw [Int.pow_succ, Int.pow_succ, Int.pow_succ, mul_pow a b k]
    grind
theorem pow_mul (a : Int) (m : Nat) : ∀ k : Nat, a ^ (m * k) = (a ^ m) ^ k
  | 0 => by rw [Nat.mul_zero, Int.pow_zero, Int.pow_zero]
  | k + 1 => by rw [Nat.mul_add, Nat.mul_one, pow_add, pow_mul a m k, Int.pow_succ]
theorem one_pow : ∀ k : Nat, (1 : Int) ^ k = 1
  | 0 => Int.pow_zero 1
  | k + 1 => by rw [Int.pow_succ, one_pow k, Int.mul_one]
theorem al_iff {n x y : Int} : x % n = y % n ↔ n ∣ x - y := by
  rw [Int.emod_eq_emod_iff_emod_sub_eq_zero, Int.dvd_iff_emod_eq_zero]
end Pw
namespace L2
open PySem PySem.Spec PyProof.Rows
end L2
set_option Elab.async false
set_option linter.all false
set_option maxRecDepth 100000
set_option maxHeartbeats 1000000
namespace L2
open PySem PySem.Spec PyProof.Rows PySem.W
def tRev (K : PySem.W.Frag) (te : TE) (tk : TO) : TE := fun σ H Q => te σ H fun x H1 => tk σ H1 fun o H2 => o = some (-1) ∧ ∃ a xs, x = .ref a ∧ SqL K H2 a xs ∧ ∀ p, H2 p = none → Q (.ref p) (upd H2 p (.lst xs.reverse))
section
variable {X : Cx} {e k : Expr} {te : TE} {tk : TO} {p2 pos : Pos}
end
end L2
set_option Elab.async false
set_option linter.all false
set_option maxRecDepth 100000
set_option maxHeartbeats 1000000
namespace L2
open PySem PySem.Spec PyProof.Rows PySem.W
mutual
def dv (K : PySem.W.Frag) (H : Hp) : PyData → V → Prop
  | .none, v => v = .non
  | .bool b, v => v = .bl b
  | .int i, v => v = .int i
  | .str x, v => v = .str x
  | .list ds, v => ∃ p xs, v = .ref p ∧ SqL K H p xs ∧ dvs K H ds xs
  | .tuple ds, v => ∃ p xs, v = .ref p ∧ SqT K H p xs ∧ dvs K H ds xs
  | .dict _, _ => False
def dvs (K : PySem.W.Frag) (H : Hp) : List PyData → List V → Prop
  | [], xs => xs = []
  | d :: ds, xs => ∃ x r, xs = x :: r ∧ dv K H d x ∧ dvs K H ds r
end
section
variable {K : PySem.W.Frag} {H H' : Hp}
theorem Rd.same {a : Addr} {o : HO} (h : Rd H a o) (s : Same H H') : Rd H' a o := by
  rcases h with h | ⟨b, h⟩
  · exact .inl (s _ _ h)
  · exact .inr ⟨b, s _ _ h⟩
theorem SqL.same {a : Addr} {xs : List V} (h : SqL K H a xs) (s : Same H H') : SqL K H' a xs := h.imp (fun z => z.same s) id
theorem SqT.same {a : Addr} {xs : List V} (h : SqT K H a xs) (s : Same H H') : SqT K H' a xs := h.imp (fun z => z.same s) id
mutual
theorem dv.same (s : Same H H') : ∀ (d : PyData) {v : V}, dv K H d v → dv K H' d v
  | .none, _, h => h
  | .bool _, _, h => h
  | .int _, _, h => h
  | .str _, _, h => h
  | .list ds, _, ⟨p, xs, e, h, t⟩ => ⟨p, xs, e, h.same s, dvs.same s ds t⟩
  | .tuple ds, _, ⟨p, xs, e, h, t⟩ => ⟨p, xs, e, h.same s, dvs.same s ds t⟩
  | .dict _, _, h => h.elim
theorem dvs.same (s : Same H H') : ∀ (ds : List PyData) {xs : List V}, dvs K H ds xs → dvs K H' ds xs
  | [], _, h => h
  | d :: ds, _, ⟨x, r, e, h, t⟩ => ⟨x, r, e, dv.same s d h, dvs.same s ds t⟩
end
theorem dvs.length : ∀ {ds : List PyData} {xs : List V}, dvs K H ds xs → xs.length = ds.length
  | [], _, h => by cases h; rfl
  | d :: ds, _, ⟨x, r, e, h, t⟩ => by subst e; rw [List.length_cons, List.length_cons, dvs.length t]
theorem dvs.get : ∀ {ds : List PyData} {xs : List V}, dvs K H ds xs → ∀ {i : Nat} {x : V}, xs[i]? = some x → ∃ d, ds[i]? = some d ∧ dv K H d x
  | [], _, h, i, x, e => by cases h; simp at e
  | d :: ds, _, ⟨y, r, ey, h, t⟩, 0, x, e => by subst ey; simp at e; subst e; exact ⟨d, rfl, h⟩
  | d :: ds, _, ⟨y, r, ey, h, t⟩, i + 1, x, e => by subst ey; simp at e; simpa using dvs.get t e
theorem dvs.get' : ∀ {ds : List PyData} {xs : List V}, dvs K H ds xs → ∀ {i : Nat} {d : PyData}, ds[i]? = some d → ∃ x, xs[i]? = some x ∧ dv K H d x
  | [], _, h, i, x, e => by simp at e
  | d :: ds, _, ⟨y, r, ey, h, t⟩, 0, x, e => by subst ey; simp at e; subst e; exact ⟨y, rfl, h⟩
  | d :: ds, _, ⟨y, r, ey, h, t⟩, i + 1, x, e => by subst ey; simp at e; simpa using dvs.get' t e
theorem dvs.append : ∀ {ds es : List PyData} {xs ys : List V}, dvs K H ds xs → dvs K H es ys → dvs K H (ds ++ es) (xs ++ ys)
  | [], _, _, _, h, h' => by cases h; exact h'
  | d :: ds, _, _, _, ⟨x, r, e, h, t⟩, h' => by subst e; exact ⟨x, _, rfl, h, t.append h'⟩
theorem dvs.one {d : PyData} {x : V} (h : dv K H d x) : dvs K H [d] [x] := ⟨x, [], rfl, h, rfl⟩
theorem dv.lst {p : Addr} {xs : List V} {ds : List PyData} (h : H p = some (.lst xs)) (t : dvs K H ds xs) : dv K H (.list ds) (.ref p) := ⟨p, xs, rfl, SqL.of h, t⟩
theorem dv.tup {p : Addr} {xs : List V} {ds : List PyData} (h : H p = some (.tup xs)) (t : dvs K H ds xs) : dv K H (.tuple ds) (.ref p) := ⟨p, xs, rfl, SqT.of h, t⟩
theorem atI_end {α : Type} {xs : List α} {v : α} (h : xs.getLast? = some v) : atI xs (-1) = some v := by
  have l : 0 < xs.length := by
    cases xs with
    | nil => simp at h
    | cons => simp
  unfold atI ixN
  rw [if_neg (by decide), if_pos (by omega), Option.bind_some, show (-1 + (xs.length : Int)).toNat = xs.length - 1 by omega, ← List.getLast?_eq_getElem?, h]
theorem dvs.last {ds : List PyData} {us : List V} {d : PyData} (h : dvs K H ds us) (e : ds.getLast? = some d) : ∃ v, atI us (-1) = some v ∧ dv K H d v := by
  rw [List.getLast?_eq_getElem?] at e
  obtain ⟨v, hv, hd⟩ := h.get' e
  refine ⟨v, atI_end ?_, hd⟩
  rw [List.getLast?_eq_getElem?, h.length, hv]
mutual
def noL : PyData → Bool
  | .list _ => false
  | .tuple ds => noLs ds
  | _ => true
def noLs : List PyData → Bool
  | [] => true
  | d :: ds => noL d && noLs ds
end
def SameBut (p : Addr) (H H' : Hp) : Prop := ∀ b o, b ≠ p → H b = some o → H' b = some o
theorem SqT.but {p a : Addr} {us xs : List V} (hp : H p = some (.lst us)) (s : SameBut p H H') (h : SqT K H a xs) : SqT K H' a xs := by
  rcases h with (h | ⟨o, h⟩) | h
  · exact .inl (.inl (s _ _ (fun e => by rw [e, hp] at h; cases h) h))
  · exact .inl (.inr ⟨o, s _ _ (fun e => by rw [e, hp] at h; cases h) h⟩)
  · exact .inr h
mutual
theorem dv.but {p : Addr} {us : List V} (hp : H p = some (.lst us)) (s : SameBut p H H') : ∀ (d : PyData) {v : V}, noL d = true → dv K H d v → dv K H' d v
  | .none, _, _, h => h
  | .bool _, _, _, h => h
  | .int _, _, _, h => h
  | .str _, _, _, h => h
  | .list ds, _, z, _ => by cases z
  | .tuple ds, _, z, ⟨q, xs, e, h, t⟩ => ⟨q, xs, e, h.but hp s, dvs.but hp s ds z t⟩
  | .dict _, _, _, h => h.elim
theorem dvs.but {p : Addr} {us : List V} (hp : H p = some (.lst us)) (s : SameBut p H H') : ∀ (ds : List PyData) {xs : List V}, noLs ds = true → dvs K H ds xs → dvs K H' ds xs
  | [], _, _, h => h
  | d :: ds, _, z, ⟨x, r, e, h, t⟩ => by
    have z' : noL d = true ∧ noLs ds = true := by simpa [noLs] using z
    exact ⟨x, r, e, dv.but hp s d z'.1 h, dvs.but hp s ds z'.2 t⟩
end
theorem noLs_map {α : Type} {f : α → PyData} (h : ∀ x, noL (f x) = true) : ∀ xs : List α, noLs (xs.map f) = true
  | [] => rfl
  | x :: xs => by rw [List.map_cons, noLs, h, noLs_map h xs]; rfl
end
section
variable {X : Cx} {pins : List (Addr × Obj)} {σ : St} {H : Hp} {s : Shared}
mutual
theorem reads_of (I : Inv X pins σ H s) : ∀ (d : PyData) {v : V} {u : Value}, dv X.K H d v → RelV v u → ∃ as, Reads s.heap u d as
  | .none, _, u, h, r => by cases h; cases r; exact ⟨_, .none⟩
  | .bool _, _, u, h, r => by cases h; cases r; exact ⟨_, .bool _⟩
  | .int _, _, u, h, r => by cases h; obtain ⟨t, rfl⟩ := r; exact ⟨_, .int _ _⟩
  | .str _, _, u, h, r => by cases h; obtain ⟨t, rfl⟩ := r; exact ⟨_, .str _ _⟩
  | .list ds, _, u, ⟨p, xs, e, h, t⟩, r => by
    subst e
    cases r
    obtain ⟨its, rr, pl, _⟩ := I.list h
    obtain ⟨o, h1, h2, n, h3⟩ := pl.isList
    obtain ⟨as, ra⟩ := readsAll_of I ds t rr
    exact ⟨_, .list h1 h2 h3 (by simpa using ra)⟩
  | .tuple ds, _, u, ⟨p, xs, e, h, t⟩, r => by
    subst e
    cases r
    obtain ⟨its, rr, pl, _⟩ := I.tuple h
    obtain ⟨o, h1, h2, n, h3⟩ := pl
    obtain ⟨as, ra⟩ := readsAll_of I ds t rr
    exact ⟨_, .tuple h1 h2 h3 (by simpa using ra)⟩
  | .dict _, _, _, h, _ => h.elim
theorem readsAll_of (I : Inv X pins σ H s) : ∀ (ds : List PyData) {xs : List V} {us : List Value}, dvs X.K H ds xs → Vals xs us → ∃ as, ReadsAll s.heap us ds as
  | [], _, us, h, r => by cases h; cases r; exact ⟨_, .nil⟩
  | d :: ds, _, us, ⟨x, r, e, h, t⟩, rr => by
    subst e
    cases rr with
    | cons r1 r2 =>
      obtain ⟨a1, q1⟩ := reads_of I d h r1
      obtain ⟨a2, q2⟩ := readsAll_of I ds t r2
      exact ⟨_, .cons q1 q2⟩
end
def rEqP (K : PySem.W.Frag) (neg : Bool) : R2 := fun y x H Q => ∃ d e, dv K H d y ∧ dv K H e x ∧ d.canLay0 = true ∧ e.canLay0 = true ∧ min d.depth e.depth ≤ 60 ∧ Q (.bl (if neg then !PyData.eqv d e else PyData.eqv d e)) H
end
end L2
set_option Elab.async false
set_option linter.all false
namespace Pw
def exps (e : Nat) : List Nat := if h : e = 0 then [] else exps (e / 2) ++ [e]
termination_by e
decreasing_by omega
def lst (xs : List Nat) : Nat := xs.getLast?.getD 0
end Pw
set_option Elab.async false
set_option linter.all false
set_option maxRecDepth 100000
set_option maxHeartbeats 1000000
namespace L2
open PySem PySem.Spec PyProof.Rows PySem.W
def EX0 (C : Addr) (H : Hp) (E : XK) : Prop := ∀ x H', Same H H' → H x = none → H' x = some (XO x C none) → E (.ref C) (some x) H'
def EX1 (C : Addr) (f : Str) (v : V) (H : Hp) (E : XK) : Prop := ∀ x dx H', Same H H' → H x = none → H' x = some (XO x C (some dx)) → H' dx = some (.xd [(f, v)]) → E (.ref C) (some x) H'
theorem ex0_raise {K : PySem.W.Frag} {C x : Addr} {H H1 : Hp} {E : XK} (c : XCls K C) (hs : Same H H1) (hx : H1 x = none) (e : EX0 C H E) :
    ∃ (C' : Addr) (dd : Option Addr), upd H1 x (XN x C none) x = some (XN x C' dd) ∧ XCls K C' ∧ H x = none ∧ E (.ref C') (some x) (upd (upd H1 x (XN x C none)) x (XO x C' dd)) := by
  refine ⟨C, none, upd_same, c, hs.free hx, e x _ ?_ (hs.free hx) upd_same⟩
  intro b o q
  have q1 := hs _ _ q
  have bx : b ≠ x := fun y => by rw [y, hx] at q1; cases q1
  rw [upd_ne bx, upd_ne bx]
  exact q1
theorem ex1_raise {K : PySem.W.Frag} {C x dx : Addr} {f : Str} {v : V} {H H1 : Hp} {E : XK} (c : XCls K C) (hs : Same H H1) (hx : H1 x = none) (hdx : H1 dx = none) (ne : dx ≠ x) (e : EX1 C f v H E) :
    ∃ (C' : Addr) (dd : Option Addr), upd (upd (upd H1 x (XN x C none)) dx (.xd [(f, v)])) x (XN x C (some dx)) x = some (XN x C' dd) ∧ XCls K C' ∧ H x = none ∧ E (.ref C') (some x) (upd (upd (upd (upd H1 x (XN x C none)) dx (.xd [(f, v)])) x (XN x C (some dx))) x (XO x C' dd)) := by
  refine ⟨C, some dx, upd_same, c, hs.free hx, e x dx _ ?_ (hs.free hx) upd_same ?_⟩
  · intro b o q
    have q1 := hs _ _ q
    have bx : b ≠ x := fun y => by rw [y, hx] at q1; cases q1
    have bd : b ≠ dx := fun y => by rw [y, hdx] at q1; cases q1
    rw [upd_ne bx, upd_ne bx, upd_ne bd, upd_ne bx]
    exact q1
  · rw [upd_ne ne, upd_ne ne, upd_same]
end L2
namespace Ld
structure Least (n r : Int) : Prop where
  two : 2 ≤ r
  dv : r ∣ n
  no : ∀ d : Int, 2 ≤ d → d < r → ¬ d ∣ n
theorem Least.one {n r r' : Int} (h : Least n r) (h' : Least n r') : r = r' := by
  rcases Int.lt_trichotomy r r' with c | c | c
  · exact absurd h.dv (h'.no r h.two c)
  · exact c
  · exact absurd h'.dv (h.no r' h'.two c)
theorem Least.le {n r : Int} (h : Least n r) (hn : 0 < n) : r ≤ n := Int.le_of_dvd hn h.dv
structure Inv (n k : Int) : Prop where
  two : 2 ≤ k
  odd : k = 2 ∨ k % 2 = 1
  no : ∀ d : Int, 2 ≤ d → d < k → ¬ d ∣ n
theorem Inv.step {n k : Int} (h : Inv n k) (hk : ¬ k ∣ n) : Inv n (k + if k = 2 then 1 else 2) := by
  have h2 := h.two
  by_cases c : k = 2
  · rw [if_pos c]
    refine ⟨by omega, .inr (by omega), fun d d0 d1 => ?_⟩
    have : d = k := by omega
    rw [this]; exact hk
  · rw [if_neg c]
    have ho : k % 2 = 1 := by rcases h.odd with z | z; exact absurd z c; exact z
    refine ⟨by omega, .inr (by omega), fun d d0 d1 hd => ?_⟩
    rcases (by omega : d < k ∨ d = k ∨ d = k + 1) with z | z | z
    · exact h.no d d0 z hd
    · subst z; exact hk hd
    · have e2 : (2 : Int) ∣ d := Int.dvd_of_emod_eq_zero (by omega)
      exact h.no 2 (by omega) (by omega) (Int.dvd_trans e2 hd)
theorem Inv.found {n k : Int} (h : Inv n k) (hk : k ∣ n) : Least n k := ⟨h.two, hk, h.no⟩
theorem Inv.done {n k : Int} (h : Inv n k) (hn : 2 ≤ n) (hk : n < k * k) : Least n n := by
  refine ⟨hn, Int.dvd_refl n, fun d d0 d1 hd => ?_⟩
  obtain ⟨c, hc⟩ := hd
  have h2 := h.two
  by_cases z : d < k
  · exact h.no d d0 z ⟨c, hc⟩
  · have c0 : 0 < c := by
      rcases (by omega : c ≤ 0 ∨ 0 < c) with y | y
      · have := Int.mul_nonpos_of_nonneg_of_nonpos (show 0 ≤ d by omega) y
        omega
      · exact y
    have c2 : 2 ≤ c := by
      rcases (by omega : c = 1 ∨ 2 ≤ c) with y | y
      · subst y; omega
      · exact y
    have ck : c < k := by
      rcases (by omega : c < k ∨ k ≤ c) with y | y
      · exact y
      · have := Int.mul_le_mul (show k ≤ d by omega) y (by omega) (by omega)
        omega
    exact h.no c c2 ck ⟨d, by rw [Int.mul_comm]; exact hc⟩
end Ld
set_option Elab.async false
set_option linter.all false
set_option maxRecDepth 100000
set_option maxHeartbeats 1000000
namespace L2
open PySem PySem.Spec PyProof.Rows PySem.W
section
variable {K : PySem.W.Frag} {H : Hp}
mutual
theorem eqv_refl : ∀ d : PyData, d.canLay0 = true → PyData.eqv d d = true
  | .none, _ => by simp [PyData.eqv]
  | .bool _, _ => by simp [PyData.eqv]
  | .int _, _ => by simp [PyData.eqv]
  | .str _, _ => by simp [PyData.eqv]
  | .list ds, h => by simpa [PyData.eqv] using eqvs_refl ds h
  | .tuple ds, h => by simpa [PyData.eqv] using eqvs_refl ds h
  | .dict _, h => by simp [PyData.canLay0] at h
theorem eqvs_refl : ∀ ds : List PyData, PyData.canLayAll0 ds = true → PyData.eqvAll ds ds = true
  | [], _ => by simp [PyData.eqvAll]
  | d :: ds, h => by
    have h' : d.canLay0 = true ∧ PyData.canLayAll0 ds = true := by simpa [PyData.canLayAll0] using h
    simp [PyData.eqvAll, eqv_refl d h'.1, eqvs_refl ds h'.2]
end
end
end L2
set_option Elab.async false
set_option linter.all false
set_option maxRecDepth 100000
set_option maxHeartbeats 1000000
namespace L2
open PySem PySem.Spec PyProof.Rows
def Itr3 (lo k : Int) (n : Nat) : It := ⟨fun i _ => i < n, fun i H x H' => H' = H ∧ x = .int (lo + i * k), fun i _ => n ≤ i⟩
def many3 (lo hi k : Int) : Nat := if lo < hi then ((hi - lo - 1) / k + 1).toNat else 0
def iRng3 (ta : TA) : TI := fun σ H R => ta σ H fun vs H1 => ∃ i j k : Int, vs = [.int i, .int j, .int k] ∧ (-(2 ^ 60) ≤ i ∧ i < 2 ^ 60 ∧ -(2 ^ 60) ≤ j ∧ j < 2 ^ 60 ∧ 0 < k ∧ k < 2 ^ 29) ∧ R (Itr3 i k (many3 i j k)) H1
section
variable {X : Cx} {tg : Expr}
end
end L2
set_option Elab.async false
set_option linter.all false
namespace Sv
def strike (d : Nat) (arr : Nat → Bool) : Nat → Bool := fun j => arr j || (decide (d * d ≤ j) && decide (j % d = 0))
def some_ (d k : Nat) (arr : Nat → Bool) : Nat → Bool := fun j => arr j || (decide (d * d ≤ j) && decide (j % d = 0) && decide (j < d * d + k * d))
def sv : Nat → (Nat → Bool) × List Nat
  | 0 => (fun _ => false, [])
  | i + 1 => if (sv i).1 (i + 2) then sv i else (strike (i + 2) (sv i).1, (sv i).2 ++ [i + 2])
theorem len : ∀ i, (sv i).2.length ≤ i
  | 0 => Nat.le_refl _
  | i + 1 => by
    have := len i
    rw [sv]
    split
    · omega
    · rw [List.length_append, List.length_singleton]; omega
end Sv
namespace L2
open PySem PySem.Spec PyProof.Rows
end L2
set_option Elab.async false
set_option linter.all false
set_option maxRecDepth 100000
set_option maxHeartbeats 1000000
namespace L2
open PySem PySem.Spec PyProof.Rows
section
variable {X : Cx} {pins : List (Addr × Obj)} {σ : St} {H : Hp} {s : Shared} {h' : Heap}
theorem Inv.adopt {T : Addr} {o : HO} (I : Inv X pins σ H s) (hf : FpOk X pins H T) (new : ObjOk X.prog X.w (upd H T o) s.heap T o) : Inv X pins σ (upd H T o) s := by
  have nT : ∀ b u, H b = some u → b ≠ T := fun b u e z => by rw [z, hf.1] at e; cases e
  refine I.step (h' := s.heap) (g' := s.gens) (d' := s.drawn) (t' := s.toks) (ch := [T]) (fun b hb => ?_) (fun b o _ _ hc e _ => e) (fun b o _ _ hc e _ => ⟨o.slots, e⟩) (fun b o hc e n => by rw [upd_ne (fun z => hc (by simp [z]))]; exact n)
    (fun b o hc e => ⟨o, e⟩) (fun b xs e => by rw [upd_ne (nT _ _ e)]; exact e) (fun b o u e => by rw [upd_ne (nT _ _ e)]; exact e) (fun b ps e => ⟨#[], by rw [upd_ne (nT _ _ e), e]; simp⟩) (fun m hm => hm) (fun b u e => ?_) I.bare
  · have e : b = T := by simpa using hb
    subst e
    obtain ⟨_, f1, _, f3, f4, f5⟩ := hf
    exact ⟨f3, f1, f4, f5⟩
  · by_cases z : b = T
    · subst z
      rw [upd_same] at e
      cases e
      exact new
    · rw [upd_ne z] at e
      exact (I.hok b u e).stay (fun c v _ q => q) (fun c q => by rw [upd_ne (nT _ _ q)]; exact q) fun c xs q => by rw [upd_ne (nT _ _ q)]; exact q
end
def Ite (K : PySem.W.Frag) (a : Addr) : It :=
  ⟨fun i H => ∃ xs x, SqL K H a xs ∧ xs[i]? = some x, fun i H x H' => ∃ p v, H p = none ∧ x = .ref p ∧ (∀ xs, SqL K H a xs → xs[i]? = some v) ∧ H' = upd H p (.tup [.int i, v]), fun i H => ∃ xs, SqL K H a xs ∧ xs.length ≤ i⟩
def iEnum (K : PySem.W.Frag) (ta : TA) : TI := fun σ H R => ta σ H fun vs H1 => ∃ a, vs = [.ref a] ∧ (∃ xs, SqL K H1 a xs) ∧ R (Ite K a) H1
end L2
set_option Elab.async false
set_option linter.all false
namespace Crt
structure G (a b g : Int) : Prop where
  pos : 0 < g
  da : g ∣ a
  db : g ∣ b
  lin : ∃ u v : Int, u * a + v * b = g
theorem G.gr {a b g d : Int} (h : G a b g) (h1 : d ∣ a) (h2 : d ∣ b) : d ∣ g := by
  obtain ⟨u, v, e⟩ := h.lin
  rw [← e]
  exact Int.dvd_add (Int.dvd_mul_of_dvd_right h1) (Int.dvd_mul_of_dvd_right h2)
theorem G.one {a b g g' : Int} (h : G a b g) (h' : G a b g') : g = g' := Int.le_antisymm (Int.le_of_dvd h'.pos (h'.gr h.da h.db)) (Int.le_of_dvd h.pos (h.gr h'.da h'.db))
theorem a1 {g u A v L : Int} (e : u * (g * A) + v * (g * L) = g) : g * (u * A + v * L) = g * 1 := by grind
theorem a2 {g A k L l y : Int} (h1 : y = g * A * k) (h2 : y = g * L * l) : g * (A * k) = g * (L * l) := by grind
theorem a3 {u A v L k l : Int} (e4 : u * A + v * L = 1) (e5 : A * k = L * l) : k = L * (u * l + v * k) := by
  have z : k * (u * A + v * L) = k := by rw [e4, Int.mul_one]
  grind
structure Both (M N m n W x : Int) : Prop where
  pos : 0 < W
  dM : M ∣ W
  dm : m ∣ W
  le : ∀ y : Int, M ∣ y → m ∣ y → W ∣ y
  x0 : 0 ≤ x
  x1 : x < W
  eM : M ∣ x - N
  em : m ∣ x - n
theorem G_ex : ∀ (b a : Nat), 0 < a → ∃ g, G (a : Int) (b : Int) g := by
  intro b
  induction b using Nat.strongRecOn with
  | ind b ih =>
    intro a ha
    rcases Nat.eq_zero_or_pos b with z | z
    · subst z
      exact ⟨a, by omega, Int.dvd_refl _, Int.dvd_zero _, 1, 0, by simp⟩
    · obtain ⟨g, h⟩ := ih (a % b) (Nat.mod_lt a z) b z
      obtain ⟨u, v, e⟩ := h.lin
      have ed : (a : Int) = (b : Int) * ((a / b : Nat) : Int) + ((a % b : Nat) : Int) := by
        have := Nat.div_add_mod a b
        rw [← Int.natCast_mul, ← Int.natCast_add, this]
      refine ⟨g, h.pos, ?_, h.da, v, u - v * ((a / b : Nat) : Int), ?_⟩
      · rw [ed]
        exact Int.dvd_add (Int.dvd_mul_of_dvd_left h.da) h.db
      · rw [ed, ← e]
        generalize ((a / b : Nat) : Int) = q
        generalize ((a % b : Nat) : Int) = r
        generalize (b : Int) = b'
        grind
theorem G_int {a b : Int} (ha : 0 < a) (hb : 0 < b) : ∃ g, G a b g := by
  obtain ⟨g, h⟩ := G_ex b.toNat a.toNat (by omega)
  rw [Int.toNat_of_nonneg (by omega), Int.toNat_of_nonneg (by omega)] at h
  exact ⟨g, h⟩
structure Told (ps : List (Int × Int)) (M N : Int) : Prop where
  pos : 0 < M
  x0 : 0 ≤ N
  x1 : N < M
  dv : ∀ p ∈ ps, p.1 ∣ M
  le : ∀ y : Int, (∀ p ∈ ps, p.1 ∣ y) → M ∣ y
  al : ∀ p ∈ ps, p.1 ∣ N - p.2
theorem Told.nil : Told [] 1 0 := ⟨by decide, by decide, by decide, fun _ h => by simp at h, fun y _ => ⟨y, by omega⟩, fun _ h => by simp at h⟩
theorem Told.step {ps : List (Int × Int)} {M N m n W x : Int} (h : Told ps M N) (b : Both M N m n W x) : Told (ps ++ [(m, n)]) W x := by
  refine ⟨b.pos, b.x0, b.x1, fun p hp => ?_, fun y hy => ?_, fun p hp => ?_⟩
  · rcases List.mem_append.mp hp with z | z
    · exact Int.dvd_trans (h.dv p z) b.dM
    · rw [List.mem_singleton.mp z]; exact b.dm
  · exact b.le y (h.le y fun p hp => hy p (List.mem_append_left _ hp)) (hy (m, n) (List.mem_append_right _ (by simp)))
  · rcases List.mem_append.mp hp with z | z
    · have e1 := Int.dvd_trans (h.dv p z) b.eM
      have e2 := h.al p z
      have := Int.dvd_add e1 e2
      rwa [show x - N + (N - p.2) = x - p.2 by omega] at this
    · rw [List.mem_singleton.mp z]; exact b.em
theorem Told.one {ps : List (Int × Int)} {M N M' N' : Int} (h : Told ps M N) (h' : Told ps M' N') : M = M' ∧ N = N' := by
  have e : M = M' := Int.le_antisymm (Int.le_of_dvd h'.pos (h.le _ h'.dv)) (Int.le_of_dvd h.pos (h'.le _ h.dv))
  subst e
  refine ⟨rfl, ?_⟩
  have z : M ∣ N - N' := h.le _ fun p hp => by
    have := Int.dvd_sub (h.al p hp) (h'.al p hp)
    rwa [show N - p.2 - (N' - p.2) = N - N' by omega] at this
  have w := Int.emod_emod_of_dvd
  have := (Int.emod_eq_emod_iff_emod_sub_eq_zero (m := N) (n := M) (k := N')).mpr (Int.emod_eq_zero_of_dvd z)
  rwa [Int.emod_eq_of_lt h.x0 h.x1, Int.emod_eq_of_lt h'.x0 h'.x1] at this
end Crt
set_option Elab.async false
set_option linter.all false
namespace Num
def Al (n x y : Int) : Prop := n ∣ x - y
theorem Al.refl (n x : Int) : Al n x x := ⟨0, by omega⟩
theorem Al.symm {n x y : Int} (h : Al n x y) : Al n y x := by
  have := (Int.dvd_neg).mpr h
  rwa [show -(x - y) = y - x by omega] at this
theorem Al.trans {n x y z : Int} (h : Al n x y) (h' : Al n y z) : Al n x z := by
  have := Int.dvd_add h h'
  rwa [show x - y + (y - z) = x - z by omega] at this
theorem Al.mul {n x y u v : Int} (h : Al n x y) (h' : Al n u v) : Al n (x * u) (y * v) := by
  have h1 : n ∣ (x - y) * u := Int.dvd_mul_of_dvd_left h
  have h2 : n ∣ y * (u - v) := Int.dvd_mul_of_dvd_right h'
  have := Int.dvd_add h1 h2
  rwa [show (x - y) * u + y * (u - v) = x * u - y * v by rw [Int.sub_mul, Int.mul_sub]; omega] at this
theorem Al.pow {n x y : Int} (h : Al n x y) : ∀ k : Nat, Al n (x ^ k) (y ^ k)
  | 0 => by rw [Int.pow_zero, Int.pow_zero]; exact Al.refl _ _
  | k + 1 => by rw [Int.pow_succ, Int.pow_succ]; exact (Al.pow h k).mul h
theorem Al.iff {n x y : Int} : Al n x y ↔ x % n = y % n := Pw.al_iff.symm
theorem Al.rest (n x : Int) : Al n (x % n) x := Al.iff.mpr (Int.emod_emod_of_dvd x (Int.dvd_refl n))
def Co (a n : Int) : Prop := ∃ u v : Int, u * a + v * n = 1
theorem Co.dvd {a n b : Int} (h : Co a n) (hd : n ∣ a * b) : n ∣ b := by
  obtain ⟨u, v, e⟩ := h
  have h1 : n ∣ u * (a * b) := Int.dvd_mul_of_dvd_right hd
  have h2 : n ∣ (v * b) * n := ⟨v * b, Int.mul_comm _ _⟩
  have := Int.dvd_add h1 h2
  have e2 : u * (a * b) + v * b * n = (u * a + v * n) * b := by
    rw [Int.add_mul, Int.mul_assoc u a b, Int.mul_assoc v n b, Int.mul_comm n b, Int.mul_assoc v b n]
  rw [e2, e, Int.one_mul] at this
  exact this
theorem Co.cancel {a n x y : Int} (h : Co a n) (e : Al n (a * x) (a * y)) : Al n x y := by
  refine h.dvd ?_
  rw [Int.mul_sub]
  exact e
theorem Co.mul {a b n : Int} (h : Co a n) (h' : Co b n) : Co (a * b) n := by
  obtain ⟨u, v, e⟩ := h
  obtain ⟨u', v', e'⟩ := h'
  refine ⟨u * u', u * a * v' + v * (u' * b + v' * n), ?_⟩
  have : (u * a + v * n) * (u' * b + v' * n) = 1 := by rw [e, e']; rfl
  grind
theorem Co.pow {a n : Int} (h : Co a n) : ∀ k : Nat, Co (a ^ k) n
  | 0 => ⟨1, 0, by rw [Int.pow_zero]; simp⟩
  | k + 1 => by rw [Int.pow_succ]; exact (Co.pow h k).mul h
theorem Co.of_al {a b n : Int} (h : Co a n) (e : Al n a b) : Co b n := by
  obtain ⟨u, v, e1⟩ := h
  obtain ⟨c, hc⟩ := e
  refine ⟨u, v + u * c, ?_⟩
  have : b = a - n * c := by omega
  rw [this]
  grind
theorem pow_one_mul {n a : Int} {d k : Nat} (h : Al n (a ^ d) 1) : Al n (a ^ (d * k)) 1 := by
  rw [Pw.pow_mul]
  have := h.pow k
  rwa [Pw.one_pow] at this
structure Ord (n a : Int) (m : Nat) : Prop where
  pos : 0 < m
  one : Al n (a ^ m) 1
  dv : ∀ j : Nat, Al n (a ^ j) 1 → m ∣ j
theorem pow_mod {n a : Int} {m j : Nat} (h : Al n (a ^ m) 1) (hj : Al n (a ^ j) 1) : Al n (a ^ (j % m)) 1 := by
  have e : a ^ j = a ^ (m * (j / m)) * a ^ (j % m) := by rw [← Pw.pow_add, Nat.div_add_mod]
  rw [e] at hj
  have h1 := (pow_one_mul (k := j / m) h).mul (Al.refl n (a ^ (j % m)))
  rw [Int.one_mul] at h1
  exact h1.symm.trans hj
theorem ord_of_least {n a : Int} {m : Nat} (pos : 0 < m) (one : Al n (a ^ m) 1) (no : ∀ j, 0 < j → j < m → ¬ Al n (a ^ j) 1) : Ord n a m := by
  refine ⟨pos, one, fun j hj => ?_⟩
  have h := pow_mod one hj
  rcases Nat.eq_zero_or_pos (j % m) with z | z
  · exact Nat.dvd_of_mod_eq_zero z
  · exact absurd h (no _ z (Nat.mod_lt _ pos))
theorem least_ex {P : Nat → Prop} : ∀ N : Nat, P N → ∃ m, P m ∧ ∀ j, j < m → ¬ P j := by
  intro N
  induction N using Nat.strongRecOn with
  | ind N ih =>
    intro h
    by_cases z : ∃ j, j < N ∧ P j
    · obtain ⟨j, hj, pj⟩ := z
      exact ih j hj pj
    · exact ⟨N, h, fun j hj pj => z ⟨j, hj, pj⟩⟩
theorem ord_ex {n a : Int} {N : Nat} (pos : 0 < N) (h : Al n (a ^ N) 1) : ∃ m, Ord n a m ∧ m ≤ N := by
  obtain ⟨m, ⟨m0, m1⟩, no⟩ := least_ex (P := fun j => 0 < j ∧ Al n (a ^ j) 1) N ⟨pos, h⟩
  refine ⟨m, ord_of_least m0 m1 fun j j0 jm z => no j jm ⟨j0, z⟩, ?_⟩
  by_cases z : m ≤ N
  · exact z
  · exact absurd ⟨pos, h⟩ (no N (by omega))
theorem Ord.inj {n a : Int} {m i j : Nat} (h : Ord n a m) (c : Co a n) (hi : i < m) (hj : j < m) (e : Al n (a ^ i) (a ^ j)) : i = j := by
  have aux : ∀ i j : Nat, i < m → j < m → i ≤ j → Al n (a ^ i) (a ^ j) → i = j := by
    intro i j hi hj hij e
    have e1 : a ^ j = a ^ i * a ^ (j - i) := by rw [← Pw.pow_add]; congr 1; omega
    rw [e1] at e
    have e2 : Al n (a ^ i * 1) (a ^ i * a ^ (j - i)) := by rw [Int.mul_one]; exact e
    have e3 := (c.pow i).cancel e2
    have := h.dv _ e3.symm
    rcases Nat.eq_zero_or_pos (j - i) with z | z
    · omega
    · have := Nat.le_of_dvd z this
      omega
  rcases Nat.le_total i j with z | z
  · exact aux i j hi hj z e
  · exact (aux j i hj hi z e.symm).symm
theorem pigeon : ∀ (n : Nat) (l : List Nat), l.Nodup → (∀ x ∈ l, x < n) → l.length ≤ n := by
  intro n
  induction n with
  | zero =>
    intro l _ h
    cases l with
    | nil => exact Nat.le_refl _
    | cons x r => exact absurd (h x (by simp)) (by omega)
  | succ n ih =>
    intro l nd h
    by_cases c : n ∈ l
    · have h1 := ih (l.erase n) (nd.erase n) fun x hx => by
        have hx' := List.mem_of_mem_erase hx
        have ne : x ≠ n := fun z => by
          subst z
          exact absurd hx (List.Nodup.not_mem_erase nd)
        have := h x hx'
        omega
      rw [List.length_erase_of_mem c] at h1
      omega
    · have h1 := ih l nd fun x hx => by
        have := h x hx
        have ne : x ≠ n := fun z => c (z ▸ hx)
        omega
      omega
end Num
set_option Elab.async false
set_option linter.all false
namespace Num
structure Pm (p : Int) : Prop where
  two : 2 ≤ p
  no : ∀ d : Int, 2 ≤ d → d < p → ¬ d ∣ p
theorem Pm.co {p a : Int} (h : Pm p) (ha : ¬ p ∣ a) : Co a p := by
  have h2 := h.two
  have r0 := Int.emod_nonneg a (show p ≠ 0 by omega)
  have r1 := Int.emod_lt_of_pos a (show 0 < p by omega)
  have rn : a % p ≠ 0 := fun z => ha (Int.dvd_of_emod_eq_zero z)
  obtain ⟨g, G⟩ := Crt.G_int (a := a % p) (b := p) (by omega) (by omega)
  have gl := Int.le_of_dvd (show 0 < a % p by omega) G.da
  have g1 : g = 1 := by
    have g0 := G.pos
    rcases (by omega : g = 1 ∨ 2 ≤ g) with z | z
    · exact z
    · exact absurd G.db (h.no g z (by omega))
  obtain ⟨u, v, e⟩ := G.lin
  rw [g1] at e
  exact Co.of_al ⟨u, v, e⟩ (Al.rest p a)
theorem Pm.or {p a b : Int} (h : Pm p) (hd : p ∣ a * b) (ha : ¬ p ∣ a) : p ∣ b := (h.co ha).dvd hd
def H : Int → List Int → Int → Int
  | acc, [], _ => acc
  | acc, c :: cs, x => H (acc * x + c) cs x
theorem H_lin (x : Int) : ∀ (cs : List Int) (a b : Int), H (a + b) cs x = H a cs x + b * x ^ cs.length
  | [], a, b => by rw [List.length_nil, Int.pow_zero, Int.mul_one]; rfl
  | c :: cs, a, b => by
    show H ((a + b) * x + c) cs x = H (a * x + c) cs x + b * x ^ (cs.length + 1)
    rw [show (a + b) * x + c = (a * x + c) + b * x by rw [Int.add_mul]; omega, H_lin x cs, Int.pow_succ, Int.mul_assoc, Int.mul_comm x]
def quo (r : Int) : Int → List Int → List Int
  | _, [] => []
  | _, [_] => []
  | c0, c :: c' :: cs => (c0 * r + c) :: quo r (c0 * r + c) (c' :: cs)
theorem quo_len (r : Int) : ∀ (cs : List Int) (c0 : Int), (quo r c0 cs).length = cs.length - 1
  | [], _ => rfl
  | [_], _ => rfl
  | c :: c' :: cs, c0 => by
    show (quo r (c0 * r + c) (c' :: cs)).length + 1 = _
    rw [quo_len r (c' :: cs)]
    simp
theorem factor (x r : Int) : ∀ (cs : List Int) (c0 : Int), cs ≠ [] → H c0 cs x - H c0 cs r = (x - r) * H c0 (quo r c0 cs) x
  | [], _, h => absurd rfl h
  | [c], c0, _ => by
    show c0 * x + c - (c0 * r + c) = (x - r) * c0
    rw [Int.sub_mul, Int.mul_comm c0 x, Int.mul_comm c0 r]
    omega
  | c :: c' :: cs, c0, _ => by
    have ih := factor x r (c' :: cs) (c0 * r + c) (by simp)
    show H (c0 * x + c) (c' :: cs) x - H (c0 * r + c) (c' :: cs) r = (x - r) * H (c0 * x + (c0 * r + c)) (quo r (c0 * r + c) (c' :: cs)) x
    have e1 : c0 * x + c = (c0 * r + c) + c0 * (x - r) := by rw [Int.mul_sub]; omega
    have e2 : H (c0 * x + (c0 * r + c)) (quo r (c0 * r + c) (c' :: cs)) x = H (c0 * r + c) (quo r (c0 * r + c) (c' :: cs)) x + c0 * x * x ^ cs.length := by
      rw [Int.add_comm (c0 * x), H_lin, quo_len]
      simp
    rw [e1, H_lin, e2, List.length_cons, Int.pow_succ, Int.mul_add, ← ih]
    generalize H (c0 * r + c) (c' :: cs) x = A
    generalize H (c0 * r + c) (c' :: cs) r = B
    generalize x ^ cs.length = Y
    grind
theorem roots {p : Int} (hp : Pm p) : ∀ (n : Nat) (cs : List Int) (c0 : Int), cs.length = n → ¬ p ∣ c0 → ∀ rs : List Int, rs.Pairwise (fun a b => ¬ Al p a b) → (∀ r ∈ rs, p ∣ H c0 cs r) → rs.length ≤ n := by
  intro n
  induction n with
  | zero =>
    intro cs c0 hl h0 rs hr hz
    have : cs = [] := List.eq_nil_of_length_eq_zero hl
    subst this
    cases rs with
    | nil => exact Nat.le_refl _
    | cons r rs => exact absurd (hz r (by simp)) h0
  | succ n ih =>
    intro cs c0 hl h0 rs hr hz
    cases rs with
    | nil => exact Nat.zero_le _
    | cons r rs =>
      have hne : cs ≠ [] := fun z => by rw [z] at hl; simp at hl
      obtain ⟨h1, h2⟩ := List.pairwise_cons.mp hr
      have := ih (quo r c0 cs) c0 (by rw [quo_len, hl]; rfl) h0 rs h2 fun s hs => by
        have e := factor s r cs c0 hne
        have d1 := hz s (List.mem_cons_of_mem _ hs)
        have d2 := hz r (by simp)
        have d3 := Int.dvd_sub d1 d2
        rw [e] at d3
        exact hp.or d3 fun z => h1 s hs (Al.symm z)
      simpa using this
theorem H_pow (x : Int) : ∀ (n : Nat) (a : Int), H a (List.replicate n 0 ++ [-1]) x = a * x ^ (n + 1) - 1
  | 0, a => by
    show a * x + -1 = _
    rw [Int.pow_succ, Int.pow_zero, Int.one_mul]; omega
  | n + 1, a => by
    show H (a * x + 0) (List.replicate n 0 ++ [-1]) x = _
    rw [H_pow x n, Int.add_zero, Int.pow_succ x (n + 1), Int.mul_comm (x ^ (n + 1)) x, Int.mul_assoc]
theorem all_pow {p : Int} (hp : Pm p) {n : Nat} (hn : 0 < n) (h : ∀ a : Int, ¬ p ∣ a → Al p (a ^ n) 1) : p - 1 ≤ n := by
  have h2 := hp.two
  obtain ⟨m, rfl⟩ : ∃ m, n = m + 1 := ⟨n - 1, by omega⟩
  have key := roots hp (m + 1) (List.replicate m 0 ++ [-1]) 1 (by simp) (fun z => by have := Int.le_of_dvd (by decide) z; omega) ((List.range (p - 1).toNat).map fun i : Nat => (i : Int) + 1) ?_ ?_
  · rw [List.length_map, List.length_range] at key
    omega
  · rw [List.pairwise_map]
    refine List.Pairwise.imp_of_mem (R := (· < ·)) (fun {a b} ha hb hab z => ?_) List.pairwise_lt_range
    have hb' := List.mem_range.mp hb
    have := Int.le_of_dvd (by omega) (Al.symm z)
    omega
  · intro r hr
    obtain ⟨i, hi, rfl⟩ := List.mem_map.mp hr
    have hi' := List.mem_range.mp hi
    rw [H_pow, Int.one_mul]
    exact h _ fun z => by have := Int.le_of_dvd (by omega) z; omega
theorem nodup_map {f : Nat → Nat} {n : Nat} (h : ∀ i j, i < j → j < n → f i ≠ f j) : ((List.range n).map f).Nodup := by
  show List.Pairwise _ _
  rw [List.pairwise_map]
  exact List.Pairwise.imp_of_mem (R := (· < ·)) (fun {a b} ha hb hab => h a b hab (List.mem_range.mp hb)) List.pairwise_lt_range
theorem rest_eq {p x y : Int} (hp : 0 < p) (e : (x % p).toNat = (y % p).toNat) : Al p x y := by
  have h1 := Int.emod_nonneg x (show p ≠ 0 by omega)
  have h2 := Int.emod_nonneg y (show p ≠ 0 by omega)
  exact Al.iff.mpr (by omega)
theorem back {n a : Int} (hn : 2 ≤ n) (c : Co a n) : ∃ d : Nat, 0 < d ∧ (d : Int) ≤ n ∧ Al n (a ^ d) 1 := by
  by_cases z : ∃ i j : Nat, i < j ∧ j < n.toNat + 1 ∧ Al n (a ^ i) (a ^ j)
  · obtain ⟨i, j, ij, jn, e⟩ := z
    refine ⟨j - i, by omega, by omega, ?_⟩
    have e1 : a ^ j = a ^ i * a ^ (j - i) := by rw [← Pw.pow_add]; congr 1; omega
    rw [e1] at e
    have e2 : Al n (a ^ i * 1) (a ^ i * a ^ (j - i)) := by rw [Int.mul_one]; exact e
    exact ((c.pow i).cancel e2).symm
  · exfalso
    have nd := nodup_map (f := fun i => (a ^ i % n).toNat) (n := n.toNat + 1) fun i j ij jn e => z ⟨i, j, ij, jn, rest_eq (by omega) e⟩
    have := pigeon n.toNat _ nd fun x hx => by
      obtain ⟨i, _, rfl⟩ := List.mem_map.mp hx
      have h1 := Int.emod_nonneg (a ^ i) (show n ≠ 0 by omega)
      have h2 := Int.emod_lt_of_pos (a ^ i) (show 0 < n by omega)
      show (a ^ i % n).toNat < n.toNat
      omega
    rw [List.length_map, List.length_range] at this
    omega
def fact : Nat → Nat
  | 0 => 1
  | n + 1 => (n + 1) * fact n
theorem fact_pos : ∀ n, 0 < fact n
  | 0 => by decide
  | n + 1 => Nat.mul_pos (Nat.succ_pos n) (fact_pos n)
theorem dvd_fact {d : Nat} : ∀ n, 0 < d → d ≤ n → d ∣ fact n
  | 0, h, h' => by omega
  | n + 1, h, h' => by
    by_cases c : d = n + 1
    · subst c; exact ⟨fact n, rfl⟩
    · exact Nat.dvd_trans (dvd_fact n h (by omega)) ⟨n + 1, Nat.mul_comm _ _⟩
theorem Ord.mul {n a b : Int} {k m : Nat} (ha : Ord n a k) (hb : Ord n b m) (ca : Co a n) (cb : Co b n) (co : Nat.Coprime k m) : Ord n (a * b) (k * m) := by
  refine ⟨Nat.mul_pos ha.pos hb.pos, ?_, fun j hj => ?_⟩
  · rw [Pw.mul_pow]
    have h1 := pow_one_mul (k := m) ha.one
    have h2 := pow_one_mul (k := k) hb.one
    rw [Nat.mul_comm m k] at h2
    exact h1.mul h2
  · rw [Pw.mul_pow] at hj
    have d1 : k ∣ j := by
      have e := hj.pow m
      rw [Pw.one_pow, Pw.mul_pow, ← Pw.pow_mul, ← Pw.pow_mul] at e
      have h2 := pow_one_mul (k := j) hb.one
      rw [Nat.mul_comm m j] at h2
      have e2 : Al n (a ^ (j * m)) 1 := by
        have := (Al.refl n (a ^ (j * m))).mul h2.symm
        rw [Int.mul_one] at this
        exact this.trans e
      exact Nat.Coprime.dvd_of_dvd_mul_right co (ha.dv _ e2)
    have d2 : m ∣ j := by
      have e := hj.pow k
      rw [Pw.one_pow, Pw.mul_pow, ← Pw.pow_mul, ← Pw.pow_mul] at e
      have h2 := pow_one_mul (k := j) ha.one
      rw [Nat.mul_comm k j] at h2
      have e2 : Al n (b ^ (j * k)) 1 := by
        have := h2.symm.mul (Al.refl n (b ^ (j * k)))
        rw [Int.one_mul] at this
        exact this.trans e
      exact Nat.Coprime.dvd_of_dvd_mul_right co.symm (hb.dv _ e2)
    exact Nat.Coprime.mul_dvd_of_dvd_of_dvd co d1 d2
end Num
set_option Elab.async false
set_option linter.all false
namespace Num
def Nm (q : Nat) : Prop := 2 ≤ q ∧ ∀ d, 2 ≤ d → d < q → ¬ d ∣ q
theorem nm_ex {m : Nat} (h : 2 ≤ m) : ∃ q, Nm q ∧ q ∣ m := by
  obtain ⟨q, ⟨q2, qm⟩, no⟩ := least_ex (P := fun d => 2 ≤ d ∧ d ∣ m) m ⟨h, Nat.dvd_refl m⟩
  exact ⟨q, ⟨q2, fun d d2 dq hd => no d dq ⟨d2, Nat.dvd_trans hd qm⟩⟩, qm⟩
theorem Nm.co {q m : Nat} (h : Nm q) (hm : ¬ q ∣ m) : Nat.Coprime q m := by
  have hg := Nat.gcd_dvd_left q m
  have g0 : 0 < Nat.gcd q m := Nat.gcd_pos_of_pos_left m (by have := h.1; omega)
  have gl := Nat.le_of_dvd (by have := h.1; omega) hg
  rcases (by omega : Nat.gcd q m = 1 ∨ (2 ≤ Nat.gcd q m ∧ Nat.gcd q m < q) ∨ Nat.gcd q m = q) with z | ⟨z1, z2⟩ | z
  · exact z
  · exact absurd hg (h.2 _ z1 z2)
  · exact absurd (z ▸ Nat.gcd_dvd_right q m) hm
theorem split_ex {q : Nat} (hq : 2 ≤ q) : ∀ m : Nat, 0 < m → ∃ k m', m = q ^ k * m' ∧ ¬ q ∣ m' := by
  intro m
  induction m using Nat.strongRecOn with
  | ind m ih =>
    intro hm
    by_cases c : q ∣ m
    · obtain ⟨t, ht⟩ := c
      have t0 : 0 < t := by
        rcases Nat.eq_zero_or_pos t with z | z
        · subst z; omega
        · exact z
      have tm : t < m := by
        rw [ht]
        have := Nat.mul_le_mul_right t hq
        omega
      obtain ⟨k, m', e, hn⟩ := ih t tm t0
      exact ⟨k + 1, m', by rw [ht, e, Nat.pow_succ, Nat.mul_comm (q ^ k) q, Nat.mul_assoc], hn⟩
    · exact ⟨0, m, by simp, c⟩
theorem pow_dvd {q : Nat} (h : Nm q) : ∀ (k d : Nat), d ∣ q ^ (k + 1) → ¬ d ∣ q ^ k → d = q ^ (k + 1) := by
  intro k
  induction k with
  | zero =>
    intro d h1 h2
    rw [Nat.zero_add, Nat.pow_one] at h1 ⊢
    rw [Nat.pow_zero] at h2
    have q2 := h.1
    have d0 : 0 < d := Nat.pos_of_dvd_of_pos h1 (by omega)
    have dl := Nat.le_of_dvd (by omega) h1
    rcases (by omega : d = 1 ∨ (2 ≤ d ∧ d < q) ∨ d = q) with z | ⟨z1, z2⟩ | z
    · exact absurd (z ▸ Nat.dvd_refl 1) h2
    · exact absurd h1 (h.2 d z1 z2)
    · exact z
  | succ k ih =>
    intro d h1 h2
    by_cases c : q ∣ d
    · obtain ⟨t, ht⟩ := c
      have q0 : 0 < q := by have := h.1; omega
      rw [ht, Nat.pow_succ, Nat.mul_comm (q ^ (k + 1)) q] at h1
      rw [ht, Nat.pow_succ, Nat.mul_comm (q ^ k) q] at h2
      have e1 := Nat.dvd_of_mul_dvd_mul_left q0 h1
      have e2 : ¬ t ∣ q ^ k := fun z => h2 (Nat.mul_dvd_mul_left q z)
      rw [ht, ih t e1 e2, Nat.pow_succ q (k + 1), Nat.mul_comm]
    · have co : Nat.Coprime (q ^ (k + 1 + 1)) d := Nat.Coprime.pow_left _ (h.co c)
      have : d ∣ 1 := by
        have := Nat.dvd_gcd h1 (Nat.dvd_refl d)
        rwa [co] at this
      exact absurd (Nat.dvd_trans this (Nat.one_dvd _)) h2
section
variable {p : Int} {L : Nat}
structure Ex (p : Int) (L : Nat) : Prop where
  pos : 0 < L
  all : ∀ a : Int, ¬ p ∣ a → Al p (a ^ L) 1
  no : ∀ j, 0 < j → j < L → ∃ a : Int, ¬ p ∣ a ∧ ¬ Al p (a ^ j) 1
theorem Pm.unit {p a : Int} (hp : Pm p) (c : Co a p) : ¬ p ∣ a := fun h => by
  obtain ⟨u, v, e⟩ := c
  have h1 : p ∣ u * a := Int.dvd_mul_of_dvd_right h
  have h2 : p ∣ v * p := ⟨v, Int.mul_comm _ _⟩
  have := Int.dvd_add h1 h2
  rw [e] at this
  have := Int.le_of_dvd (by decide) this
  have := hp.two
  omega
theorem ex_ex (hp : Pm p) : ∃ L, Ex p L := by
  have h2 := hp.two
  have uni : ∀ a : Int, ¬ p ∣ a → Al p (a ^ fact p.toNat) 1 := fun a ha => by
    obtain ⟨d, d0, d1, e⟩ := back h2 (hp.co ha)
    obtain ⟨t, ht⟩ := dvd_fact p.toNat d0 (by omega)
    rw [ht]
    exact pow_one_mul e
  obtain ⟨L, ⟨l0, l1⟩, no⟩ := least_ex (P := fun j => 0 < j ∧ ∀ a : Int, ¬ p ∣ a → Al p (a ^ j) 1) (fact p.toNat) ⟨fact_pos _, uni⟩
  refine ⟨L, l0, l1, fun j j0 jl => ?_⟩
  have := no j jl
  by_cases z : ∃ a : Int, ¬ p ∣ a ∧ ¬ Al p (a ^ j) 1
  · exact z
  · exact absurd ⟨j0, fun a ha => Classical.byContradiction fun w => z ⟨a, ha, w⟩⟩ this
theorem ord_each (hp : Pm p) (h : Ex p L) : ∀ m : Nat, 0 < m → m ∣ L → ∃ x : Int, Co x p ∧ Ord p x m := by
  intro m
  induction m using Nat.strongRecOn with
  | ind m ih =>
    intro hm hd
    by_cases c : m = 1
    · subst c
      exact ⟨1, ⟨1, 0, by omega⟩, by decide, by rw [Int.pow_succ, Int.pow_zero]; exact Al.refl _ _, fun j _ => Nat.one_dvd j⟩
    · obtain ⟨q, hq, qm⟩ := nm_ex (show 2 ≤ m by omega)
      obtain ⟨k, m', e, hn⟩ := split_ex hq.1 m hm
      have q0 : 0 < q := by have := hq.1; omega
      obtain ⟨k', rfl⟩ : ∃ k', k = k' + 1 := by
        cases k with
        | zero => rw [Nat.pow_zero, Nat.one_mul] at e; exact absurd (e ▸ qm) hn
        | succ k' => exact ⟨k', rfl⟩
      have m0 : 0 < m' := by
        rcases Nat.eq_zero_or_pos m' with z | z
        · rw [z, Nat.mul_zero] at e; omega
        · exact z
      have qk : 2 ≤ q ^ (k' + 1) := by
        rw [Nat.pow_succ]
        have := Nat.mul_le_mul (Nat.pow_pos (n := k') q0) hq.1
        omega
      have mm : m' < m := by
        rw [e]
        have := Nat.mul_le_mul_right m' qk
        omega
      obtain ⟨y, cy, oy⟩ := ih m' mm m0 (Nat.dvd_trans ⟨q ^ (k' + 1), by rw [e, Nat.mul_comm]⟩ hd)
      have dq : q ^ (k' + 1) ∣ L := Nat.dvd_trans ⟨m', e⟩ hd
      obtain ⟨T, hT⟩ := dq
      have T0 : 0 < T := by
        rcases Nat.eq_zero_or_pos T with z | z
        · rw [z, Nat.mul_zero] at hT; have := h.pos; omega
        · exact z
      have eL : L = q * (q ^ k' * T) := by rw [hT, Nat.pow_succ, Nat.mul_comm (q ^ k') q, Nat.mul_assoc]
      have jp : 0 < q ^ k' * T := Nat.mul_pos (Nat.pow_pos q0) T0
      have jl : q ^ k' * T < L := by
        rw [eL]
        have := Nat.mul_le_mul_right (q ^ k' * T) hq.1
        omega
      obtain ⟨a, ha, hna⟩ := h.no _ jp jl
      have ca := hp.co ha
      have z1 : Al p ((a ^ T) ^ (q ^ (k' + 1))) 1 := by
        rw [← Pw.pow_mul, Nat.mul_comm, ← hT]
        exact h.all a ha
      have z2 : ¬ Al p ((a ^ T) ^ (q ^ k')) 1 := by
        rw [← Pw.pow_mul, Nat.mul_comm]
        exact hna
      obtain ⟨d, od, _⟩ := ord_ex (Nat.pow_pos q0) z1
      have d1 := od.dv _ z1
      have d2 : ¬ d ∣ q ^ k' := fun w => z2 (by obtain ⟨t, ht⟩ := w; rw [ht]; exact pow_one_mul od.one)
      have ed := pow_dvd hq k' d d1 d2
      subst ed
      refine ⟨a ^ T * y, (ca.pow T).mul cy, ?_⟩
      rw [e]
      exact od.mul oy (ca.pow T) cy (Nat.Coprime.pow_left _ (hq.co hn))
theorem ex_is (hp : Pm p) (h : Ex p L) : (L : Int) = p - 1 := by
  have h2 := hp.two
  have h1 := all_pow hp h.pos h.all
  obtain ⟨g, cg, og⟩ := ord_each hp h L h.pos (Nat.dvd_refl L)
  have nd := nodup_map (f := fun i => (g ^ i % p).toNat - 1) (n := L) fun i j ij jn e => by
    have r1 : ∀ k : Nat, 1 ≤ (g ^ k % p).toNat := fun k => by
      have a1 := Int.emod_nonneg (g ^ k) (show p ≠ 0 by omega)
      have : g ^ k % p ≠ 0 := fun z => hp.unit (cg.pow k) (Int.dvd_of_emod_eq_zero z)
      omega
    have e' : (g ^ i % p).toNat = (g ^ j % p).toNat := by
      have := r1 i
      have := r1 j
      have e : (g ^ i % p).toNat - 1 = (g ^ j % p).toNat - 1 := e
      omega
    have := og.inj cg (by omega) jn (rest_eq (by omega) e')
    omega
  have := pigeon (p - 1).toNat _ nd fun x hx => by
    obtain ⟨i, _, rfl⟩ := List.mem_map.mp hx
    have a1 := Int.emod_nonneg (g ^ i) (show p ≠ 0 by omega)
    have a2 := Int.emod_lt_of_pos (g ^ i) (show 0 < p by omega)
    have : g ^ i % p ≠ 0 := fun z => hp.unit (cg.pow i) (Int.dvd_of_emod_eq_zero z)
    show (g ^ i % p).toNat - 1 < (p - 1).toNat
    omega
  rw [List.length_map, List.length_range] at this
  omega
theorem each_order (hp : Pm p) {m : Nat} (h0 : 0 < m) (hd : m ∣ (p - 1).toNat) : ∃ x : Int, 1 ≤ x ∧ x < p ∧ Ord p x m := by
  obtain ⟨L, h⟩ := ex_ex hp
  have := ex_is hp h
  have h2 := hp.two
  obtain ⟨x, cx, ox⟩ := ord_each hp h m h0 (by rwa [show (p - 1).toNat = L by omega] at hd)
  have a1 := Int.emod_nonneg x (show p ≠ 0 by omega)
  have a2 := Int.emod_lt_of_pos x (show 0 < p by omega)
  have a3 : x % p ≠ 0 := fun z => hp.unit cx (Int.dvd_of_emod_eq_zero z)
  refine ⟨x % p, by omega, a2, ox.pos, ((Al.rest p x).pow m).trans ox.one, fun j hj => ox.dv j (((Al.rest p x).pow j).symm.trans hj)⟩
theorem full_ex (hp : Pm p) : ∃ g : Int, 1 ≤ g ∧ g < p ∧ Ord p g (p - 1).toNat := each_order hp (by have := hp.two; omega) (Nat.dvd_refl _)
end
end Num
namespace Num
theorem Co.of_pow {n a : Int} {m : Nat} (h : Al n (a ^ (m + 1)) 1) : Co a n := by
  obtain ⟨c, hc⟩ := h
  refine ⟨a ^ m, -c, ?_⟩
  rw [Int.pow_succ] at hc
  rw [Int.neg_mul, Int.mul_comm c n]
  omega
theorem lucas {n a : Int} (hn : 2 ≤ n) (h : Ord n a (n - 1).toNat) : Pm n := by
  obtain ⟨m, hm⟩ : ∃ m : Nat, (n - 1).toNat = m + 1 := ⟨(n - 2).toNat, by omega⟩
  have ca : Co a n := Co.of_pow (m := m) (by rw [← hm]; exact h.one)
  have un : ∀ k : Nat, ¬ n ∣ a ^ k := fun k z => by
    obtain ⟨u, v, e⟩ := ca.pow k
    have h1 : n ∣ u * a ^ k := Int.dvd_mul_of_dvd_right z
    have h2 : n ∣ v * n := ⟨v, Int.mul_comm _ _⟩
    have := Int.dvd_add h1 h2
    rw [e] at this
    have := Int.le_of_dvd (by decide) this
    omega
  have r1 : ∀ k : Nat, 1 ≤ (a ^ k % n).toNat ∧ (a ^ k % n).toNat < n.toNat := fun k => by
    have a1 := Int.emod_nonneg (a ^ k) (show n ≠ 0 by omega)
    have a2 := Int.emod_lt_of_pos (a ^ k) (show 0 < n by omega)
    have : a ^ k % n ≠ 0 := fun z => un k (Int.dvd_of_emod_eq_zero z)
    omega
  refine ⟨hn, fun d d2 dn hd => ?_⟩
  have hit : ∃ i : Nat, (a ^ i % n).toNat = d.toNat := by
    refine Classical.byContradiction fun no => ?_
    have nd := nodup_map (f := fun i => (a ^ i % n).toNat - 1) (n := (n - 1).toNat) fun i j ij jn e => by
      have e' : (a ^ i % n).toNat = (a ^ j % n).toNat := by
        have := r1 i
        have := r1 j
        have e : (a ^ i % n).toNat - 1 = (a ^ j % n).toNat - 1 := e
        omega
      have := h.inj ca (by omega) jn (rest_eq (by omega) e')
      omega
    have nd2 : ((d.toNat - 1) :: (List.range (n - 1).toNat).map fun i => (a ^ i % n).toNat - 1).Nodup := by
      refine List.nodup_cons.mpr ⟨fun z => ?_, nd⟩
      obtain ⟨i, _, e⟩ := List.mem_map.mp z
      have := r1 i
      have e : (a ^ i % n).toNat - 1 = d.toNat - 1 := e
      exact no ⟨i, by omega⟩
    have := pigeon (n - 1).toNat _ nd2 fun x hx => by
      rcases List.mem_cons.mp hx with z | z
      · omega
      · obtain ⟨i, _, rfl⟩ := List.mem_map.mp z
        have := r1 i
        show (a ^ i % n).toNat - 1 < (n - 1).toNat
        omega
    rw [List.length_cons, List.length_map, List.length_range] at this
    omega
  obtain ⟨i, e⟩ := hit
  have a1 := Int.emod_nonneg (a ^ i) (show n ≠ 0 by omega)
  have ed : a ^ i % n = d := by omega
  have cd : Co d n := (ca.pow i).of_al (by rw [← ed]; exact (Al.rest n (a ^ i)).symm)
  obtain ⟨u, v, e2⟩ := cd
  have h1 : d ∣ u * d := ⟨u, Int.mul_comm _ _⟩
  have h2 : d ∣ v * n := Int.dvd_mul_of_dvd_right hd
  have := Int.dvd_add h1 h2
  rw [e2] at this
  have := Int.le_of_dvd (by decide) this
  omega
theorem ord_by {n a : Int} {e : Nat} (h0 : 0 < e) (h1 : Al n (a ^ e) 1) (no : ∀ q, Nm q → q ∣ e → ¬ Al n (a ^ (e / q)) 1) : Ord n a e := by
  obtain ⟨m, om, _⟩ := ord_ex h0 h1
  have d := om.dv _ h1
  by_cases z : m = e
  · subst z; exact om
  · exfalso
    obtain ⟨t, ht⟩ := d
    have t2 : 2 ≤ t := by
      rcases (by omega : t = 0 ∨ t = 1 ∨ 2 ≤ t) with w | w | w
      · rw [w] at ht; omega
      · rw [w, Nat.mul_one] at ht; exact absurd ht.symm z
      · exact w
    obtain ⟨q, hq, r, hr⟩ := nm_ex t2
    have q0 : 0 < q := by have := hq.1; omega
    have e1 : e = q * (m * r) := by rw [ht, hr, ← Nat.mul_assoc, Nat.mul_comm m q, Nat.mul_assoc]
    refine no q hq ⟨m * r, e1⟩ ?_
    rw [e1, Nat.mul_div_cancel_left _ q0]
    exact pow_one_mul om.one
theorem Ord.by_ {n a : Int} {e : Nat} (h : Ord n a e) {q : Nat} (hq : Nm q) (hd : q ∣ e) : ¬ Al n (a ^ (e / q)) 1 := fun z => by
  have q0 : 0 < q := by have := hq.1; omega
  obtain ⟨r, hr⟩ := hd
  rw [hr, Nat.mul_div_cancel_left _ q0] at z
  have d := h.dv _ z
  have r0 : 0 < r := by
    rcases Nat.eq_zero_or_pos r with w | w
    · rw [w, Nat.mul_zero] at hr; have := h.pos; omega
    · exact w
  have := Nat.le_of_dvd r0 d
  have := Nat.mul_le_mul_right r hq.1
  omega
end Num
set_option Elab.async false
set_option linter.all false
namespace Num
theorem pm_least {n r : Int} (h : Ld.Least n r) : Pm r := ⟨h.two, fun d d2 dr hd => h.no d d2 dr (Int.dvd_trans hd h.dv)⟩
def prodP : List (Int × Int) → Int
  | [] => 1
  | p :: r => p.1 ^ p.2.toNat * prodP r
theorem prodP_snoc : ∀ (ps : List (Int × Int)) (p : Int × Int), prodP (ps ++ [p]) = prodP ps * p.1 ^ p.2.toNat
  | [], p => by show p.1 ^ _ * 1 = 1 * _; omega
  | q :: r, p => by
    show q.1 ^ q.2.toNat * prodP (r ++ [p]) = q.1 ^ q.2.toNat * prodP r * _
    rw [prodP_snoc r p, Int.mul_assoc]
structure Part (n : Int) (ps : List (Int × Int)) : Prop where
  ok : ∀ p ∈ ps, Pm p.1 ∧ 1 ≤ p.2 ∧ p.2 ≤ 30
  rise : ps.Pairwise fun a b => a.1 < b.1
  prod : prodP ps = n
theorem pow_pos' {q : Int} (h : 0 < q) : ∀ k : Nat, 0 < q ^ k
  | 0 => by rw [Int.pow_zero]; decide
  | k + 1 => by rw [Int.pow_succ]; exact Int.mul_pos (pow_pos' h k) h
theorem two_pow_le {q : Int} (h : 2 ≤ q) : ∀ k : Nat, (2 : Int) ^ k ≤ q ^ k
  | 0 => by rw [Int.pow_zero, Int.pow_zero]; exact Int.le_refl _
  | k + 1 => by
    rw [Int.pow_succ, Int.pow_succ]
    exact Int.mul_le_mul (two_pow_le h k) h (by decide) (Int.le_of_lt (pow_pos' (by omega) k))
theorem two_le : ∀ {k : Nat}, (2 : Int) ^ k ≤ 10 ^ 9 → k ≤ 29 := by
  intro k h
  by_cases c : k ≤ 29
  · exact c
  · exfalso
    have e : k = 30 + (k - 30) := by omega
    rw [e, Pw.pow_add] at h
    have := pow_pos' (show (0 : Int) < 2 by decide) (k - 30)
    have h2 := Int.mul_le_mul_of_nonneg_left (show (1 : Int) ≤ 2 ^ (k - 30) by omega) (show (0 : Int) ≤ 2 ^ 30 by decide)
    have : (2 : Int) ^ 30 = 1073741824 := by decide
    omega
structure Way (n : Int) (ps : List (Int × Int)) (left prime : Int) : Prop where
  ok : ∀ p ∈ ps, Pm p.1 ∧ 1 ≤ p.2 ∧ p.2 ≤ 30
  rise : ps.Pairwise fun a b => a.1 < b.1
  prod : prodP ps * left = n
  pos : 1 ≤ left
  inv : Ld.Inv left prime
  le : ∀ p ∈ ps, p.1 ≤ prime
  gone : ps = [] ∨ ¬ prime ∣ left
  two : (2 : Int) ^ ps.length * left ≤ n
theorem Way.start {n : Int} (h : 1 ≤ n) : Way n [] n 2 := ⟨fun _ z => by simp at z, List.Pairwise.nil, by show 1 * n = n; omega, h, ⟨by decide, .inl rfl, fun d d0 d1 => by omega⟩, fun _ z => by simp at z, .inl rfl, by rw [List.length_nil, Int.pow_zero]; omega⟩
theorem Way.step {n left prime r left' : Int} {ps : List (Int × Int)} {k : Nat} (w : Way n ps left prime) (hn : n ≤ 10 ^ 9) (hl : 1 < left) (h : Ld.Least left r) (e : left = r ^ k * left') (l0 : 1 ≤ left') (hk : 1 ≤ k) (hg : ¬ r ∣ left') : Way n (ps ++ [(r, (k : Int))]) left' r := by
  have r2 := h.two
  have pm := pm_least h
  have rp : prime ≤ r := by
    rcases (by omega : prime ≤ r ∨ r < prime) with z | z
    · exact z
    · exact absurd h.dv (w.inv.no r r2 z)
  have rk := pow_pos' (show 0 < r by omega) k
  have k2 := two_pow_le r2 k
  have kl : (2 : Int) ^ k ≤ left := by
    have := Int.mul_le_mul k2 l0 (by decide) (Int.le_of_lt rk)
    rw [Int.mul_one] at this
    omega
  have ln : left ≤ n := by
    have z := w.two
    have p0 := pow_pos' (show (0 : Int) < 2 by decide) ps.length
    have := Int.mul_le_mul_of_nonneg_right (show (1 : Int) ≤ 2 ^ ps.length by omega) (show 0 ≤ left by omega)
    omega
  have k29 := two_le (k := k) (by omega)
  refine ⟨fun p hp => ?_, ?_, ?_, l0, ?_, fun p hp => ?_, .inr hg, ?_⟩
  · rcases List.mem_append.mp hp with z | z
    · exact w.ok p z
    · rw [List.mem_singleton.mp z]
      exact ⟨pm, by show (1 : Int) ≤ k; omega, by show (k : Int) ≤ 30; omega⟩
  · refine List.pairwise_append.mpr ⟨w.rise, List.pairwise_singleton _ _, fun a ha b hb => ?_⟩
    rw [List.mem_singleton.mp hb]
    show a.1 < r
    have := w.le a ha
    rcases w.gone with z | z
    · rw [z] at ha; simp at ha
    · have : prime ≠ r := fun y => z (y ▸ h.dv)
      omega
  · rw [prodP_snoc, ← w.prod, e]
    show prodP ps * r ^ ((k : Int).toNat) * left' = _
    rw [Int.toNat_natCast, Int.mul_assoc]
  · refine ⟨r2, ?_, fun d d0 d1 hd => h.no d d0 d1 (by rw [e]; exact Int.dvd_mul_of_dvd_right hd)⟩
    rcases (by omega : r = 2 ∨ 2 < r) with z | z
    · exact .inl z
    · refine .inr ?_
      rcases (by omega : r % 2 = 1 ∨ r % 2 = 0) with y | y
      · exact y
      · exact absurd (Int.dvd_of_emod_eq_zero y) (pm.no 2 (by decide) z)
  · rcases List.mem_append.mp hp with z | z
    · have := w.le p z; omega
    · rw [List.mem_singleton.mp z]; exact Int.le_refl _
  · rw [List.length_append, List.length_singleton, Pw.pow_add, Int.pow_succ, Int.pow_zero, Int.one_mul, Int.mul_assoc]
    refine Int.le_trans (Int.mul_le_mul_of_nonneg_left ?_ (Int.le_of_lt (pow_pos' (by decide) _))) w.two
    rw [e]
    obtain ⟨k', rfl⟩ : ∃ k', k = k' + 1 := ⟨k - 1, by omega⟩
    have p0 := pow_pos' (show 0 < r by omega) k'
    have h1 : r ≤ r ^ (k' + 1) := by
      rw [Int.pow_succ]
      have := Int.mul_le_mul_of_nonneg_right (show 1 ≤ r ^ k' by omega) (show 0 ≤ r by omega)
      omega
    exact Int.mul_le_mul_of_nonneg_right (show 2 ≤ r ^ (k' + 1) by omega) (show 0 ≤ left' by omega)
theorem Way.done {n prime : Int} {ps : List (Int × Int)} (w : Way n ps 1 prime) : Part n ps := ⟨w.ok, w.rise, by have := w.prod; omega⟩
theorem Way.len {n left prime : Int} {ps : List (Int × Int)} (w : Way n ps left prime) (hn : n ≤ 10 ^ 9) : ps.length ≤ 29 := by
  refine two_le ?_
  have z := w.two
  have p0 := pow_pos' (show (0 : Int) < 2 by decide) ps.length
  have := Int.mul_le_mul_of_nonneg_left w.pos (Int.le_of_lt p0)
  omega
end Num
set_option Elab.async false
set_option linter.all false
namespace Num
open PySem
theorem dvd_part : ∀ {ps : List (Int × Int)} {p : Int × Int}, p ∈ ps → 1 ≤ p.2 → p.1 ∣ prodP ps
  | a :: r, p, h, hk => by
    rcases List.mem_cons.mp h with z | z
    · subst z
      obtain ⟨k, hk'⟩ : ∃ k, p.2.toNat = k + 1 := ⟨p.2.toNat - 1, by omega⟩
      show p.1 ∣ p.1 ^ p.2.toNat * prodP r
      rw [hk', Int.pow_succ]
      exact Int.dvd_mul_of_dvd_left ⟨p.1 ^ k, Int.mul_comm _ _⟩
    · exact Int.dvd_mul_of_dvd_right (dvd_part z hk)
theorem pm_nm {q : Nat} (h : Nm q) : Pm (q : Int) := ⟨by have := h.1; omega, fun d d2 dq hd => h.2 d.toNat (by omega) (by omega) (by
  obtain ⟨c, hc⟩ := hd
  have : (d.toNat : Int) = d := by omega
  exact Int.natCast_dvd_natCast.mp (by rw [this]; exact ⟨c, hc⟩))⟩
theorem nm_pm {p : Int} (h : Pm p) : Nm p.toNat := ⟨by have := h.two; omega, fun d d2 dp hd => h.no d (by omega) (by omega) (by
  have := Int.natCast_dvd_natCast.mpr hd
  rwa [show (p.toNat : Int) = p by have := h.two; omega] at this)⟩
theorem pm_pow {p q : Int} (hp : Pm p) (hq : Pm q) : ∀ k : Nat, q ∣ p ^ k → q = p
  | 0, h => by
    rw [Int.pow_zero] at h
    have := Int.le_of_dvd (by decide) h
    have := hq.two
    omega
  | k + 1, h => by
    rw [Int.pow_succ] at h
    by_cases c : q ∣ p ^ k
    · exact pm_pow hp hq k c
    · have d := hq.or h c
      have l := Int.le_of_dvd (by have := hp.two; omega) d
      rcases (by omega : q < p ∨ q = p) with z | z
      · exact absurd d (hp.no q hq.two z)
      · exact z
theorem part_mem {q : Int} (hq : Pm q) : ∀ {ps : List (Int × Int)}, (∀ p ∈ ps, Pm p.1) → q ∣ prodP ps → ∃ p ∈ ps, p.1 = q
  | [], _, h => by
    have := Int.le_of_dvd (by decide) (show q ∣ 1 from h)
    have := hq.two
    omega
  | a :: r, hp, h => by
    by_cases c : q ∣ a.1 ^ a.2.toNat
    · exact ⟨a, by simp, (pm_pow (hp a (by simp)) hq _ c).symm⟩
    · obtain ⟨p, h1, h2⟩ := part_mem hq (fun p z => hp p (List.mem_cons_of_mem _ z)) (hq.or h c)
      exact ⟨p, List.mem_cons_of_mem _ h1, h2⟩
theorem part_ord {n a e : Int} {ps : List (Int × Int)} (h : Part e ps) (he : 1 ≤ e) : (Al n (a ^ e.toNat) 1 ∧ ∀ q ∈ ps.map (·.1), ¬ Al n (a ^ (e / q).toNat) 1) ↔ Ord n a e.toNat := by
  constructor
  · rintro ⟨h1, h2⟩
    refine ord_by (by omega) h1 fun q hq hd => ?_
    have hd' : (q : Int) ∣ e := by
      have := Int.natCast_dvd_natCast.mpr hd
      rwa [show (e.toNat : Int) = e by omega] at this
    obtain ⟨p, hp, ep⟩ := part_mem (pm_nm hq) (fun p z => (h.ok p z).1) (by rw [h.prod]; exact hd')
    have := h2 q (List.mem_map.mpr ⟨p, hp, ep⟩)
    rwa [show (e / (q : Int)).toNat = e.toNat / q by
      have : e / (q : Int) = ((e.toNat / q : Nat) : Int) := by rw [Int.natCast_ediv]; congr 1; omega
      rw [this, Int.toNat_natCast]] at this
  · intro h1
    refine ⟨h1.one, fun q hq => ?_⟩
    obtain ⟨p, hp, rfl⟩ := List.mem_map.mp hq
    obtain ⟨o1, o2, _⟩ := h.ok p hp
    have d : p.1 ∣ e := by rw [← h.prod]; exact dvd_part hp o2
    have t := o1.two
    have := h1.by_ (nm_pm o1) (by
      have : (p.1.toNat : Int) ∣ (e.toNat : Int) := by rw [show (p.1.toNat : Int) = p.1 by omega, show (e.toNat : Int) = e by omega]; exact d
      exact Int.natCast_dvd_natCast.mp this)
    rwa [show e.toNat / p.1.toNat = (e / p.1).toNat by
      have : e / p.1 = ((e.toNat / p.1.toNat : Nat) : Int) := by rw [Int.natCast_ediv]; congr 1 <;> omega
      rw [this, Int.toNat_natCast]] at this
structure LF (p g : Int) : Prop where
  one : 1 ≤ g
  lt : g < p
  ord : Ord p g (p - 1).toNat
  no : ∀ a : Int, 1 ≤ a → a < g → ¬ Ord p a (p - 1).toNat
def rowsOf (ps : List (Int × Int)) (ds : Nat → PyData) : List PyData := (List.range ps.length).map fun i => .tuple [ds i, .int (ps.getD i (0, 0)).2]
theorem rowsOf_len {ps : List (Int × Int)} {ds : Nat → PyData} : (rowsOf ps ds).length = ps.length := by unfold rowsOf; rw [List.length_map, List.length_range]
theorem rowsOf_get {ps : List (Int × Int)} {ds : Nat → PyData} {i : Nat} {p : Int × Int} (h : ps[i]? = some p) : (rowsOf ps ds)[i]? = some (.tuple [ds i, .int p.2]) := by
  have hi := (List.getElem?_eq_some_iff.mp h).1
  unfold rowsOf
  rw [List.getElem?_map, List.getElem?_range hi]
  show some (PyData.tuple [ds i, .int (ps.getD i (0, 0)).2]) = _
  rw [List.getD_eq_getElem?_getD, h]
  rfl
inductive Pap : Int → PyData → Prop
  | mk (p g : Int) (ps : List (Int × Int)) (ds : Nat → PyData) : Pm p → p ≤ 10 ^ 9 → LF p g → Part (p - 1) ps → ps.length ≤ 29 → (∀ i q k, ps[i]? = some (q, k) → Pap q (ds i)) → Pap p (.tuple [.int p, .int g, .tuple (rowsOf ps ds)])
theorem Pap.head {p : Int} {d : PyData} (h : Pap p d) : ∃ g rows, d = .tuple [.int p, .int g, .tuple rows] := by
  cases h
  exact ⟨_, _, rfl⟩
def Ht : Nat → Int → Prop
  | 0, _ => False
  | L + 1, n => ∀ q : Int, Pm q → q ∣ n - 1 → Ht L q
theorem ht_of : ∀ (L : Nat) (n : Int), Pm n → n < 2 ^ (L + 2) → Ht (L + 2) n
  | 0, n, h, hn => by
    have h2 := h.two
    have hn' : n < 4 := hn
    intro q hq hd
    intro q' hq' hd'
    have q2 := hq.two
    have l := Int.le_of_dvd (by rcases (by omega : n = 2 ∨ n = 3) with z | z; exfalso; rw [z] at hd; have := Int.le_of_dvd (by decide) hd; omega; omega) hd
    have qq : q = 2 := by omega
    rw [qq] at hd'
    have := Int.le_of_dvd (by decide) hd'
    have := hq'.two
    omega
  | L + 1, n, h, hn => by
    intro q hq hd
    have q2 := hq.two
    have h2 := h.two
    refine ht_of L q hq ?_
    have e : (2 : Int) ^ (L + 1 + 2) = 2 ^ (L + 2) * 2 := by rw [← Int.pow_succ]
    rw [e] at hn
    have four : (4 : Int) ≤ 2 ^ (L + 2) := by
      have := pow_pos' (show (0 : Int) < 2 by decide) L
      have e4 : (2 : Int) ^ (L + 2) = 2 ^ L * 4 := by rw [Pw.pow_add]; rfl
      omega
    obtain ⟨c, hc⟩ := hd
    rcases (by omega : n ≤ 3 ∨ 3 < n) with z | z
    · have : q ≤ n - 1 := Int.le_of_dvd (by
        rcases (by omega : n = 2 ∨ n = 3) with y | y
        · exfalso
          rw [y] at hc
          have := Int.le_of_dvd (by decide) (show q ∣ 1 from ⟨c, hc⟩)
          omega
        · omega) ⟨c, hc⟩
      omega
    · rcases (by omega : n % 2 = 0 ∨ n % 2 = 1) with y | y
      · exact absurd (Int.dvd_of_emod_eq_zero y) (h.no 2 (by decide) (by omega))
      · rcases (by omega : q = 2 ∨ 2 < q) with x | x
        · omega
        · have qo : q % 2 = 1 := by
            rcases (by omega : q % 2 = 1 ∨ q % 2 = 0) with w | w
            · exact w
            · exact absurd (Int.dvd_of_emod_eq_zero w) (hq.no 2 (by decide) x)
          have ce : c % 2 = 0 := by
            rcases (by omega : c % 2 = 0 ∨ c % 2 = 1) with w | w
            · exact w
            · exfalso
              have : (q * c) % 2 = 1 := by rw [Int.mul_emod, qo, w]; rfl
              omega
          have c2 : 2 ≤ c := by
            rcases (by omega : c ≤ 0 ∨ 2 ≤ c) with w | w
            · have := Int.mul_nonpos_of_nonneg_of_nonpos (show 0 ≤ q by omega) w
              omega
            · exact w
          have := Int.mul_le_mul_of_nonneg_left c2 (show 0 ≤ q by omega)
          omega
theorem ht_all {n : Int} (h : Pm n) (hn : n ≤ 10 ^ 9) : Ht 30 n := ht_of 28 n h (by
  have : (2 : Int) ^ (28 + 2) = 1073741824 := by decide
  omega)
end Num
set_option Elab.async false
set_option linter.all false
set_option maxRecDepth 100000
namespace Num
theorem pow_cancel {p : Int} (hp : 2 ≤ p) : ∀ {k l : Nat} {R T : Int}, ¬ p ∣ R → ¬ p ∣ T → p ^ k * R = p ^ l * T → k = l ∧ R = T
  | 0, 0, R, T, _, _, e => by rw [Int.pow_zero, Int.one_mul, Int.one_mul] at e; exact ⟨rfl, e⟩
  | 0, l + 1, R, T, h, _, e => by
    rw [Int.pow_zero, Int.one_mul, Int.pow_succ, Int.mul_comm (p ^ l), Int.mul_assoc] at e
    exact absurd ⟨_, e⟩ h
  | k + 1, 0, R, T, _, h, e => by
    rw [Int.pow_zero, Int.one_mul, Int.pow_succ, Int.mul_comm (p ^ k), Int.mul_assoc] at e
    exact absurd ⟨_, e.symm⟩ h
  | k + 1, l + 1, R, T, h, h', e => by
    rw [Int.pow_succ, Int.pow_succ, Int.mul_comm (p ^ k), Int.mul_comm (p ^ l), Int.mul_assoc, Int.mul_assoc] at e
    obtain ⟨e1, e2⟩ := pow_cancel hp h h' (Int.eq_of_mul_eq_mul_left (by omega) e)
    exact ⟨by rw [e1], e2⟩
theorem Part.tail {n : Int} {x : Int × Int} {r : List (Int × Int)} (h : Part n (x :: r)) : Part (prodP r) r := ⟨fun p hp => h.ok p (List.mem_cons_of_mem _ hp), (List.pairwise_cons.mp h.rise).2, rfl⟩
theorem Part.nd {n : Int} {x : Int × Int} {r : List (Int × Int)} (h : Part n (x :: r)) : ¬ x.1 ∣ prodP r := fun z => by
  obtain ⟨y, hy, e⟩ := part_mem (h.ok x (List.mem_cons_self ..)).1 (fun p hp => (h.ok p (List.mem_cons_of_mem _ hp)).1) z
  have := (List.pairwise_cons.mp h.rise).1 y hy
  omega
theorem Part.hd {n : Int} {x : Int × Int} {r : List (Int × Int)} (h : Part n (x :: r)) {q : Int} (hq : Pm q) (hd : q ∣ n) : x.1 ≤ q := by
  obtain ⟨y, hy, e⟩ := part_mem hq (fun p hp => (h.ok p hp).1) (h.prod ▸ hd)
  rcases List.mem_cons.mp hy with rfl | hy
  · omega
  · have := (List.pairwise_cons.mp h.rise).1 y hy
    omega
theorem Part.dv {n : Int} {ps : List (Int × Int)} (h : Part n ps) {x : Int × Int} (hx : x ∈ ps) : x.1 ∣ n := h.prod ▸ dvd_part hx (h.ok x hx).2.1
theorem Part.one : ∀ {ps qs : List (Int × Int)} {n : Int}, Part n ps → Part n qs → ps = qs
  | [], [], _, _, _ => rfl
  | [], y :: t, n, h, h' => by
    exfalso
    have e : n = 1 := h.prod.symm
    have := (h'.ok y (List.mem_cons_self ..)).1.two
    have := Int.le_of_dvd (by decide) (e ▸ h'.dv (List.mem_cons_self ..))
    omega
  | x :: r, [], n, h, h' => by
    exfalso
    have e : n = 1 := h'.prod.symm
    have := (h.ok x (List.mem_cons_self ..)).1.two
    have := Int.le_of_dvd (by decide) (e ▸ h.dv (List.mem_cons_self ..))
    omega
  | (p, k) :: r, (q, l) :: t, n, h, h' => by
    have hp := h.ok _ (List.mem_cons_self ..)
    have hq := h'.ok _ (List.mem_cons_self ..)
    have e1 : p ≤ q := h.hd hq.1 (h'.dv (List.mem_cons_self ..))
    have e2 : q ≤ p := h'.hd hp.1 (h.dv (List.mem_cons_self ..))
    obtain rfl : p = q := by omega
    obtain ⟨a, b⟩ := pow_cancel hp.1.two h.nd h'.nd (h.prod.trans h'.prod.symm)
    have : k = l := by have := hp.2.1; have := hq.2.1; simp only at *; omega
    subst this
    rw [Part.one h.tail (b ▸ h'.tail)]
def phiP : List (Int × Int) → Int
  | [] => 1
  | x :: r => x.1 ^ (x.2.toNat - 1) * (x.1 - 1) * phiP r
theorem phiP_snoc : ∀ (s : List (Int × Int)) (x : Int × Int), phiP (s ++ [x]) = phiP s * (x.1 ^ (x.2.toNat - 1) * (x.1 - 1))
  | [], x => by show _ * 1 = 1 * _; omega
  | y :: s, x => by
    show _ * phiP (s ++ [x]) = _ * phiP s * _
    rw [phiP_snoc s x]
    simp only [Int.mul_assoc]
theorem prodP_pos : ∀ {ps : List (Int × Int)}, (∀ p ∈ ps, Pm p.1) → 0 < prodP ps
  | [], _ => by decide
  | x :: r, h => Int.mul_pos (pow_pos' (by have := (h x (List.mem_cons_self ..)).two; omega) _) (prodP_pos fun p hp => h p (List.mem_cons_of_mem _ hp))
theorem Part.pos {n : Int} {ps : List (Int × Int)} (h : Part n ps) : 0 < n := h.prod ▸ prodP_pos fun p hp => (h.ok p hp).1
structure Dv (A : Int) (F : List (List (Int × Int))) : Prop where
  part : ∀ s ∈ F, Part (prodP s) s
  nodup : (F.map prodP).Nodup
  mem : ∀ d, d ∈ F.map prodP ↔ 0 < d ∧ d ∣ A
  sum : (F.map phiP).sum = A
theorem Dv.start : Dv 1 [[]] := ⟨fun s hs => by rw [List.mem_singleton.mp hs]; exact ⟨fun _ z => by simp at z, List.Pairwise.nil, rfl⟩, by simp, fun d => by
    show d ∈ [1] ↔ _
    rw [List.mem_singleton]
    exact ⟨fun e => by rw [e]; exact ⟨by decide, Int.dvd_refl _⟩, fun ⟨a, b⟩ => by have := Int.le_of_dvd (by decide) b; omega⟩, rfl⟩
theorem pow_dvd_pow {p A : Int} (hp : Pm p) (nd : ¬ p ∣ A) {i : Nat} {d : Int} (hd : 0 < d) : d ∣ A * p ^ (i + 1) ↔ d ∣ A * p ^ i ∨ ∃ c, 0 < c ∧ c ∣ A ∧ d = c * p ^ (i + 1) := by
  constructor
  · intro h
    have p2 := hp.two
    obtain ⟨k, m, e, nm⟩ := split_ex (q := p.toNat) (by omega) d.toNat (by omega)
    have ed : d = p ^ k * (m : Int) := by
      have : ((d.toNat : Nat) : Int) = ((p.toNat ^ k * m : Nat) : Int) := by rw [e]
      rw [Int.toNat_of_nonneg (by omega), Int.natCast_mul, Int.natCast_pow, Int.toNat_of_nonneg (by omega)] at this
      exact this
    have nm' : ¬ p ∣ (m : Int) := fun z => nm (by
      obtain ⟨c, hc⟩ := z
      have : ((p.toNat : Nat) : Int) ∣ (m : Int) := ⟨c, by rw [Int.toNat_of_nonneg (by omega)]; exact hc⟩
      exact Int.natCast_dvd_natCast.mp this)
    have hm : (m : Int) ∣ A := by
      have co : Co (p ^ (i + 1)) (m : Int) := Co.pow (by
        obtain ⟨u, v, w⟩ := hp.co nm'
        exact ⟨v, u, by omega⟩) _
      refine co.dvd ?_
      rw [Int.mul_comm]
      exact Int.dvd_trans ⟨p ^ k, by rw [ed, Int.mul_comm]⟩ h
    have m0 : 0 < (m : Int) := by
      rcases (by omega : (m : Int) = 0 ∨ 0 < (m : Int)) with z | z
      · rw [z, Int.mul_zero] at ed; omega
      · exact z
    rcases (by omega : k ≤ i ∨ k = i + 1 ∨ i + 1 < k) with z | z | z
    · left
      obtain ⟨c, hc⟩ := hm
      refine ⟨c * p ^ (i - k), ?_⟩
      have : p ^ i = p ^ k * p ^ (i - k) := by rw [← Pw.pow_add, show k + (i - k) = i by omega]
      rw [ed, hc, this]
      grind
    · right
      exact ⟨m, m0, hm, by rw [ed, z, Int.mul_comm]⟩
    · exfalso
      obtain ⟨c, hc⟩ := h
      have e1 : p ^ k = p ^ (i + 1) * (p * p ^ (k - (i + 2))) := by rw [← Int.mul_assoc, ← Int.pow_succ, ← Pw.pow_add]; congr 1; omega
      have e2 : p ^ (i + 1) * A = p ^ (i + 1) * (p * (p ^ (k - (i + 2)) * m * c)) := by
        rw [Int.mul_comm, hc, ed, e1]
        grind
      exact nd ⟨_, Int.eq_of_mul_eq_mul_left (by have := pow_pos' (show 0 < p by omega) (i + 1); omega) e2⟩
  · rintro (h | ⟨c, _, hc, rfl⟩)
    · rw [Int.pow_succ, ← Int.mul_assoc]
      exact Int.dvd_trans h ⟨p, rfl⟩
    · exact Int.mul_dvd_mul_right _ hc
theorem sum_map_mul (c : Int) : ∀ l : List Int, (l.map (· * c)).sum = l.sum * c
  | [] => by simp
  | x :: l => by simp only [List.map_cons, List.sum_cons]; rw [sum_map_mul c l, Int.add_mul]
theorem Dv.layer {A p : Int} {i : Nat} {F G : List (List (Int × Int))} (hp : Pm p) (nd : ¬ p ∣ A) (A0 : 0 < A) (hi : i + 1 ≤ 30) (g : Dv A G) (up : ∀ s ∈ G, ∀ x ∈ s, x.1 < p) (f : Dv (A * p ^ i) F) :
    Dv (A * p ^ (i + 1)) (F ++ G.map (· ++ [(p, ((i + 1 : Nat) : Int))])) := by
  have p2 := hp.two
  have pp := pow_pos' (show 0 < p by omega) (i + 1)
  have e : (G.map (· ++ [(p, ((i + 1 : Nat) : Int))])).map prodP = (G.map prodP).map (· * p ^ (i + 1)) := by
    rw [List.map_map, List.map_map]
    refine List.map_congr_left fun s _ => ?_
    show prodP (s ++ _) = prodP s * _
    rw [prodP_snoc]
    show _ * p ^ (((i + 1 : Nat) : Int).toNat) = _
    rw [Int.toNat_natCast]
  have new : ∀ d, d ∈ (G.map prodP).map (· * p ^ (i + 1)) ↔ ∃ c, 0 < c ∧ c ∣ A ∧ d = c * p ^ (i + 1) := fun d => by
    rw [List.mem_map]
    exact ⟨fun ⟨c, hc, e⟩ => ⟨c, ((g.mem c).mp hc).1, ((g.mem c).mp hc).2, e.symm⟩, fun ⟨c, c0, hc, e⟩ => ⟨c, (g.mem c).mpr ⟨c0, hc⟩, e.symm⟩⟩
  refine ⟨fun s hs => ?_, ?_, fun d => ?_, ?_⟩
  · rcases List.mem_append.mp hs with hs | hs
    · exact f.part s hs
    · obtain ⟨t, ht, rfl⟩ := List.mem_map.mp hs
      have pt := g.part t ht
      refine ⟨fun x hx => ?_, ?_, rfl⟩
      · rcases List.mem_append.mp hx with hx | hx
        · exact pt.ok x hx
        · rw [List.mem_singleton.mp hx]; exact ⟨hp, by show (1 : Int) ≤ ((i + 1 : Nat) : Int); omega, by show ((i + 1 : Nat) : Int) ≤ 30; omega⟩
      · exact List.pairwise_append.mpr ⟨pt.rise, List.pairwise_singleton _ _, fun a ha b hb => by rw [List.mem_singleton.mp hb]; exact up t ht a ha⟩
  · rw [List.map_append, e]
    refine List.nodup_append.mpr ⟨f.nodup, ?_, fun a ha b hb => ?_⟩
    · exact g.nodup.map (f := (· * p ^ (i + 1))) (fun a b h => fun z => h (Int.eq_of_mul_eq_mul_right (by omega) z))
    · intro z
      subst z
      obtain ⟨c, c0, hc, rfl⟩ := (new _).mp hb
      have := ((f.mem _).mp ha).2
      obtain ⟨t, ht⟩ := this
      have e3 : p ^ i * A = p ^ i * (p * (c * t)) := by rw [Int.mul_comm, ht, Int.pow_succ]; grind
      exact nd ⟨_, Int.eq_of_mul_eq_mul_left (by have := pow_pos' (show 0 < p by omega) i; omega) e3⟩
  · rw [List.map_append, List.mem_append, e, new, f.mem]
    constructor
    · rintro (⟨d0, h⟩ | ⟨c, c0, hc, rfl⟩)
      · exact ⟨d0, (pow_dvd_pow hp nd d0).mpr (.inl h)⟩
      · exact ⟨Int.mul_pos c0 pp, (pow_dvd_pow hp nd (Int.mul_pos c0 pp)).mpr (.inr ⟨c, c0, hc, rfl⟩)⟩
    · rintro ⟨d0, h⟩
      rcases (pow_dvd_pow hp nd d0).mp h with h | h
      · exact .inl ⟨d0, h⟩
      · exact .inr h
  · rw [List.map_append, List.sum_append, f.sum]
    have : (G.map (· ++ [(p, ((i + 1 : Nat) : Int))])).map phiP = (G.map phiP).map (· * (p ^ i * (p - 1))) := by
      rw [List.map_map, List.map_map]
      refine List.map_congr_left fun s _ => ?_
      show phiP (s ++ _) = phiP s * _
      rw [phiP_snoc]
      show _ * (p ^ (((i + 1 : Nat) : Int).toNat - 1) * (p - 1)) = _
      rw [Int.toNat_natCast, Nat.add_sub_cancel]
    rw [this, sum_map_mul, g.sum, Int.pow_succ]
    grind
structure Ds (n : Int) (ds : List Int) : Prop where
  rise : ds.Pairwise (· < ·)
  mem : ∀ d, d ∈ ds ↔ 0 < d ∧ d ∣ n
theorem lt_of_le {l : List Int} (h : l.Pairwise (· ≤ ·)) (nd : l.Nodup) : l.Pairwise (· < ·) :=
  (h.and nd).imp fun ⟨a, b⟩ => by omega
theorem lt_ext : ∀ {l m : List Int}, l.Pairwise (· < ·) → m.Pairwise (· < ·) → (∀ a, a ∈ l ↔ a ∈ m) → l = m
  | [], [], _, _, _ => rfl
  | [], y :: m, _, _, h => by have := (h y).mpr (List.mem_cons_self ..); simp at this
  | x :: l, [], _, _, h => by have := (h x).mp (List.mem_cons_self ..); simp at this
  | x :: l, y :: m, hl, hm, h => by
    obtain ⟨a, b⟩ := List.pairwise_cons.mp hl
    obtain ⟨c, d⟩ := List.pairwise_cons.mp hm
    have e : x = y := by
      rcases List.mem_cons.mp ((h x).mp (List.mem_cons_self ..)) with z | z
      · exact z
      · rcases List.mem_cons.mp ((h y).mpr (List.mem_cons_self ..)) with w | w
        · exact w.symm
        · have := a y w; have := c x z; omega
    subst e
    rw [lt_ext b d fun z => ?_]
    constructor
    · intro hz
      rcases List.mem_cons.mp ((h z).mp (List.mem_cons_of_mem _ hz)) with w | w
      · have := a z hz; omega
      · exact w
    · intro hz
      rcases List.mem_cons.mp ((h z).mpr (List.mem_cons_of_mem _ hz)) with w | w
      · have := c z hz; omega
      · exact w
theorem Ds.one {n : Int} {ds es : List Int} (h : Ds n ds) (h' : Ds n es) : ds = es := lt_ext h.rise h'.rise fun a => (h.mem a).trans (h'.mem a).symm
theorem Dv.ds {n : Int} {F : List (List (Int × Int))} {ds : List Int} (h : Dv n F) (p : ds.Perm (F.map prodP)) (s : ds.Pairwise (· ≤ ·)) : Ds n ds :=
  ⟨lt_of_le s (p.nodup_iff.mpr h.nodup), fun d => p.mem_iff.trans (h.mem d)⟩
theorem filter_two (p : Int → Bool) : ∀ l : List Int, l.length = (l.filter p).length + (l.filter (fun d => !p d)).length
  | [] => rfl
  | x :: l => by
    have := filter_two p l
    cases e : p x <;> simp [List.filter_cons, e] <;> omega
theorem few {n : Int} (hn : n ≤ 10 ^ 9) {l : List Int} (nd : l.Nodup) (h : ∀ d ∈ l, 0 < d ∧ d ∣ n) (n0 : 0 < n) : l.length ≤ 63246 := by
  have lo : (l.filter (fun d => decide (d < 31623))).length ≤ 31623 := by
    have := pigeon 31623 ((l.filter (fun d => decide (d < 31623))).map Int.toNat) ?_ ?_
    · simpa using this
    · refine List.pairwise_map.mpr ((nd.filter _).imp_of_mem fun {a b} ha hb ne e => ne ?_)
      have h1 := h a (List.mem_filter.mp ha).1
      have h2 := h b (List.mem_filter.mp hb).1
      omega
    · intro x hx
      obtain ⟨d, hd, rfl⟩ := List.mem_map.mp hx
      have := (List.mem_filter.mp hd).2
      simp at this
      omega
  have hi : (l.filter (fun d => !decide (d < 31623))).length ≤ 31623 := by
    have := pigeon 31623 ((l.filter (fun d => !decide (d < 31623))).map fun d => (n / d).toNat) ?_ ?_
    · simpa using this
    · refine List.pairwise_map.mpr ((nd.filter _).imp_of_mem fun {a b} ha hb ne e => ne ?_)
      have h1 := h a (List.mem_filter.mp ha).1
      have h2 := h b (List.mem_filter.mp hb).1
      obtain ⟨c, hc⟩ := h1.2
      obtain ⟨c', hc'⟩ := h2.2
      have e1 : n / a = c := by rw [hc]; exact Int.mul_ediv_cancel_left _ (by omega)
      have e2 : n / b = c' := by rw [hc']; exact Int.mul_ediv_cancel_left _ (by omega)
      rw [e1, e2] at e
      have c0 : 0 < c := by
        rcases (by omega : c ≤ 0 ∨ 0 < c) with z | z
        · have := Int.mul_nonpos_of_nonneg_of_nonpos (show 0 ≤ a by omega) z
          omega
        · exact z
      have c0' : 0 < c' := by
        rcases (by omega : c' ≤ 0 ∨ 0 < c') with z | z
        · have := Int.mul_nonpos_of_nonneg_of_nonpos (show 0 ≤ b by omega) z
          omega
        · exact z
      obtain rfl : c = c' := by omega
      exact Int.eq_of_mul_eq_mul_right (by omega) (hc.symm.trans hc')
    · intro x hx
      obtain ⟨d, hd, rfl⟩ := List.mem_map.mp hx
      have h1 := (List.mem_filter.mp hd).2
      simp at h1
      have h2 : n / d ≤ n / 31623 := by
        refine Int.le_ediv_of_mul_le (by decide) ?_
        have := Int.ediv_mul_le n (show d ≠ 0 by omega)
        have := Int.mul_le_mul_of_nonneg_left h1 (Int.ediv_nonneg (show 0 ≤ n by omega) (show 0 ≤ d by omega))
        omega
      have : n / 31623 < 31623 := Int.ediv_lt_of_lt_mul (by decide) (by omega)
      omega
  have := filter_two (fun d : Int => decide (d < 31623)) l
  omega
theorem Ds.turn {n : Int} {ds : List Int} (n0 : 0 < n) (h : Ds n ds) : ds.map (n / ·) = ds.reverse := by
  have key : (ds.map (n / ·)).reverse = ds := by
    refine lt_ext ?_ h.rise fun a => ?_
    · rw [List.pairwise_reverse]
      refine List.pairwise_map.mpr (h.rise.imp_of_mem fun {a b} ha hb lt => ?_)
      obtain ⟨a0, c, hc⟩ := (h.mem a).mp ha
      obtain ⟨b0, c', hc'⟩ := (h.mem b).mp hb
      show n / b < n / a
      rw [show n / a = c by rw [hc]; exact Int.mul_ediv_cancel_left _ (by omega), show n / b = c' by rw [hc']; exact Int.mul_ediv_cancel_left _ (by omega)]
      rcases (by omega : c ≤ c' ∨ c' < c) with z | z
      · exfalso
        have c0 : 0 < c := by
          rcases (by omega : c ≤ 0 ∨ 0 < c) with z | z
          · have := Int.mul_nonpos_of_nonneg_of_nonpos (show 0 ≤ a by omega) z
            omega
          · exact z
        have h1 : a * c < b * c := Int.mul_lt_mul_of_pos_right lt c0
        have h2 := Int.mul_le_mul_of_nonneg_left z (show 0 ≤ b by omega)
        omega
      · exact z
    · rw [List.mem_reverse, List.mem_map]
      constructor
      · rintro ⟨d, hd, rfl⟩
        obtain ⟨d0, c, hc⟩ := (h.mem d).mp hd
        have e : n / d = c := by rw [hc]; exact Int.mul_ediv_cancel_left _ (by omega)
        rw [e]
        refine (h.mem c).mpr ⟨?_, d, by rw [hc, Int.mul_comm]⟩
        rcases (by omega : c ≤ 0 ∨ 0 < c) with z | z
        · have := Int.mul_nonpos_of_nonneg_of_nonpos (show 0 ≤ d by omega) z
          omega
        · exact z
      · intro ha
        obtain ⟨a0, c, hc⟩ := (h.mem a).mp ha
        have c0 : 0 < c := by
          rcases (by omega : c ≤ 0 ∨ 0 < c) with z | z
          · have := Int.mul_nonpos_of_nonneg_of_nonpos (show 0 ≤ a by omega) z
            omega
          · exact z
        exact ⟨c, (h.mem c).mpr ⟨c0, a, by rw [hc, Int.mul_comm]⟩, by rw [hc]; exact Int.mul_ediv_cancel _ (by omega)⟩
  rw [← key, List.reverse_reverse, key]
def ins (x : Int × Int) : List (Int × Int) → List (Int × Int)
  | [] => [x]
  | y :: r => if x.1 < y.1 then x :: y :: r else y :: ins x r
theorem mem_ins {x z : Int × Int} : ∀ {r : List (Int × Int)}, z ∈ ins x r ↔ z = x ∨ z ∈ r
  | [] => by simp [ins]
  | y :: r => by
    unfold ins
    split
    · simp
    · rw [List.mem_cons, mem_ins, List.mem_cons]
      exact ⟨fun h => by rcases h with h | h | h; exact .inr (.inl h); exact .inl h; exact .inr (.inr h), fun h => by rcases h with h | h | h; exact .inr (.inl h); exact .inl h; exact .inr (.inr h)⟩
theorem ins_rise {x : Int × Int} : ∀ {r : List (Int × Int)}, r.Pairwise (fun a b => a.1 < b.1) → (∀ y ∈ r, y.1 ≠ x.1) → (ins x r).Pairwise fun a b => a.1 < b.1
  | [], _, _ => List.pairwise_singleton _ _
  | y :: r, h, ne => by
    obtain ⟨a, b⟩ := List.pairwise_cons.mp h
    have := ne y (List.mem_cons_self ..)
    unfold ins
    split
    · rename_i c
      exact List.pairwise_cons.mpr ⟨fun z hz => by
        rcases List.mem_cons.mp hz with rfl | hz
        · exact c
        · have := a z hz; omega, h⟩
    · rename_i c
      refine List.pairwise_cons.mpr ⟨fun z hz => ?_, ins_rise b fun z hz => ne z (List.mem_cons_of_mem _ hz)⟩
      rcases mem_ins.mp hz with rfl | hz
      · omega
      · exact a z hz
theorem ins_prod {x : Int × Int} : ∀ {r : List (Int × Int)}, prodP (ins x r) = x.1 ^ x.2.toNat * prodP r
  | [] => rfl
  | y :: r => by
    unfold ins
    split
    · rfl
    · show _ * prodP (ins x r) = _ * (_ * prodP r)
      rw [ins_prod, Int.mul_left_comm]
theorem ins_phi {x : Int × Int} : ∀ {r : List (Int × Int)}, phiP (ins x r) = x.1 ^ (x.2.toNat - 1) * (x.1 - 1) * phiP r
  | [] => rfl
  | y :: r => by
    unfold ins
    split
    · rfl
    · show _ * phiP (ins x r) = _ * (_ * phiP r)
      rw [ins_phi, Int.mul_left_comm]
theorem Part.mul : ∀ {qs ps : List (Int × Int)} {n : Int}, Part n ps → (∀ p ∈ qs, Pm p.1 ∧ 1 ≤ p.2 ∧ p.2 ≤ 30) → qs.Pairwise (fun a b => a.1 < b.1) → (∀ x ∈ ps, ∀ y ∈ qs, x.1 ≠ y.1) → ∃ rs, Part (n * prodP qs) rs ∧ phiP rs = phiP ps * phiP qs
  | [], ps, n, h, _, _, _ => ⟨ps, by show Part (n * 1) ps; rw [Int.mul_one]; exact h, by show _ = _ * 1; rw [Int.mul_one]⟩
  | y :: qs, ps, n, h, ok, rise, ne => by
    obtain ⟨a, b⟩ := List.pairwise_cons.mp rise
    have h1 : Part (y.1 ^ y.2.toNat * n) (ins y ps) := ⟨fun p hp => by
      rcases mem_ins.mp hp with rfl | hp
      · exact ok _ (List.mem_cons_self ..)
      · exact h.ok p hp, ins_rise h.rise fun x hx => ne x hx y (List.mem_cons_self ..), by rw [ins_prod, h.prod]⟩
    obtain ⟨rs, h2, h3⟩ := Part.mul h1 (fun p hp => ok p (List.mem_cons_of_mem _ hp)) b fun x hx z hz => by
      rcases mem_ins.mp hx with rfl | hx
      · have := a z hz; omega
      · exact ne x hx z (List.mem_cons_of_mem _ hz)
    refine ⟨rs, ?_, ?_⟩
    · have : n * prodP (y :: qs) = y.1 ^ y.2.toNat * n * prodP qs := by show n * (_ * _) = _; rw [Int.mul_comm (y.1 ^ _) n, Int.mul_assoc]
      rw [this]; exact h2
    · rw [h3, ins_phi]
      show _ = phiP ps * (_ * phiP qs)
      grind
def prods (ds es : List Int) : List Int := ds.flatMap fun d => es.map (d * ·)
end Num
set_option Elab.async false
set_option linter.all false
set_option maxRecDepth 100000
set_option maxHeartbeats 1000000
namespace L2
open PySem PySem.Spec PyProof.Rows
def tyD : PyData → String
  | .none => "NoneType"
  | .bool _ => "bool"
  | .int _ => "int"
  | .str _ => "str"
  | .list _ => "list"
  | .tuple _ => "tuple"
  | .dict _ => "dict"
def isW : PyData → Bool
  | .int _ => true
  | _ => false
def isB : PyData → Bool
  | .bool _ => true
  | _ => false
def isT : PyData → Bool
  | .tuple _ => true
  | _ => false
def isL : PyData → Bool
  | .list _ => true
  | _ => false
section
variable {X : Cx} {K : PySem.W.Frag}
def rIsiD (K : PySem.W.Frag) : List V → Hp → VK → Prop := fun xs H Q => ∃ d x n b, xs = [x, .ty n] ∧ dv K H d x ∧ PySem.W.kitOne K (.type (tyD d)) (.type n) = some b ∧ Q (.bl b) H
theorem call_isiD : CallR X (.builtin "isinstance") (rIsiD X.K) := by
  intro pins s σ H xs us Q I r h
  obtain ⟨d, x, n, b, rfl, hd, ek, q⟩ := h
  obtain ⟨u, w', rfl, rx, rc⟩ := vals2 r
  have e : w' = .type n := rc
  subst e
  have fin : ∀ tk, ∃ v' H', Inv X pins σ H' { s with toks := tk } ∧ RelV v' (.bool b) ∧ Q v' H' := fun tk => ⟨.bl b, H, I.tok _, rfl, q⟩
  cases d with
  | none => cases hd; exact isinst_ok I rx TyOf.non ek fin
  | bool y => cases hd; exact isinst_ok I rx (TyOf.bl _) ek fin
  | int y => cases hd; exact isinst_ok I rx (TyOf.int _) ek fin
  | str y => cases hd; exact isinst_ok I rx (TyOf.str _) ek fin
  | list ds =>
    obtain ⟨p, ys, rfl, h, t⟩ := hd
    cases rx
    obtain ⟨its, rr, pl, _⟩ := I.list h
    obtain ⟨o, h1, h2, _⟩ := pl.isList
    exact PySem.W.kia_one PySem.W.kitx_list I.kIn ⟨o, h1, h2⟩ ek (fun z => nomatch z) fin
  | tuple ds =>
    obtain ⟨p, ys, rfl, h, t⟩ := hd
    cases rx
    obtain ⟨its, rr, pl, _⟩ := I.tuple h
    obtain ⟨o, h1, h2, _⟩ := pl
    exact PySem.W.kia_one PySem.W.kitx_tuple I.kIn ⟨o, h1, h2⟩ ek (fun z => nomatch z) fin
  | dict _ => exact hd.elim
theorem isd_int {H : Hp} {d : PyData} {x : V} {Q : VK} (h : dv K H d x) (q : Q (.bl (isW d || isB d)) H) : rIsiD K [x, .ty "int"] H Q := by
  refine ⟨d, x, "int", _, rfl, h, ?_, q⟩
  cases d <;> first | exact h.elim | with_unfolding_all rfl
theorem isd_bool {H : Hp} {d : PyData} {x : V} {Q : VK} (h : dv K H d x) (q : Q (.bl (isB d)) H) : rIsiD K [x, .ty "bool"] H Q := by
  refine ⟨d, x, "bool", _, rfl, h, ?_, q⟩
  cases d <;> first | exact h.elim | with_unfolding_all rfl
theorem isd_tup {H : Hp} {d : PyData} {x : V} {Q : VK} (h : dv K H d x) (q : Q (.bl (isT d)) H) : rIsiD K [x, .ty "tuple"] H Q := by
  refine ⟨d, x, "tuple", _, rfl, h, ?_, q⟩
  cases d <;> first | exact h.elim | with_unfolding_all rfl
end
end L2
set_option Elab.async false
set_option linter.all false
set_option maxRecDepth 100000
set_option maxHeartbeats 1000000
namespace L2
open PySem PySem.Spec PyProof.Rows
def fromV (i : Int) (n : Nat) : List V := (List.range n).map fun (k : Nat) => V.int (i + (k : Int))
def tLR (ta : TA) : TE := fun σ H Q => ta σ H fun vs H1 => ∃ i j : Int, vs = [.int i, .int j] ∧ (-(2 ^ 62) ≤ i ∧ i < 2 ^ 62 ∧ -(2 ^ 62) ≤ j ∧ j < 2 ^ 62) ∧ j - i ≤ 10 ^ 6 ∧ ∀ l, H1 l = none → Q (.ref l) (upd H1 l (.lst (fromV i (j - i).toNat)))
variable {X : Cx}
end L2
set_option Elab.async false
set_option linter.all false
set_option maxRecDepth 100000
set_option maxHeartbeats 1000000
namespace L2
open PySem PySem.Spec PyProof.Rows
section
variable {X : Cx} {K : PySem.W.Frag}
def rAny (K : PySem.W.Frag) : List V → Hp → VK → Prop := fun xs H Q => ∃ (a : Addr) (bs : List Bool), xs = [.ref a] ∧ SqL K H a (bs.map V.bl) ∧ Q (.bl (bs.any id)) H
def rIsiT (K : PySem.W.Frag) : List V → Hp → VK → Prop := fun xs H Q => ∃ d x p b, xs = [x, .ref p] ∧ dv K H d x ∧ H p = some (.tup [.ty "list", .ty "tuple"]) ∧ PySem.W.kitAny K (.type (tyD d)) [.type "list", .type "tuple"] = some b ∧ Q (.bl b) H
end
end L2
set_option Elab.async false
set_option linter.all false
set_option maxRecDepth 100000
namespace L2
open PySem PySem.Spec PyProof.Rows
section
variable {κ : Type} [DecidableEq κ]
def valV (kvs : List (κ × V)) (k : κ) : Option V := (kvs.find? fun kv => decide (kv.1 = k)).map (·.2)
def putK (kvs : List (κ × V)) (k : κ) (v : V) : List (κ × V) :=
  if (kvs.any fun kv => decide (kv.1 = k)) = true then kvs.map (fun kv => if kv.1 = k then (kv.1, v) else kv) else kvs ++ [(k, v)]
def dropK (kvs : List (κ × V)) (k : κ) : List (κ × V) := kvs.filter fun kv => decide (kv.1 ≠ k)
theorem valV_pos {p : κ × V} {r : List (κ × V)} {k : κ} (e : p.1 = k) : valV (p :: r) k = some p.2 := by simp [valV, List.find?_cons, e]
theorem valV_neg {p : κ × V} {r : List (κ × V)} {k : κ} (e : ¬ p.1 = k) : valV (p :: r) k = valV r k := by simp [valV, List.find?_cons, e]
theorem valV_any (k : κ) : ∀ kvs : List (κ × V), (kvs.any fun kv => decide (kv.1 = k)) = (valV kvs k).isSome
  | [] => rfl
  | p :: r => by
    rw [List.any_cons]
    by_cases e : p.1 = k
    · simp only [valV_pos e, decide_eq_true e, Bool.true_or, Option.isSome_some]
    · rw [valV_neg e, decide_eq_false e, Bool.false_or]; exact valV_any k r
theorem RelO.isSome_eq {o : Option V} {u : Option Value} (r : RelO o u) : o.isSome = u.isSome := by
  cases o with
  | none => cases u with
    | none => rfl
    | some _ => exact (show False from r).elim
  | some _ => cases u with
    | none => exact (show False from r).elim
    | some _ => rfl
theorem RelO.getD {o : Option V} {u : Option Value} {d : V} {d' : Value} (r : RelO o u) (rd : RelV d d') : RelV (o.getD d) (u.getD d') := by
  cases o with
  | none => cases u with
    | none => exact rd
    | some _ => exact (show False from r).elim
  | some _ => cases u with
    | none => exact (show False from r).elim
    | some _ => exact r
theorem KV.val {kvs : List (κ × V)} {vs : List (κ × Value)} (r : KV kvs vs) (k : κ) : RelO (valV kvs k) (valueAt vs k) := by
  unfold KV at r
  induction r with
  | nil => exact True.intro
  | @cons p q ps qs h t ih =>
    obtain ⟨h1, h2⟩ := h
    by_cases e : p.1 = k
    · have e' : q.1 = k := h1.symm.trans e
      have b : valueAt (q :: qs) k = some q.2 := by simp [valueAt, List.find?_cons, e']
      rw [valV_pos e, b]; exact h2
    · have e' : ¬ q.1 = k := fun z => e (h1.trans z)
      have b : valueAt (q :: qs) k = valueAt qs k := by simp [valueAt, List.find?_cons, e']
      rw [valV_neg e, b]; exact ih
theorem KV.any {kvs : List (κ × V)} {vs : List (κ × Value)} (r : KV kvs vs) (k : κ) : (kvs.any fun kv => decide (kv.1 = k)) = vs.any fun kv => decide (kv.1 = k) := by
  unfold KV at r
  induction r with
  | nil => rfl
  | cons h t ih => rw [List.any_cons, List.any_cons, ih, h.1]
theorem KV.repl {kvs : List (κ × V)} {vs : List (κ × Value)} (r : KV kvs vs) (k : κ) {y : V} {u : Value} (ry : RelV y u) :
    KV (kvs.map fun kv => if kv.1 = k then (kv.1, y) else kv) (vs.map fun kv => if kv.1 = k then (kv.1, u) else kv) := by
  unfold KV at r ⊢
  induction r with
  | nil => exact .nil
  | @cons p q ps qs h t ih =>
    rw [List.map_cons, List.map_cons]
    refine .cons ?_ ih
    obtain ⟨h1, h2⟩ := h
    by_cases e : p.1 = k
    · rw [if_pos e, if_pos (h1.symm.trans e)]; exact ⟨h1, ry⟩
    · rw [if_neg e, if_neg (fun z => e (h1.trans z))]; exact ⟨h1, h2⟩
theorem KV.put {kvs : List (κ × V)} {vs : List (κ × Value)} (r : KV kvs vs) (k : κ) {y : V} {u : Value} (ry : RelV y u) : KV (putK kvs k y) (stored vs k u) := by
  unfold putK stored
  rw [r.any k]
  by_cases e : (vs.any fun kv => decide (kv.1 = k)) = true
  · rw [if_pos e, if_pos e]; exact r.repl k ry
  · rw [if_neg e, if_neg e]; exact Paired.snoc r ⟨rfl, ry⟩
theorem KV.drop {kvs : List (κ × V)} {vs : List (κ × Value)} (r : KV kvs vs) (k : κ) : KV (dropK kvs k) (without vs k) := by
  unfold KV at r ⊢
  unfold dropK without
  induction r with
  | nil => exact .nil
  | @cons p q ps qs h t ih =>
    obtain ⟨h1, h2⟩ := h
    rw [List.filter_cons, List.filter_cons]
    by_cases e : p.1 = k
    · have a : ¬ decide (p.1 ≠ k) = true := by simp [e]
      have b : ¬ decide (q.1 ≠ k) = true := by simp [h1.symm.trans e]
      rw [if_neg a, if_neg b]; exact ih
    · have e' : ¬ q.1 = k := fun z => e (h1.trans z)
      have a : decide (p.1 ≠ k) = true := by simp [e]
      have b : decide (q.1 ≠ k) = true := by simp [e']
      rw [if_pos a, if_pos b]; exact .cons ⟨h1, h2⟩ ih
theorem KV.keys {kvs : List (κ × V)} {vs : List (κ × Value)} (r : KV kvs vs) : kvs.map (·.1) = vs.map (·.1) := by
  unfold KV at r
  induction r with
  | nil => rfl
  | cons h t ih => rw [List.map_cons, List.map_cons, ih, h.1]
theorem KV.length {kvs : List (κ × V)} {vs : List (κ × Value)} (r : KV kvs vs) : kvs.length = vs.length := Paired.length r
end
abbrev KT (H : Hp) : List (List Key × V) → List (List Key × Addr × Value) → Prop := Paired fun p q => p.1 = q.1 ∧ H q.2.1 = some (.tup (p.1.map kV)) ∧ RelV p.2 q.2.2
theorem KT.val {H : Hp} {kvs : List (List Key × V)} {xs : List (List Key × Addr × Value)} (r : KT H kvs xs) (k : List Key) : RelO (valV kvs k) ((atKey xs k).map (·.2)) := by
  induction r with
  | nil => exact True.intro
  | @cons p q ps qs h t ih =>
    obtain ⟨h1, _, h2⟩ := h
    by_cases e : p.1 = k
    · have e' : q.1 = k := h1.symm.trans e
      have b : atKey (q :: qs) k = some q.2 := by simp [atKey, List.find?_cons, e']
      rw [valV_pos e, b]; exact h2
    · have e' : ¬ q.1 = k := fun z => e (h1.trans z)
      have b : atKey (q :: qs) k = atKey qs k := by simp [atKey, List.find?_cons, e']
      rw [valV_neg e, b]; exact ih
theorem KT.repl {H : Hp} {kvs : List (List Key × V)} {xs : List (List Key × Addr × Value)} (r : KT H kvs xs) (k : List Key) {y : V} {u : Value} (ry : RelV y u) :
    KT H (kvs.map fun kv => if kv.1 = k then (kv.1, y) else kv) (xs.map (putAt k u)) := by
  induction r with
  | nil => exact .nil
  | @cons p q ps qs h t ih =>
    rw [List.map_cons, List.map_cons]
    refine .cons ?_ ih
    obtain ⟨h1, h2, h3⟩ := h
    unfold putAt
    by_cases e : p.1 = k
    · rw [if_pos e, if_pos (h1.symm.trans e)]; exact ⟨h1, h2, ry⟩
    · rw [if_neg e, if_neg (fun z => e (h1.trans z))]; exact ⟨h1, h2, h3⟩
theorem KT.put {H : Hp} {kvs : List (List Key × V)} {xs : List (List Key × Addr × Value)} (r : KT H kvs xs) (k : List Key) {b : Addr} {y : V} {u : Value} (hb : H b = some (.tup (k.map kV))) (ry : RelV y u) :
    KT H (putK kvs k y) (storedH xs k b u) := by
  have e : (kvs.any fun kv => decide (kv.1 = k)) = (atKey xs k).isSome := by
    rw [valV_any, (r.val k).isSome_eq, Option.isSome_map]
  unfold putK storedH
  rw [e]
  by_cases q : (atKey xs k).isSome = true
  · rw [if_pos q, if_pos q]; exact r.repl k ry
  · rw [if_neg q, if_neg q]; exact Paired.snoc r ⟨rfl, hb, ry⟩
theorem KT.keeps {H H' : Hp} {kvs : List (List Key × V)} {xs : List (List Key × Addr × Value)} (r : KT H kvs xs) (ht : ∀ b ys, H b = some (.tup ys) → H' b = some (.tup ys)) : KT H' kvs xs :=
  Paired.mapP r fun _ _ z => ⟨z.1, ht _ _ z.2.1, z.2.2⟩
section
variable {P : Program} {w : World} {H : Hp} {h : Heap} {a : Addr}
end
def DGet (H : Hp) (a : Addr) (y : V) (r : Option V) : Prop :=
  (∃ kvs k, Rd H a (.dK kvs) ∧ y = kV k ∧ r = valV kvs k) ∨ ∃ kvs k b, Rd H a (.dT kvs) ∧ y = .ref b ∧ H b = some (.tup (k.map kV)) ∧ r = valV kvs k
def DPut (H : Hp) (a : Addr) (y v : V) (H' : Hp) : Prop :=
  (∃ kvs k, H a = some (.dK kvs) ∧ y = kV k ∧ kvs.length < sizeLine ∧ H' = upd H a (.dK (putK kvs k v))) ∨
  ∃ kvs k b, H a = some (.dT kvs) ∧ y = .ref b ∧ H b = some (.tup (k.map kV)) ∧ kvs.length < sizeLine ∧ H' = upd H a (.dT (putK kvs k v))
theorem DGet.k {H : Hp} {a : Addr} {kvs : List (Key × V)} {k : Key} (e : H a = some (.dK kvs)) : DGet H a (kV k) (valV kvs k) := .inl ⟨kvs, k, .inl e, rfl, rfl⟩
theorem DGet.t {H : Hp} {a b : Addr} {kvs : List (List Key × V)} {k : List Key} (e : H a = some (.dT kvs)) (eb : H b = some (.tup (k.map kV))) : DGet H a (.ref b) (valV kvs k) := .inr ⟨kvs, k, b, .inl e, rfl, eb, rfl⟩
theorem DPut.k {H : Hp} {a : Addr} {kvs : List (Key × V)} {k : Key} {v : V} (e : H a = some (.dK kvs)) (hl : kvs.length < sizeLine) : DPut H a (kV k) v (upd H a (.dK (putK kvs k v))) := .inl ⟨kvs, k, e, rfl, hl, rfl⟩
theorem DPut.t {H : Hp} {a b : Addr} {kvs : List (List Key × V)} {k : List Key} {v : V} (e : H a = some (.dT kvs)) (eb : H b = some (.tup (k.map kV))) (hl : kvs.length < sizeLine) :
    DPut H a (.ref b) v (upd H a (.dT (putK kvs k v))) := .inr ⟨kvs, k, b, e, rfl, eb, hl, rfl⟩
section
variable {X : Cx} {pins : List (Addr × Obj)} {σ : St} {H : Hp} {s : Shared} {a : Addr} {y v : V} {u r : Value} {o : Option V} {A : Around} {E : Value → Shared → Prop}
end
section
variable {X : Cx} {pins : List (Addr × Obj)} {σ : St} {H : Hp} {s : Shared} {a : Addr} {kvs : List (Key × V)} {k : Key} {u : Value} {A : Around} {E : Value → Shared → Prop}
end
def NoSl (i : Expr) : Prop := ∀ ov iv, subscripted i false ov iv = operate [ov, iv] (getItem ov iv)
def tDGet (td ty : TE) : TE := fun σ H Q => td σ H fun x H1 => ty σ H1 fun y H2 => ∃ a v, x = .ref a ∧ DGet H2 a y (some v) ∧ Q v H2
def tDIn (ty td : TE) : TE := fun σ H Q => ty σ H fun y H1 => td σ H1 fun x H2 => ∃ a o, x = .ref a ∧ DGet H2 a y o ∧ Q (.bl o.isSome) H2
def tDNotIn (ty td : TE) : TE := fun σ H Q => ty σ H fun y H1 => td σ H1 fun x H2 => ∃ a o, x = .ref a ∧ DGet H2 a y o ∧ Q (.bl (!o.isSome)) H2
def sDPut (td ty tv : TE) : TS := fun D σ H => tv σ H fun v H1 => td σ H1 fun x H2 => ty σ H2 fun y H3 => ∃ a H4, x = .ref a ∧ DPut H3 a y v H4 ∧ D.nx σ H4
def sDAug (td ty tv : TE) (rd : V → V → Hp → VK → Prop) : TS := fun D σ H => td σ H fun x H1 => ty σ H1 fun y H2 => ∃ a v, x = .ref a ∧ DGet H2 a y (some v) ∧
  tv σ H2 fun y2 H3 => rd v y2 H3 fun z H4 => ∃ H5, DPut H4 a y z H5 ∧ D.nx σ H5
def sDDel (td ty : TE) : TS := fun D σ H => td σ H fun x H1 => ty σ H1 fun y H2 => ∃ a kvs k, x = .ref a ∧ H2 a = some (.dK kvs) ∧ y = kV k ∧ (valV kvs k).isSome = true ∧ D.nx σ (upd H2 a (.dK (dropK kvs k)))
section
variable {X : Cx} {o i e value : Expr} {pos pos' tpos : Pos} {td ty tv : TE}
end
def tDNewK : TE := fun _ H Q => ∀ p, H p = none → Q (.ref p) (upd H p (.dK []))
def tDNewT : TE := fun _ H Q => ∀ p, H p = none → Q (.ref p) (upd H p (.dT []))
section
variable {X : Cx} {pos : Pos}
end
def tPairs : List (TE × TE) → St → Hp → (List (V × V) → Hp → Prop) → Prop
  | [], _, H, Q => Q [] H
  | (tk, tv) :: r, σ, H, Q => tk σ H fun x H1 => tv σ H1 fun y H2 => tPairs r σ H2 fun ps H3 => Q ((x, y) :: ps) H3
abbrev VV : List (V × V) → List (Value × Value) → Prop := Paired fun p q => RelV p.1 q.1 ∧ RelV p.2 q.2
def PPs (X : Cx) (pos : Pos) (keys : List (Option Expr)) (values : List Expr) (trs : List (TE × TE)) : Prop :=
  ∀ (pins : List (Addr × Obj)) (s : Shared) (σ : St) (H : Hp) (Q : List (V × V) → Hp → Prop), Inv X pins σ H s → tPairs trs σ H Q →
    wpAny (model X.prog X.w) X.A (evalPairs (pairTrees keys values X.env pos)) (fun vs s' => ∃ ps H', Inv X pins σ H' s' ∧ VV ps vs ∧ Q ps H') X.xe s
def mergeK (kvs more : List (Key × V)) : List (Key × V) := more.foldl (fun acc kv => putK acc kv.1 kv.2) kvs
def tDisp (trs : List (TE × TE)) : TE := fun σ H Q => ∀ p, H p = none → tPairs trs σ (upd H p (.dK [])) fun ps H2 => H2 p = some (.dK []) ∧ ∃ kvs : List (Key × V), ps = kvs.map (fun kv => (kV kv.1, kv.2)) ∧ kvs.length ≤ 15 ∧ Q (.ref p) (upd H2 p (.dK (mergeK [] kvs)))
structure M1 (X : Cx) (o : Expr) (m : Str) (apos : Pos) (e : Expr) (cpos : Pos) : Prop where
  base : attributeBase o m X.env (eval o X.env) = eval o X.env
  few : ((backTo cpos (starEach [e] X.env)).all (fun x => !x.1) && (backToKw cpos (keywordEach [] X.env)).all (fun x => x.1.isSome)
    && decide (([e] : List Expr).length + ([] : List Keyword).length + (if ([] : List Keyword).isEmpty then 0 else 1) < 30)) = true
  line : (apos.endLine == cpos.line) = true
  trees : backTo cpos (starEach [e] X.env) = [(false, eval e X.env)]
structure M2 (X : Cx) (o : Expr) (m : Str) (apos : Pos) (e f : Expr) (cpos : Pos) : Prop where
  base : attributeBase o m X.env (eval o X.env) = eval o X.env
  few : ((backTo cpos (starEach [e, f] X.env)).all (fun x => !x.1) && (backToKw cpos (keywordEach [] X.env)).all (fun x => x.1.isSome)
    && decide (([e, f] : List Expr).length + ([] : List Keyword).length + (if ([] : List Keyword).isEmpty then 0 else 1) < 30)) = true
  line : (apos.endLine == cpos.line) = true
  trees : backTo cpos (starEach [e, f] X.env) = [(false, eval e X.env), (false, eval f X.env)]
def IsD (H : Hp) (a : Addr) : Prop := (∃ kvs, Rd H a (.dK kvs)) ∨ ∃ kvs, Rd H a (.dT kvs)
section
variable {X : Cx} {pins : List (Addr × Obj)} {σ : St} {H : Hp} {s : Shared} {a : Addr} {y d : V} {u r : Value} {o : Option V} {A : Around} {E : Value → Shared → Prop}
end
def tDGet1 (td ty : TE) : TE := fun σ H Q => td σ H fun x H1 => ∃ a, x = .ref a ∧ IsD H1 a ∧ ty σ H1 fun y H2 => ∃ o, DGet H2 a y o ∧ Q (o.getD .non) H2
def tDGet2 (td ty tx : TE) : TE := fun σ H Q => td σ H fun x H1 => ∃ a, x = .ref a ∧ IsD H1 a ∧ ty σ H1 fun y H2 => tx σ H2 fun z H3 => ∃ o, DGet H3 a y o ∧ Q (o.getD z) H3
def tDPop1 (td ty : TE) : TE := fun σ H Q => td σ H fun x H1 => ∃ a, x = .ref a ∧ IsD H1 a ∧ ty σ H1 fun y H2 => ∃ kvs k v, H2 a = some (.dK kvs) ∧ y = kV k ∧ valV kvs k = some v ∧ Q v (upd H2 a (.dK (dropK kvs k)))
def tDPop2 (td ty tx : TE) : TE := fun σ H Q => td σ H fun x H1 => ∃ a, x = .ref a ∧ IsD H1 a ∧ ty σ H1 fun y H2 => tx σ H2 fun z H3 => ∃ kvs k, H3 a = some (.dK kvs) ∧ y = kV k ∧
  (∀ v, valV kvs k = some v → Q v (upd H3 a (.dK (dropK kvs k)))) ∧ (valV kvs k = none → Q z H3)
section
variable {X : Cx} {o e f : Expr} {apos cpos : Pos} {td ty tx : TE}
end
section
variable {X : Cx} {pins : List (Addr × Obj)} {σ : St} {H : Hp} {s : Shared} {a : Addr} {kvs : List (Key × V)} {A : Around} {E : Value → Shared → Prop}
end
section
variable {X : Cx} {pins : List (Addr × Obj)} {σ : St} {H : Hp} {s : Shared} {a : Addr} {y : V} {u : Value} {A : Around} {E : Value → Shared → Prop}
end
end L2
set_option Elab.async false
set_option linter.all false
set_option maxRecDepth 100000
set_option maxHeartbeats 1000000
namespace L2
open PySem PySem.Spec PyProof.Rows
def stO (l : Int) (b : Bool) : HO := .dK [(Sum.inr "left", .int l), (Sum.inr "free", .bl b)]
def okL (l : Int) (b : Bool) : Prop := b = true ∨ (0 ≤ l ∧ l < 2147483647)
def Up (p : Addr) (b : Bool) (H H' : Hp) : Prop := ∃ l, okL l b ∧ H' = upd H p (stO l b)
theorem updP_updP {H : Hp} {p : Addr} {o o' : HO} : upd (upd H p o) p o' = upd H p o' := by
  funext c
  by_cases e : c = p
  · subst e; rw [upd_same, upd_same]
  · rw [upd_ne e, upd_ne e, upd_ne e]
theorem Up.trans {p : Addr} {b : Bool} {H H1 H2 : Hp} (h : Up p b H H1) (h' : Up p b H1 H2) : Up p b H H2 := by
  obtain ⟨l, _, rfl⟩ := h
  obtain ⟨l', k', rfl⟩ := h'
  exact ⟨l', k', updP_updP⟩
theorem Up.at {p : Addr} {b : Bool} {H H1 : Hp} (h : Up p b H H1) : ∃ l, okL l b ∧ H1 p = some (stO l b) := by
  obtain ⟨l, k, rfl⟩ := h
  exact ⟨l, k, upd_same⟩
theorem Up.ne {p q : Addr} {b : Bool} {H H1 : Hp} (h : Up p b H H1) (n : q ≠ p) : H1 q = H q := by
  obtain ⟨l, k, rfl⟩ := h
  exact upd_ne n
def Us (p : Addr) (b : Bool) (H H' : Hp) : Prop := (∃ l, okL l b ∧ H' p = some (stO l b)) ∧ ∀ q o, q ≠ p → H q = some o → H' q = some o
theorem Up.us {p : Addr} {b : Bool} {H H' : Hp} (h : Up p b H H') : Us p b H H' := ⟨h.at, fun q o n e => by rw [h.ne n]; exact e⟩
theorem Us.trans {p : Addr} {b : Bool} {H H1 H2 : Hp} (h : Us p b H H1) (h' : Us p b H1 H2) : Us p b H H2 := ⟨h'.1, fun q o n e => h'.2 q o n (h.2 q o n e)⟩
theorem Us.lay {p q : Addr} {b : Bool} {H H1 : Hp} {o : HO} (h : Us p b H H1) (f : H1 q = none) : Us p b H (upd H1 q o) := by
  obtain ⟨⟨l, k, e⟩, s⟩ := h
  exact ⟨⟨l, k, by rw [upd_ne (fun z => by rw [← z, e] at f; cases f)]; exact e⟩, fun r u n er => by
    have := s r u n er
    rw [upd_ne (fun z => by rw [z, f] at this; cases this)]; exact this⟩
theorem Us.refl {p : Addr} {b : Bool} {H : Hp} {l : Int} (h : H p = some (stO l b)) (k : okL l b) : Us p b H H := ⟨⟨l, k, h⟩, fun _ _ _ e => e⟩
theorem Us.free {p q : Addr} {b : Bool} {H H1 : Hp} (h : Us p b H H1) (f : H1 q = none) : H q = none := by
  cases e : H q with
  | none => rfl
  | some o =>
    by_cases n : q = p
    · subst n
      obtain ⟨l, _, z⟩ := h.1
      rw [z] at f; cases f
    · rw [h.2 q o n e] at f; cases f
theorem Us.set {p q : Addr} {b : Bool} {H H1 : Hp} {o : HO} (h : Us p b H H1) (f : H q = none) (n : q ≠ p) : Us p b H (upd H1 q o) := by
  obtain ⟨⟨l, k, e⟩, s⟩ := h
  exact ⟨⟨l, k, by rw [upd_ne (Ne.symm n)]; exact e⟩, fun r u n er => by rw [upd_ne (fun z => by rw [z, f] at er; cases er)]; exact s r u n er⟩
theorem Us.same {p : Addr} {b : Bool} {H H0 H1 : Hp} (h : Us p b H H1) (s : Same H0 H) (f : H0 p = none) : Same H0 H1 := fun c o e => h.2 c o (fun z => by rw [z, f] at e; cases e) (s c o e)
section
variable {K : PySem.W.Frag} {H H' : Hp}
theorem SqT.keepT {a : Addr} {xs : List V} (k : ∀ a xs, Rd H a (.tup xs) → Rd H' a (.tup xs)) (h : SqT K H a xs) : SqT K H' a xs := h.imp (fun z => k _ _ z) id
mutual
theorem dv.keepT (k : ∀ a xs, Rd H a (.tup xs) → Rd H' a (.tup xs)) : ∀ (d : PyData) {v : V}, noL d = true → dv K H d v → dv K H' d v
  | .none, _, _, h => h
  | .bool _, _, _, h => h
  | .int _, _, _, h => h
  | .str _, _, _, h => h
  | .list ds, _, z, _ => by cases z
  | .tuple ds, _, z, ⟨q, xs, e, h, t⟩ => ⟨q, xs, e, h.keepT k, dvs.keepT k ds z t⟩
  | .dict _, _, _, h => h.elim
theorem dvs.keepT (k : ∀ a xs, Rd H a (.tup xs) → Rd H' a (.tup xs)) : ∀ (ds : List PyData) {xs : List V}, noLs ds = true → dvs K H ds xs → dvs K H' ds xs
  | [], _, _, h => h
  | d :: ds, _, z, ⟨x, r, e, h, t⟩ => by
    have z' : noL d = true ∧ noLs ds = true := by simpa [noLs] using z
    exact ⟨x, r, e, dv.keepT k d z'.1 h, dvs.keepT k ds z'.2 t⟩
end
theorem dvs.set : ∀ {ds : List PyData} {us : List V} (i : Nat) {d : PyData} {v : V}, dvs K H ds us → dv K H d v → dvs K H (ds.set i d) (us.set i v)
  | [], _, _, _, _, h, _ => by cases h; exact rfl
  | e :: ds, _, 0, _, _, ⟨x, r, ex, h, t⟩, hv => by subst ex; exact ⟨_, _, rfl, hv, t⟩
  | e :: ds, _, i + 1, _, _, ⟨x, r, ex, h, t⟩, hv => by subst ex; exact ⟨_, _, rfl, h, dvs.set i t hv⟩
theorem Us.keepT {p : Addr} {b : Bool} {l : Int} (h : Us p b H H') (hp : H p = some (stO l b)) : ∀ a xs, Rd H a (.tup xs) → Rd H' a (.tup xs) := by
  intro a xs z
  rcases z with z | ⟨o, z⟩
  · exact .inl (h.2 _ _ (fun e => by rw [e, hp] at z; cases z) z)
  · exact .inr ⟨o, h.2 _ _ (fun e => by rw [e, hp] at z; cases z) z⟩
end
theorem Us.ref {p : Addr} {b : Bool} {H H1 : Hp} (h : Us p b H H1) : ∃ l, okL l b ∧ H1 p = some (stO l b) := h.1
end L2
set_option Elab.async false
set_option linter.all false
namespace L2
open PySem PySem.Spec PyProof.Rows
end L2
set_option Elab.async false
set_option linter.all false
set_option maxRecDepth 100000
set_option maxHeartbeats 1000000
namespace L2
open PySem PySem.Spec PyProof.Rows
def litE : Nat → Expr → Option TE
  | 0, _ => none
  | n + 1, e => match e with
    | .Constant (.int i) _ _ => some (tC (.int i))
    | .Tuple es _ _ => (es.foldr (fun e acc => match litE n e, acc with | some a, some b => some (tCons a b) | _, _ => none) (some tNil)).map tTup
    | _ => none
section
variable {X : Cx}
theorem lit_star : ∀ {n : Nat} {e : Expr} {t : TE} {es : List Expr}, litE n e = some t → starEach (e :: es) X.env = (false, eval e X.env) :: starEach es X.env
  | 0, e, t, es, h => by cases h
  | n + 1, e, t, es, h => by
    cases e <;> first | rfl | (simp only [litE] at h; cases h)
theorem pe_lit : ∀ (n : Nat) {e : Expr} {t : TE}, litE n e = some t → PE X e t
  | 0, e, t, h => by cases h
  | n + 1, e, t, h => by
    unfold litE at h
    split at h
    · injection h with h
      subst h
      exact pe_int
    · rename_i es x1 pos
      have key : ∀ (es : List Expr) (ta : TA), es.foldr (fun e acc => match litE n e, acc with | some a, some b => some (tCons a b) | _, _ => none) (some tNil) = some ta → PA X es ta := by
        intro es
        induction es with
        | nil =>
          intro ta h
          injection h with h
          subst h
          exact pa_nil
        | cons e es ih =>
          intro ta h
          rw [List.foldr_cons] at h
          split at h
          · rename_i a b h1 h2
            injection h with h
            subst h
            exact pa_cons (pe_lit n h1) (ih b h2) (lit_star h1)
          · cases h
      obtain ⟨ta, h1, h2⟩ := Option.map_eq_some_iff.mp h
      subst h2
      exact pe_tup (key es ta h1)
    · cases h
end
end L2
set_option Elab.async false
set_option linter.all false
set_option maxRecDepth 100000
set_option maxHeartbeats 1000000
namespace L2
open PySem PySem.Spec PyProof.Rows
end L2
set_option Elab.async false
set_option linter.all false
set_option maxRecDepth 100000
set_option maxHeartbeats 1000000
namespace L2
open PySem PySem.Spec PyProof.Rows
theorem tupiter_item (it t : Addr) (i : Nat) (items : Array Value) (x : Value) (hx : items[i]? = some x) : Meets (Builtin.«tuple_iterator.__next__» ⟨[.ref it], []⟩)
    (fun _ R s => s.heap.IsTupleIter it t i ∧ s.heap.IsTuple t items ∧ ∀ h', h'.IsTupleIter it t (i + 1) → Heap.SameBut it s.heap h' → R (.ok (.ret x)) { s with heap := h' }) :=
  .of_wp fun prog w A R s h => by
    obtain ⟨⟨o, e, c, d⟩, ⟨o2, e2, c2, n2, d2⟩, q⟩ := h
    have hx' : items[(i : Int).toNat]? = some x := by simpa using hx
    wp_walk using wpAny_field (i := 0) (x := Value.ref t) e d rfl, wpAny_field (i := 1) (x := Value.int i 0) e d rfl, wpAny_seqItems e2 d2
    rw [hx']
    refine wpAny_bind (wpAny_setField e d (show 1 < 2 by decide) ?_)
    obtain ⟨oc, od, odt, os⟩ := o
    cases c
    cases d
    wp_walk
    refine ⟨x, rfl, q _ ⟨_, Heap.get?_update_self _ e rfl, rfl, ?_⟩ (Heap.SameBut.update ..)⟩
    show Data.fields _ = _
    simp [rawInt]
theorem tupiter_end (it t : Addr) (i : Nat) (items : Array Value) (hx : items[i]? = none) : Meets (Builtin.«tuple_iterator.__next__» ⟨[.ref it], []⟩)
    (fun A R s => A.handled = none ∧ s.heap.IsTupleIter it t i ∧ s.heap.IsTuple t items ∧ ∀ h' e, Heap.ExtBut it s.heap h' → (∃ o, h'.get? e = some o ∧ o.cls = .type "StopIteration") → R (.error (.ref e)) { s with heap := h' }) :=
  .of_wp fun prog w A R s h => by
    obtain ⟨hn, ⟨o, e, c, d⟩, ⟨o2, e2, c2, n2, d2⟩, q⟩ := h
    have hx' : items[(i : Int).toNat]? = none := by simpa using hx
    wp_walk using wpAny_field (i := 0) (x := Value.ref t) e d rfl, wpAny_field (i := 1) (x := Value.int i 0) e d rfl, wpAny_seqItems e2 d2
    rw [hx']
    wp_walk using wpAny_setField e d (show 0 < 2 by decide)
    refine wpAny_raiseNew_none hn (q _ _ (fun b o hb e => Heap.get?_push_of_some _ (Heap.get?_push_of_some _ ((Heap.get?_update_other _ _ (Ne.symm hb)).trans e))) ⟨_, Heap.get?_push_size _ rfl, rfl⟩)
section
variable {prog : Program} {w : World} {A : Around} {E : Value → Shared → Prop} {s : Shared} {it t : Addr} {i : Nat} {items : Array Value} {Q : Value → Shared → Prop}
theorem nextOf_tup_item {x : Value} (h1 : s.heap.IsTupleIter it t i) (h2 : s.heap.IsTuple t items) (hx : items[i]? = some x) (q : ∀ h', h'.IsTupleIter it t (i + 1) → Heap.SameBut it s.heap h' → Q x { s with heap := h' }) :
    wpAny (model prog w) A (Builtin.SmallTypes.nextOf (.ref it)) Q E s := by
  have ty : s.TypeIs (.ref it) "tuple_iterator" := by obtain ⟨o, e, c, _⟩ := h1; exact ⟨o, e, c⟩
  unfold Builtin.SmallTypes.nextOf
  refine wpAny_bind (wpAny_callSpecial?_slot ty slot_tupleiter_next (call_meets slot_tupleiter_next ty entry_tupleiter_next (args_tupleiter_next _) (tupiter_item it t i items x hx) ⟨h1, h2, fun h' a b => ?_⟩))
  exact wpAny_pure (q h' a b)
theorem nextOf_tup_end (hn : A.handled = none) (h1 : s.heap.IsTupleIter it t i) (h2 : s.heap.IsTuple t items) (hx : items[i]? = none) (q : ∀ h' e, Heap.ExtBut it s.heap h' → (∃ o, h'.get? e = some o ∧ o.cls = .type "StopIteration") → E (.ref e) { s with heap := h' }) :
    wpAny (model prog w) A (Builtin.SmallTypes.nextOf (.ref it)) Q E s := by
  have ty : s.TypeIs (.ref it) "tuple_iterator" := by obtain ⟨o, e, c, _⟩ := h1; exact ⟨o, e, c⟩
  unfold Builtin.SmallTypes.nextOf
  exact wpAny_bind (wpAny_callSpecial?_slot ty slot_tupleiter_next (call_meets slot_tupleiter_next ty entry_tupleiter_next (args_tupleiter_next _) (tupiter_end it t i items hx) ⟨hn, h1, h2, fun h' e a b => q h' e a b⟩))
end
inductive Sd
  | l
  | t
def Sd.It : Sd → Heap → Addr → Addr → Nat → Prop
  | .l => Heap.IsListIter
  | .t => Heap.IsTupleIter
def Sd.Sq : Sd → Heap → Addr → Array Value → Prop
  | .l => Heap.IsList
  | .t => Heap.IsTuple
def Sd.io (k : Sd) (a : Addr) : Obj := match k with
  | .l => { cls := .type "list_iterator", data := .fields #[.ref a, .int 0 0] }
  | .t => { cls := .type "tuple_iterator", data := .fields #[.ref a, .int 0 0] }
theorem Sd.It.at {k : Sd} {h h' : Heap} {it a : Addr} {i : Nat} (x : k.It h it a i) (e : ∀ o, h.get? it = some o → h'.get? it = some o) : k.It h' it a i := by
  cases k <;> (obtain ⟨o, e1, r⟩ := x; exact ⟨o, e o e1, r⟩)
theorem Sd.It.there {k : Sd} {h : Heap} {it a : Addr} {i : Nat} (x : k.It h it a i) : ∃ o, h.get? it = some o ∧ ∀ v, o.data ≠ .cell v := by
  cases k <;> (obtain ⟨o, e1, _, d⟩ := x; exact ⟨o, e1, fun v z => by rw [d] at z; cases z⟩)
theorem Sd.Sq.at {k : Sd} {h h' : Heap} {a : Addr} {xs : Array Value} (x : k.Sq h a xs) (e : ∀ o, h.get? a = some o → h'.get? a = some o) : k.Sq h' a xs := by
  cases k <;> (obtain ⟨o, e1, r⟩ := x; exact ⟨o, e o e1, r⟩)
theorem Sd.Sq.lt {k : Sd} {h : Heap} {a : Addr} {xs : Array Value} (x : k.Sq h a xs) : a < h.objs.size := by
  cases k <;> (obtain ⟨o, e1, r⟩ := x; exact Heap.lt_size e1)
theorem Sd.start (k : Sd) {h : Heap} {it a : Addr} (e : h.get? it = some (k.io a)) : k.It h it a 0 := by
  cases k <;> exact ⟨_, e, rfl, rfl⟩
section
variable {prog : Program} {w : World} {A : Around} {E : Value → Shared → Prop} {s : Shared} {it a : Addr} {i : Nat} {xs : Array Value} {Q : Value → Shared → Prop} {k : Sd}
theorem Sd.item {x : Value} (h1 : k.It s.heap it a i) (h2 : k.Sq s.heap a xs) (hx : xs[i]? = some x) (q : ∀ h', k.It h' it a (i + 1) → Heap.SameBut it s.heap h' → Q x { s with heap := h' }) :
    wpAny (model prog w) A (Builtin.SmallTypes.nextOf (.ref it)) Q E s := by
  cases k
  · exact wpAny_nextOf_list_item h1 h2 hx q
  · exact nextOf_tup_item h1 h2 hx q
theorem Sd.fin (hn : A.handled = none) (h1 : k.It s.heap it a i) (h2 : k.Sq s.heap a xs) (hx : xs[i]? = none) (q : ∀ h' e, Heap.ExtBut it s.heap h' → (∃ o, h'.get? e = some o ∧ o.cls = .type "StopIteration") → E (.ref e) { s with heap := h' }) :
    wpAny (model prog w) A (Builtin.SmallTypes.nextOf (.ref it)) Q E s := by
  cases k
  · exact wpAny_nextOf_list_end hn h1 h2 hx q
  · exact nextOf_tup_end hn h1 h2 hx q
theorem Sd.iter (h2 : k.Sq s.heap a xs) (q : Q (.ref s.heap.objs.size) { s with heap := s.heap.push (k.io a) }) : wpAny (model prog w) A (pyIter (.ref a)) Q E s := by
  cases k
  · exact wpAny_pyIter_list h2 q
  · exact wpAny_pyIter_tuple h2 q
end
end L2
set_option Elab.async false
set_option linter.all false
set_option maxRecDepth 100000
set_option maxHeartbeats 1000000
namespace L2
open PySem PySem.Spec PyProof.Rows
end L2
set_option Elab.async false
set_option linter.all false
set_option maxRecDepth 100000
set_option maxHeartbeats 1000000
namespace L2
open PySem PySem.Spec PyProof.Rows
end L2
set_option Elab.async false
set_option linter.all false
set_option maxRecDepth 100000
set_option maxHeartbeats 1000000
namespace L2
open PySem PySem.Spec PyProof.Rows
end L2
set_option Elab.async false
set_option linter.all false
set_option maxRecDepth 100000
set_option maxHeartbeats 1000000
namespace L2
open PySem PySem.Spec PyProof.Rows
section
variable {prog : Program} {w : World} {A : Around} {E : Value → Shared → Prop} {s : Shared}
end
def SqS (k : Sd) (K : PySem.W.Frag) (H : Hp) (a : Addr) (xs : List V) : Prop := match k with
  | .l => SqL K H a xs
  | .t => SqT K H a xs
def Itz (k1 k2 : Sd) (K : PySem.W.Frag) (a b : Addr) : It :=
  ⟨fun i H => ∃ xs ys x y, SqS k1 K H a xs ∧ SqS k2 K H b ys ∧ xs[i]? = some x ∧ ys[i]? = some y, fun i H x H' => ∃ p u v, H p = none ∧ x = .ref p ∧ (∀ xs, SqS k1 K H a xs → xs[i]? = some u) ∧ (∀ ys, SqS k2 K H b ys → ys[i]? = some v) ∧ H' = upd H p (.tup [u, v]),
    fun i H => ∃ xs, SqS k1 K H a xs ∧ xs.length ≤ i⟩
def iZip (k1 k2 : Sd) (K : PySem.W.Frag) (ta : TA) : TI := fun σ H R => ta σ H fun vs H1 => ∃ a b, vs = [.ref a, .ref b] ∧ (∃ xs, SqS k1 K H1 a xs) ∧ (∃ ys, SqS k2 K H1 b ys) ∧ R (Itz k1 k2 K a b) H1
end L2
set_option Elab.async false
set_option linter.all false
set_option maxRecDepth 100000
set_option maxHeartbeats 1000000
namespace Num
theorem ord_al {p x y : Int} {m : Nat} (h : Al p x y) (o : Ord p x m) : Ord p y m := ⟨o.pos, (h.pow m).symm.trans o.one, fun j z => o.dv j ((h.pow j).trans z)⟩
def eN : List (Int × Int) → Nat
  | [] => 1
  | p :: r => p.1.toNat ^ p.2.toNat * eN r
theorem eN_append : ∀ a b : List (Int × Int), eN (a ++ b) = eN a * eN b
  | [], b => by simp [eN]
  | p :: r, b => by
    show p.1.toNat ^ p.2.toNat * eN (r ++ b) = p.1.toNat ^ p.2.toNat * eN r * eN b
    rw [eN_append r b, Nat.mul_assoc]
theorem eN_prod : ∀ a : List (Int × Int), (∀ p ∈ a, Pm p.1) → (eN a : Int) = prodP a
  | [], _ => rfl
  | p :: r, h => by
    have t := (h p (List.mem_cons_self ..)).two
    show ((p.1.toNat ^ p.2.toNat * eN r : Nat) : Int) = p.1 ^ p.2.toNat * prodP r
    rw [Int.natCast_mul, Int.natCast_pow, eN_prod r fun x z => h x (List.mem_cons_of_mem _ z), show (p.1.toNat : Int) = p.1 by omega]
theorem eN_pos : ∀ a : List (Int × Int), (∀ p ∈ a, Pm p.1) → 0 < eN a
  | [], _ => Nat.one_pos
  | p :: r, h => by
    have t := (h p (List.mem_cons_self ..)).two
    exact Nat.mul_pos (Nat.pow_pos (by omega)) (eN_pos r fun x z => h x (List.mem_cons_of_mem _ z))
theorem co_pow {q m : Nat} (h : Nm q) (hm : ¬ q ∣ m) (k : Nat) : Nat.Coprime (q ^ k) m := Nat.Coprime.pow_left k (h.co hm)
theorem eN_nd {q : Int} (hq : Pm q) {b : List (Int × Int)} (hb : ∀ p ∈ b, Pm p.1) (ne : ∀ p ∈ b, p.1 ≠ q) : ¬ q.toNat ∣ eN b := fun z => by
  have t := hq.two
  have : q ∣ prodP b := by
    rw [← eN_prod b hb]
    have := Int.natCast_dvd_natCast.mpr z
    rwa [show (q.toNat : Int) = q by omega] at this
  obtain ⟨p, hp, e⟩ := part_mem hq hb this
  exact ne p hp e
theorem eN_co {b : List (Int × Int)} (hb : ∀ p ∈ b, Pm p.1) : ∀ a : List (Int × Int), (∀ p ∈ a, Pm p.1) → (∀ x ∈ a, ∀ y ∈ b, y.1 ≠ x.1) → Nat.Coprime (eN a) (eN b)
  | [], _, _ => Nat.coprime_one_left _
  | p :: r, h, ne => by
    have hp := h p (List.mem_cons_self ..)
    exact Nat.Coprime.mul_left (co_pow (nm_pm hp) (eN_nd hp hb (ne p (List.mem_cons_self ..))) _) (eN_co hb r (fun x z => h x (List.mem_cons_of_mem _ z)) fun x z => ne x (List.mem_cons_of_mem _ z))
theorem ord_one {n a : Int} {q t : Nat} (hq : Nm q) (h : Al n (a ^ q ^ t) 1) (no : ∀ j, j < t → ¬ Al n (a ^ q ^ j) 1) : Ord n a (q ^ t) := by
  have q2 := hq.1
  obtain ⟨m, o, _⟩ := ord_ex (N := q ^ t) (Nat.pow_pos (by omega)) h
  have d := o.dv _ h
  cases t with
  | zero =>
    have : m = 1 := Nat.eq_one_of_dvd_one (by simpa using d)
    rw [this] at o
    simpa using o
  | succ k =>
    have : m = q ^ (k + 1) := pow_dvd hq k m d fun z => no k (Nat.lt_succ_self _) (by
      obtain ⟨c, hc⟩ := z
      rw [hc]
      exact pow_one_mul o.one)
    rw [← this]
    exact o
theorem pow_pow {a : Int} {x y : Nat} : (a ^ x) ^ y = a ^ (x * y) := by rw [Int.pow_mul]
theorem ord_halves {n a : Int} {M1 M2 E1 E2 : Nat} (co : Nat.Coprime M1 M2) (p1 : 0 < M1) (p2 : 0 < M2) (h : Al n (a ^ (M1 * M2)) 1) (o1 : Ord n (a ^ M2) E1) (o2 : Ord n (a ^ M1) E2) : Ord n a (E1 * E2) := by
  have d1 : E1 ∣ M1 := o1.dv M1 (by rw [pow_pow, Nat.mul_comm]; exact h)
  have d2 : E2 ∣ M2 := o2.dv M2 (by rw [pow_pow]; exact h)
  obtain ⟨c1, hc1⟩ := d1
  obtain ⟨c2, hc2⟩ := d2
  obtain ⟨e, o, _⟩ := ord_ex (Nat.mul_pos p1 p2) h
  have x1 : e ∣ M2 * E1 := o.dv _ (by rw [← pow_pow]; exact o1.one)
  have x2 : e ∣ M1 * E2 := o.dv _ (by rw [← pow_pow]; exact o2.one)
  have cc : Nat.Coprime c2 c1 := by
    have : Nat.Coprime c1 c2 := Nat.Coprime.coprime_dvd_left ⟨E1, by rw [hc1, Nat.mul_comm]⟩ (Nat.Coprime.coprime_dvd_right ⟨E2, by rw [hc2, Nat.mul_comm]⟩ co)
    exact this.symm
  have x3 : e ∣ E1 * E2 := by
    have := Nat.dvd_gcd x1 x2
    rw [show M2 * E1 = E1 * E2 * c2 by rw [hc2]; rw [Nat.mul_comm (E2 * c2) E1, Nat.mul_assoc], show M1 * E2 = E1 * E2 * c1 by rw [hc1]; rw [Nat.mul_assoc, Nat.mul_comm c1 E2, Nat.mul_assoc], Nat.gcd_mul_left, cc.gcd_eq_one, Nat.mul_one] at this
    exact this
  have ce : Nat.Coprime E1 E2 := Nat.Coprime.coprime_dvd_left ⟨c1, hc1⟩ (Nat.Coprime.coprime_dvd_right ⟨c2, hc2⟩ co)
  refine ⟨Nat.mul_pos o1.pos o2.pos, ?_, fun j hj => ?_⟩
  · obtain ⟨c, hc⟩ := x3
    rw [hc]
    exact pow_one_mul o.one
  · refine ce.mul_dvd_of_dvd_of_dvd (o1.dv j ?_) (o2.dv j ?_)
    · rw [pow_pow, Nat.mul_comm, ← pow_pow]
      have := hj.pow M2
      rwa [Int.one_pow] at this
    · rw [pow_pow, Nat.mul_comm, ← pow_pow]
      have := hj.pow M1
      rwa [Int.one_pow] at this
structure TO (n a : Int) (ps : List (Int × Int)) (ts : List Int) : Prop where
  len : ts.length = ps.length
  nn : ∀ t ∈ ts, 0 ≤ t
  ord : Ord n a (eN ((ps.map (·.1)).zip ts))
theorem TO.al {n a b : Int} {ps : List (Int × Int)} {ts : List Int} (h : TO n a ps ts) (e : Al n a b) : TO n b ps ts := ⟨h.len, h.nn, ord_al e h.ord⟩
theorem TO.none {n a : Int} (h : Al n a 1) : TO n a [] [] := ⟨rfl, fun _ z => by simp at z, ⟨Nat.one_pos, by show Al n (a ^ 1) 1; rw [Int.pow_one]; exact h, fun j _ => Nat.one_dvd j⟩⟩
theorem TO.one {n a q k : Int} {t : Nat} (hq : Pm q) (h : Al n (a ^ q.toNat ^ t) 1) (no : ∀ j, j < t → ¬ Al n (a ^ q.toNat ^ j) 1) : TO n a [(q, k)] [(t : Int)] := by
  refine ⟨rfl, fun x z => ?_, ?_⟩
  · rw [List.mem_singleton.mp z]; omega
  · show Ord n a (q.toNat ^ (t : Int).toNat * 1)
    rw [Nat.mul_one, Int.toNat_natCast]
    exact ord_one (nm_pm hq) h no
theorem TO.two {n a : Int} {as bs : List (Int × Int)} {ts us : List Int} (ha : ∀ p ∈ as, Pm p.1) (hb : ∀ p ∈ bs, Pm p.1) (ne : ∀ x ∈ as, ∀ y ∈ bs, y.1 ≠ x.1) (h : Al n (a ^ eN (as ++ bs)) 1) (h1 : TO n (a ^ eN bs) as ts) (h2 : TO n (a ^ eN as) bs us) : TO n a (as ++ bs) (ts ++ us) := by
  refine ⟨by rw [List.length_append, List.length_append, h1.len, h2.len], fun t z => (List.mem_append.mp z).elim (h1.nn t) (h2.nn t), ?_⟩
  rw [List.map_append, List.zip_append (by rw [List.length_map, h1.len]), eN_append]
  rw [eN_append] at h
  exact ord_halves (eN_co hb as ha ne) (eN_pos as ha) (eN_pos bs hb) h h1.ord h2.ord
end Num
set_option Elab.async false
set_option linter.all false
set_option maxRecDepth 100000
set_option maxHeartbeats 1000000
namespace L2
open PySem PySem.Spec PyProof.Rows
def gLst (K : PySem.W.Frag) (t : TGs) : TG := fun v σ H Q => ∃ a x y, v = .ref a ∧ SqL K H a [x, y] ∧ t [x, y] σ H Q
end L2
set_option Elab.async false
set_option linter.all false
set_option maxRecDepth 100000
set_option maxHeartbeats 1000000
namespace L2
open PySem PySem.Spec PyProof.Rows
def iZipA (K : PySem.W.Frag) (ta : TA) : TI := fun σ H R => ta σ H fun vs H1 => ∃ a b k1 k2, vs = [.ref a, .ref b] ∧ (∃ xs, SqS k1 K H1 a xs) ∧ (∃ ys, SqS k2 K H1 b ys) ∧ R (Itz k1 k2 K a b) H1
end L2
set_option Elab.async false
set_option linter.all false
set_option maxRecDepth 100000
set_option maxHeartbeats 1000000
namespace L2
open PySem PySem.Spec PyProof.Rows PySem.W
def rIsiXT (K : Frag) : List V → Hp → VK → Prop := fun xs H Q => ∃ x C dd tp c1 c2 v1 v2 b1 b2, xs = [.ref x, .ref tp] ∧ H tp = some (.tup [c1, c2]) ∧ clsV c1 = some v1 ∧ clsV c2 = some v2 ∧ XAt H x C dd ∧ (∀ dx, dd = some dx → ∃ fs, H dx = some (.xd fs)) ∧ XCls K C ∧ kitOne K (.ref C) v1 = some b1 ∧ kitOne K (.ref C) v2 = some b2 ∧ Q (.bl (b1 || b2)) H
end L2
set_option Elab.async false
set_option linter.all false
set_option maxRecDepth 100000
set_option maxHeartbeats 1000000
namespace L2
open PySem PySem.Spec PyProof.Rows
def rSorted (K : PySem.W.Frag) : List V → Hp → VK → Prop := fun xs H Q => ∃ (a : Addr) (ns : List Int), xs = [.ref a] ∧ SqL K H a (ns.map V.int) ∧ ns.length < 64 ∧ ∀ (p : Addr) (ns' : List Int), ns'.Perm ns → ns'.Pairwise (· ≤ ·) → H p = none → Q (.ref p) (upd H p (.lst (ns'.map V.int)))
end L2
set_option Elab.async false
set_option linter.all false
set_option maxRecDepth 100000
set_option maxHeartbeats 1000000
namespace Stp
open PySem PyProof.Rows
structure SB (κ : SortKind) (a₀ : Array Keyed) (st : SortSt) : Prop where
  perm : (arrOf st).Perm a₀
  kind : kindOf st = κ
  failed : failedOf st = none
  pend : pendingOf st = #[]
theorem SB.size {κ : SortKind} {a₀ : Array Keyed} {st : SortSt} (h : SB κ a₀ st) : (arrOf st).size = a₀.size := h.perm.size_eq
theorem SB.set {κ : SortKind} {a₀ : Array Keyed} {st : SortSt} (h : SB κ a₀ st) {xs : Array Keyed} (hp : xs.Perm (arrOf st)) : SB κ a₀ (setArr st xs) :=
  ⟨hp.trans h.perm, h.kind, h.failed, h.pend⟩
section
variable {prog : Program} {w : World} {A : Around} {E : Value → Shared → Prop} {s : Shared} {a₀ : Array Keyed} {κ : SortKind}
def Cmp (prog : Program) (w : World) (A : Around) (s : Shared) (κ : SortKind) (a₀ : Array Keyed) : Prop := ∀ x ∈ a₀.toList, ∀ y ∈ a₀.toList, ∀ (Q : Bool → Shared → Prop) (E : Value → Shared → Prop), (∀ b, Q b s) → wpAny (model prog w) A (keyLt' κ x.1 y.1) Q E s
theorem at_ {st : SortSt} (h : SB κ a₀ st) {i : Nat} (hi : i < a₀.size) : ∃ x ∈ a₀.toList, (arrOf st)[i]? = some x := by
  have hi' : i < (arrOf st).size := by rw [h.size]; exact hi
  have hm : (arrOf st)[i] ∈ a₀.toList := (Array.perm_iff_toList_perm.mp h.perm).mem_iff.mp (by simp)
  exact ⟨_, hm, getElem?_pos (arrOf st) i hi'⟩
theorem ltAny {st : SortSt} {i j : Nat} {Q : Option Bool → SortSt → Prop} (hC : Cmp prog w A s κ a₀) (hB : SB κ a₀ st) (hi : i < a₀.size) (hj : j < a₀.size)
    (h : ∀ b, Q (some b) st) : wpS (model prog w) A E s (ltAt' i j) Q st := by
  obtain ⟨x, hx, ex⟩ := at_ hB hi
  obtain ⟨y, hy, ey⟩ := at_ hB hj
  rw [ltAt'_eq]
  refine wpS_bind (wpS_get ?_)
  show wpS _ _ _ _ (do let x ← elem' (arrOf st) i; let y ← elem' (arrOf st) j; lt' x y) Q st
  rw [elem'_eq, elem'_eq, ex, ey]
  refine wpS_bind (wpS_pure (wpS_bind (wpS_pure ?_)))
  rw [lt'_eq]
  refine wpS_bind (wpS_get ?_)
  rw [hB.kind]
  exact wpS_bind (wpS_lift (wpAny_attempt (hC x hx y hy _ _ fun b => ⟨rfl, wpS_pure (h b)⟩)))
theorem binS {st : SortSt} {n ok : Nat} {Q : Bool → SortSt → Prop} (hC : Cmp prog w A s κ a₀) (hn : n ≤ a₀.size) (hB : SB κ a₀ st)
    (h : ∀ st', SB κ a₀ st' → Q true st') : wpS (model prog w) A E s (binarySort' 0 n ok) Q st := by
  rw [binarySort'_eq]
  simp only [Nat.zero_add]
  refine wpS_bind (wpS_mono (wpS_forRange (I := fun k c st' => c = (none, ()) ∧ SB κ a₀ st') (Q := fun c st' => c = (none, ()) ∧ SB κ a₀ st') ?step (fun _ _ h => h) ⟨rfl, hB⟩) ?post)
  case post =>
    rintro c st' ⟨rfl, hB'⟩
    exact wpS_pure (h st' hB')
  case step =>
    rintro k c st' hak hkn ⟨rfl, hB'⟩
    have hk : k < a₀.size := by omega
    refine wpS_bind (wpS_mono (wpS_forRange (I := fun x c st'' => st'' = st' ∧ ∃ l r, c = (none, l, r) ∧ r ≤ k) (Q := fun c st'' => st'' = st' ∧ ∃ l r, c = (none, l, r)) ?istep ?ifin ⟨rfl, 0, k, rfl, Nat.le_refl _⟩) ?ipost)
    case ifin =>
      rintro c st'' ⟨rfl, l, r, rfl, _⟩
      exact ⟨rfl, l, r, rfl⟩
    case istep =>
      rintro x c st'' _ hxk ⟨rfl, l, r, rfl, hrk⟩
      dsimp only
      by_cases hge : l ≥ r
      · rw [if_pos hge]
        exact wpS_pure ⟨rfl, l, r, rfl⟩
      · rw [if_neg hge]
        refine wpS_bind (ltAny hC hB' hk (by omega) fun b => ?_)
        cases b with
        | true => exact wpS_pure ⟨rfl, l, (l + r) / 2, rfl, by omega⟩
        | false => exact wpS_pure ⟨rfl, (l + r) / 2 + 1, r, rfl, hrk⟩
    case ipost =>
      rintro c st'' ⟨rfl, l, r, rfl⟩
      show wpS _ _ _ _ (do moveDown' k l; pure (ForInStep.yield (none, ()))) _ _
      rw [moveDown'_eq]
      exact wpS_bind (wpS_modify (wpS_pure ⟨rfl, hB'.set (bubble_perm _ _ _)⟩))
theorem asc {st : SortSt} {a nrem : Nat} {Q : AscSt → SortSt → Prop} (hC : Cmp prog w A s κ a₀) (hn : nrem ≤ a₀.size) (ha : 1 ≤ a) (han : a ≤ nrem) (hB : SB κ a₀ st)
    (h : ∀ n, a ≤ n → n ≤ nrem → Q (none, n) st) : wpS (model prog w) A E s (ascLoop a nrem) Q st := by
  unfold ascLoop
  refine wpS_forRange (I := fun x c st' => st' = st ∧ c = (none, x)) ?step ?fin ⟨rfl, rfl⟩
  case fin =>
    rintro c st' ⟨rfl, rfl⟩
    exact h _ (by omega) (by omega)
  case step =>
    rintro x c st' hax hxn ⟨rfl, rfl⟩
    dsimp only
    refine wpS_bind (ltAny hC hB (by omega) (by omega) fun b => ?_)
    cases b with
    | true => exact wpS_pure (h x hax (by omega))
    | false => exact wpS_pure ⟨rfl, rfl⟩
theorem tl3 {st : SortSt} {n nrem : Nat} {Q : Option Nat → SortSt → Prop} (hC : Cmp prog w A s κ a₀) (hn : nrem ≤ a₀.size) (h1 : 1 ≤ n) (hnn : n ≤ nrem) (hB : SB κ a₀ st)
    (h : ∀ m st', SB κ a₀ st' → m ≤ nrem → Q (some m) st') : wpS (model prog w) A E s (tail3 n nrem) Q st := by
  unfold tail3
  have hB' : SB κ a₀ (setArr st (mirror (arrOf st) 0 n ((n - 0) / 2))) := hB.set (mirror_perm _ _ _ _)
  exact wpS_bind (wpS_reverse (wpS_bind (asc hC hn h1 hnn hB' fun m _ hm => wpS_pure (h m _ hB' hm))))
theorem desc {st : SortSt} {n nrem : Nat} {Q : DescSt → SortSt → Prop} (hC : Cmp prog w A s κ a₀) (hn : nrem ≤ a₀.size) (h1 : 1 ≤ n) (hnn : n ≤ nrem) (hB : SB κ a₀ st)
    (h : ∀ m neq st', SB κ a₀ st' → n ≤ m → m ≤ nrem → Q (none, m, neq) st') : wpS (model prog w) A E s (descLoop n nrem) Q st := by
  unfold descLoop
  refine wpS_forRange (I := fun x c st' => ∃ neq, c = (none, x, neq) ∧ SB κ a₀ st') ?step ?fin ⟨0, rfl, hB⟩
  case fin =>
    rintro c st' ⟨neq, rfl, hB'⟩
    exact h _ neq st' hB' (by omega) (by omega)
  case step =>
    rintro x c st' hax hxn ⟨neq, rfl, hB'⟩
    dsimp only
    refine wpS_bind (ltAny hC hB' (by omega) (by omega) fun b => ?_)
    cases b with
    | true =>
      simp only [if_true]
      by_cases hq : neq > 0
      · rw [if_pos hq]
        exact wpS_bind (wpS_reverse (wpS_pure ⟨0, rfl, hB'.set (mirror_perm _ _ _ _)⟩))
      · rw [if_neg hq]
        exact wpS_pure ⟨0, rfl, hB'⟩
    | false =>
      simp only [Bool.false_eq_true, if_false]
      refine wpS_bind (ltAny hC hB' (by omega) (by omega) fun b => ?_)
      cases b with
      | true => exact wpS_pure (h x neq st' hB' hax (by omega))
      | false => exact wpS_pure ⟨neq + 1, rfl, hB'⟩
theorem dpart {st : SortSt} {n nrem : Nat} {Q : Option Nat → SortSt → Prop} (hC : Cmp prog w A s κ a₀) (hn : nrem ≤ a₀.size) (hnn : n + 1 ≤ nrem) (hB : SB κ a₀ st)
    (h : ∀ m st', SB κ a₀ st' → m ≤ nrem → Q (some m) st') : wpS (model prog w) A E s (descPart n nrem) Q st := by
  unfold descPart
  refine wpS_bind (wpS_lift (wpAny_rule ⟨rfl, ?_⟩))
  refine wpS_bind (desc hC hn (by omega) hnn hB fun m neq st' hB' hm1 hm2 => ?_)
  dsimp only
  by_cases hq : neq > 0
  · rw [if_pos hq]
    exact wpS_bind (wpS_reverse (tl3 hC hn (by omega) hm2 (hB'.set (mirror_perm _ _ _ _)) h))
  · rw [if_neg hq]
    exact tl3 hC hn (by omega) hm2 hB' h
theorem cnt {st : SortSt} {nrem : Nat} {Q : Option Nat → SortSt → Prop} (hC : Cmp prog w A s κ a₀) (hn : nrem ≤ a₀.size) (h1 : 1 ≤ nrem) (hB : SB κ a₀ st)
    (h : ∀ m st', SB κ a₀ st' → m ≤ nrem → Q (some m) st') : wpS (model prog w) A E s (countRun' 0 nrem) Q st := by
  rw [countRun0_eq]
  refine wpS_bind (asc hC hn (Nat.le_refl 1) h1 hB fun n hn1 hn2 => ?_)
  dsimp only
  by_cases hnn : n = nrem
  · rw [if_pos (by simpa using hnn)]
    exact wpS_pure (h n st hB hn2)
  · rw [if_neg (by simpa using hnn)]
    by_cases hgt : n > 1
    · rw [if_pos hgt]
      refine wpS_bind (ltAny hC hB (by omega) (by omega) fun b => ?_)
      cases b with
      | true => exact wpS_pure (h n st hB hn2)
      | false => exact wpS_bind (wpS_reverse (dpart hC hn (by omega) (hB.set (mirror_perm _ _ _ _)) h))
    · rw [if_neg hgt]
      exact dpart hC hn (by omega) hB h
def Dn (a₀ : Array Keyed) (st : SortSt) : Prop := (arrOf st).Perm a₀ ∧ failedOf st = none ∧ pendingOf st = #[(0, a₀.size, 0)]
theorem SB.done {st : SortSt} (hB : SB κ a₀ st) : Dn a₀ (setPending st ((pendingOf st).push (0, a₀.size, 0))) :=
  ⟨hB.perm, hB.failed, by show (pendingOf st).push _ = _; rw [hB.pend]; rfl⟩
theorem runs {st : SortSt} {Q : Unit → SortSt → Prop} (hC : Cmp prog w A s κ a₀) (hB : SB κ a₀ st) (h2 : 2 ≤ a₀.size) (h64 : a₀.size < 64)
    (h : ∀ st', (arrOf st').Perm a₀ → failedOf st' = none → Q () st') : wpS (model prog w) A E s sortRuns' Q st := by
  rw [sortRuns'_eq]
  refine wpS_bind (wpS_get ?_)
  dsimp only
  have hmr : minRun' a₀.size a₀.size 0 = a₀.size := by
    obtain ⟨f, hf⟩ : ∃ f, a₀.size = f + 1 := ⟨a₀.size - 1, by omega⟩
    have : minRun' (f + 1) a₀.size 0 = a₀.size := by rw [minRun'_succ, if_pos h64]; rfl
    rwa [← hf] at this
  simp only [hB.size, hmr]
  refine wpS_bind (wpS_mono (wpS_forRange
    (I := fun x c st' => (x = 0 ∧ c = (none, 0) ∧ SB κ a₀ st') ∨ (1 ≤ x ∧ c = (none, a₀.size) ∧ Dn a₀ st'))
    (Q := fun c st' => c = (none, a₀.size) ∧ Dn a₀ st') ?step ?fin (.inl ⟨rfl, rfl, hB⟩)) ?post)
  case fin =>
    rintro c st' (⟨hx, _, _⟩ | ⟨_, hc, hD⟩)
    · omega
    · exact ⟨hc, hD⟩
  case step =>
    rintro x c st' _ hx (⟨rfl, rfl, hB'⟩ | ⟨hx1, rfl, hD⟩)
    · dsimp only
      rw [if_neg (by omega)]
      simp only [Nat.sub_zero, Nat.min_self, Nat.zero_add]
      refine wpS_bind (cnt hC (Nat.le_refl _) (by omega) hB' fun m st2 hB2 hm2 => ?_)
      dsimp only
      by_cases hlt : m < a₀.size
      · rw [if_pos hlt]
        refine wpS_bind (wpS_lift (wpAny_rule ⟨rfl, ?_⟩))
        refine wpS_bind (binS hC (Nat.le_refl _) hB2 fun st3 hB3 => ?_)
        simp only [Bool.not_true, Bool.false_eq_true, if_false]
        refine wpS_bind (wpS_get ?_)
        have hb : (pendingOf st3).back? = none := by rw [hB3.pend]; rfl
        rw [hb]
        dsimp only
        exact wpS_bind (wpS_modify (wpS_pure (.inr ⟨by omega, rfl, hB3.done⟩)))
      · rw [if_neg hlt]
        have hm : m = a₀.size := by omega
        subst hm
        refine wpS_bind (wpS_get ?_)
        have hb : (pendingOf st2).back? = none := by rw [hB2.pend]; rfl
        rw [hb]
        dsimp only
        exact wpS_bind (wpS_modify (wpS_pure (.inr ⟨by omega, rfl, hB2.done⟩)))
    · dsimp only
      rw [if_pos (Nat.le_refl _)]
      exact wpS_pure ⟨rfl, hD⟩
  case post =>
    rintro c st' ⟨rfl, hD⟩
    dsimp only
    refine wpS_bind (wpS_mono (wpS_forRange (I := fun _ c st'' => st'' = st' ∧ c = (none, ())) (Q := fun c st'' => st'' = st' ∧ c = (none, ())) ?_ (fun _ _ hh => hh) ⟨rfl, rfl⟩) ?_)
    · rintro x c st'' _ _ ⟨rfl, rfl⟩
      refine wpS_bind (wpS_get ?_)
      rw [if_pos (by rw [hD.2.2]; exact Nat.le_refl 1)]
      exact wpS_pure ⟨rfl, rfl⟩
    · rintro c st'' ⟨rfl, rfl⟩
      exact wpS_pure (h _ hD.1 hD.2.1)
theorem one_lt {b : Bool} {x y : Int} {t u : Tok} {Q : Bool → Shared → Prop} (h : ∀ b, Q b s) : wpAny (model prog w) A (oneLt' b (.int x t) (.int y u)) Q E s := by
  cases b with
  | true => exact oneLt_int (h _)
  | false =>
    rw [oneLt'_eq]
    simp only [Bool.false_eq_true, if_false]
    refine wpAny_bind (wpAny_richCompare_same (typeIs_int s x t) (typeIs_int s y u) slot_int_lt (call_int_lt ⟨(fun z => by cases z), ?_⟩))
    exact wpAny_truthy_bool (h _)
def PairAt (h : Heap) (v : Value) : Prop := ∃ a x y t u, v = .ref a ∧ IsTup h a #[.int x t, .int y u]
theorem keyLt'_tuples (b : Bool) (x y : Value) : keyLt' (tuples' b) x y = (do
    let xs ← Builtin.List.listItems x; let ys ← Builtin.List.listItems y
    for ((p, q), i) in (xs.toList.zip ys.toList).zipIdx do
      if !(← eqBool p q) then return ← oneLt' (b && i == 0) p q
    return xs.size < ys.size) := rfl
theorem pair_lt {b : Bool} {x y : Value} {Q : Bool → Shared → Prop} (hx : PairAt s.heap x) (hy : PairAt s.heap y) (h : ∀ b, Q b s) : wpAny (model prog w) A (keyLt' (tuples' b) x y) Q E s := by
  obtain ⟨a, x1, x2, t1, t2, rfl, o, ho, hc, n, hd⟩ := hx
  obtain ⟨a', y1, y2, u1, u2, rfl, o', ho', hc', n', hd'⟩ := hy
  rw [keyLt'_tuples]
  refine wpAny_bind (listItems_at ho hd (wpAny_bind (listItems_at ho' hd' ?_)))
  have e : (#[Value.int x1 t1, Value.int x2 t2].toList.zip #[Value.int y1 u1, Value.int y2 u2].toList).zipIdx = [((Value.int x1 t1, Value.int y1 u1), 0), ((Value.int x2 t2, Value.int y2 u2), 1)] := rfl
  rw [e]
  rw [List.forIn_cons]
  refine wpAny_bind ?_
  refine wpAny_bind ?_
  dsimp only
  refine wpAny_bind (wpAny_eqBool_int ?_)
  cases (x1 == y1) with
  | false =>
    rw [if_pos (by rfl)]
    exact wpAny_bind (one_lt fun r => wpAny_pure (wpAny_pure (wpAny_pure (h r))))
  | true =>
    rw [if_neg (by decide)]
    refine wpAny_pure ?_
    dsimp only
    rw [List.forIn_cons]
    refine wpAny_bind ?_
    dsimp only
    refine wpAny_bind (wpAny_eqBool_int ?_)
    cases (x2 == y2) with
    | false =>
      rw [if_pos (by rfl)]
      exact wpAny_bind (one_lt fun r => wpAny_pure (wpAny_pure (wpAny_pure (h r))))
    | true =>
      rw [if_neg (by decide)]
      refine wpAny_pure ?_
      dsimp only
      rw [List.forIn_nil]
      exact wpAny_pure (wpAny_pure (h _))
theorem firstOfTuple'_eq (v : Value) : firstOfTuple' v = (do
  if (← typeOf v) != .type "tuple" then return none
  return (← Builtin.List.listItems v)[0]?) := rfl
theorem first_ {v : Value} {Q : Option Value → Shared → Prop} (hv : PairAt s.heap v) (h : ∀ n t, Q (some (.int n t)) s) : wpAny (model prog w) A (firstOfTuple' v) Q E s := by
  obtain ⟨a, x1, x2, t1, t2, rfl, o, ho, hc, n, hd⟩ := hv
  rw [firstOfTuple'_eq]
  refine wpAny_bind (wpAny_typeOf (T := "tuple") ⟨o, ho, hc⟩ ?_)
  rw [if_neg (by simp)]
  refine wpAny_bind (listItems_at ho hd (wpAny_pure (h _ _)))
theorem firsts_ : ∀ {vs : List Value} {Q : List (Option Value) → Shared → Prop}, (∀ v ∈ vs, PairAt s.heap v) → (∀ us ns, IntsAre us ns → us.length = vs.length → Q (us.map some) s) → wpAny (model prog w) A (vs.mapM firstOfTuple') Q E s
  | [], Q, _, h => by
    rw [List.mapM_nil]
    exact wpAny_pure (h [] [] .nil rfl)
  | v :: vs, Q, hv, h => by
    rw [List.mapM_cons]
    refine wpAny_bind (first_ (hv v (List.mem_cons_self ..)) fun n t => ?_)
    refine wpAny_bind (firsts_ (fun v hv' => hv v (List.mem_cons_of_mem _ hv')) fun us ns hu hl => ?_)
    exact wpAny_pure (h (.int n t :: us) (n :: ns) (.cons n t hu) (by rw [List.length_cons, List.length_cons, hl]))
theorem kind_ {vs : List Value} {Q : SortKind → Shared → Prop} (hv : ∀ v ∈ vs, PairAt s.heap v) (h : ∀ b, Q (tuples' b) s) : wpAny (model prog w) A (keyKind' vs.toArray) Q E s := by
  rw [keyKind'_eq, List.mapM_toArray]
  refine wpAny_bind (wpAny_map (firsts_ hv fun us ns hu hl => ?_))
  rw [if_pos (by simp)]
  refine wpAny_bind (wpAny_rule ?_)
  have e : (us.map some).toArray.filterMap id = us.toArray := by simp
  rw [e, oneTypeOnly'_eq, List.mapM_toArray, mapM_typeOf_ints hu]
  simp only [map_pure, pure_bind]
  split <;> simp only [pure_bind] <;> exact wpAny_pure (h _)
theorem sort_at {a : Addr} {vs : List Value} {n : Nat} {P : Fin → Shared → Prop} (ho : s.heap.get? a = some (seqObj "list" vs.toArray n)) (hv : ∀ h', (∀ b o, b ≠ a → s.heap.get? b = some o → Heap.get? h' b = some o) → ∀ v ∈ vs, PairAt h' v) (few : vs.length < 64)
    (h : ∀ (out : Array Value), out.toList.Perm vs → P (.done (.ret .none)) { s with heap := sortedHeap s.heap a vs out }) :
    wpAny (model prog w) A (Builtin.«list.sort» ⟨[.ref a], []⟩) P E s := by
  have hl : vs.length ≤ sizeLine := Nat.le_trans (Nat.le_of_lt few) (by decide)
  have lt := Heap.lt_size ho
  rw [list_sort_plain]
  refine wpAny_bind (listItems_at ho rfl (wpAny_bind (listUpdate_at ho rfl ?_ (by simpa using hl) (by simp))))
  obtain ⟨c, h1⟩ : ∃ c, (s.heap.update a (Obj.mapSeq fun _ => #[])).get? a = some (seqObj "list" #[] c) := ⟨_, get?_update_seq ho _⟩
  refine wpAny_bind (seqEpoch_at h1 rfl ?_)
  refine wpAny_bind (wpAny_newTuple ?_ (by simpa using hl))
  refine wpAny_bind (wpAny_newList ?_ (by simp))
  refine wpAny_holding ?_
  have h2 : (((s.heap.update a (Obj.mapSeq fun _ => #[])).push (seqObj "tuple" vs.toArray 0)).push (seqObj "list" #[] 0)).get? a = some (seqObj "list" #[] c) := by
    refine Eq.trans (Heap.get?_push_ne _ _ _ ?_) (Eq.trans (Heap.get?_push_ne _ _ _ ?_) h1)
    · rw [size_push', Heap.size_update]; exact Nat.ne_of_lt (Nat.lt_succ_of_lt lt)
    · rw [Heap.size_update]; exact Nat.ne_of_lt lt
  have hp := hv (((s.heap.update a (Obj.mapSeq fun _ => #[])).push (seqObj "tuple" vs.toArray 0)).push (seqObj "list" #[] 0)) fun b o ne e => Heap.get?_push_of_some _ (Heap.get?_push_of_some _ (by rw [Heap.get?_update_ne _ _ _ _ ne]; exact e))
  have fin : ∀ xs : Array Keyed, xs.Perm (pairsOf vs) → (xs.map (·.2)).toList.Perm vs := by
    intro xs hx
    have h3 := (Array.perm_iff_toList_perm.mp hx).map (·.2)
    rw [Array.toList_map]
    rw [pairsOf_toList] at h3
    have e : (vs.zip vs).map (·.2) = vs := by rw [List.map_snd_zip (by omega)]
    rw [e] at h3
    exact h3
  dsimp only
  by_cases sz : vs.toArray.size < 2
  · rw [if_pos sz, if_pos sz]
    refine wpAny_bind (wpAny_pure ?_)
    rw [StateT.run_pure]
    refine wpAny_bind (wpAny_pure ?_)
    dsimp only
    refine wpAny_bind (seqEpoch_at h2 rfl ?_)
    refine wpAny_bind (listUpdate_at h2 rfl ?_ (by simp) ?_)
    · simp only [bne_self_eq_false, Bool.false_eq_true, if_false]
      exact wpAny_pure (h _ (fin _ (Array.Perm.refl _)))
    · rw [Array.size_map]
      show (pairsOf vs).size ≤ _
      rw [pairsOf_size]
      omega
  rw [if_neg sz, if_neg sz]
  rw [List.size_toArray] at sz
  refine wpAny_bind (kind_ hp fun b => ?_)
  have run := runs (prog := prog) (w := w) (A := A) (E := E) (κ := tuples' b) (s := { s with heap := ((s.heap.update a (Obj.mapSeq fun _ => #[])).push (seqObj "tuple" vs.toArray 0)).push (seqObj "list" #[] 0) })
    (a₀ := pairsOf vs) (st := SortSt.mk' (tuples' b) (pairsOf vs) #[] 7 none)
    (Q := fun _ t => (arrOf t).Perm (pairsOf vs) ∧ failedOf t = none) (fun x hx y hy Q E q => by
      have m1 := mem_zip_self (by rw [pairsOf_toList] at hx; exact hx)
      have m2 := mem_zip_self (by rw [pairsOf_toList] at hy; exact hy)
      exact pair_lt (hp _ m1.2) (hp _ m2.2) q) ⟨Array.Perm.refl _, rfl, rfl, rfl⟩ (by rw [pairsOf_size]; omega) (by rw [pairsOf_size]; exact few) fun t p f => ⟨p, f⟩
  refine wpAny_bind (wpAny_mono run ?_ fun _ _ e => e)
  rintro ⟨_, t⟩ s' ⟨rfl, p, f⟩
  refine wpAny_bind (seqEpoch_at h2 rfl ?_)
  refine wpAny_bind (listUpdate_at h2 rfl ?_ (by simp) ?_)
  · dsimp only
    rw [f]
    simp only [bne_self_eq_false, Bool.false_eq_true, if_false]
    exact wpAny_pure (h _ (fin _ p))
  · rw [Array.size_map, p.size_eq, pairsOf_size]
    omega
theorem sorted_at {l : Addr} {vs : List Value} {Q : Value → Shared → Prop} (hl : s.heap.IsList l vs.toArray) (hv : ∀ v ∈ vs, PairAt s.heap v) (few : vs.length < 64)
    (h : ∀ (out : Array Value), out.toList.Perm vs → Q (.ref (s.heap.objs.size + 1)) { s with heap := sortedAll s.heap vs out }) :
    wpAny (model prog w) A (call (.builtin "sorted") [.ref l]) Q E s := by
  have hz : vs.length ≤ sizeLine := Nat.le_trans (Nat.le_of_lt few) (by decide)
  have z1 : ((s.heap.push (seqObj "list" #[] 0)).update s.heap.objs.size (Obj.mapSeq (· ++ vs.toArray))).objs.size = s.heap.objs.size + 1 := (Heap.size_update ..).trans (size_push' ..)
  refine Calls.call_function_entry kind_sorted plain_sorted entry_sorted (args_sorted1 _) ?_
  refine wpAny_bind (m := checkCount "sorted" 1 1 _) (wpAny_pure (wpAny_bind (collect_list hl ?_ hz)))
  refine wpAny_bind (wpAny_newList ?_ hz)
  have z2 := Heap.get?_push_size ((s.heap.push (seqObj "list" #[] 0)).update s.heap.objs.size (Obj.mapSeq (· ++ vs.toArray))) (o := seqObj "list" vs.toArray 0) rfl
  rw [z1] at z2
  show wpAny _ _ _ _ _ { s with heap := ((s.heap.push (seqObj "list" #[] 0)).update _ _).push (seqObj "list" vs.toArray 0) }
  simp only [z1]
  refine wpAny_bind (wpAny_holding (wpAny_call_entry slot_list_sort ⟨_, z2, rfl⟩ entry_list_sort (sort_at z2 (fun h' k v hv' => ?_) few fun out a => ⟨_, rfl, wpAny_pure ⟨_, rfl, h out a⟩⟩) (args_list_sort _)))
  obtain ⟨b, x, y, t, u, rfl, o, ho, hc⟩ := hv v hv'
  have hb := Heap.lt_size ho
  exact ⟨b, x, y, t, u, rfl, o, k b o (Nat.ne_of_lt (Nat.lt_succ_of_lt hb)) (Heap.get?_push_of_some _ (by rw [Heap.get?_update_ne _ _ _ _ (Nat.ne_of_lt hb)]; exact Heap.get?_push_of_some _ ho)), hc⟩
end
end Stp
namespace L2
open PySem PySem.Spec PyProof.Rows
theorem vals_of_perm : ∀ {us vs : List Value} {xs : List V}, us.Perm vs → Vals xs vs → ∃ ys, ys.Perm xs ∧ Vals ys us := by
  intro us vs xs h
  induction h generalizing xs with
  | nil => intro r; exact ⟨xs, .refl _, r⟩
  | cons x h ih =>
    intro r
    cases r with
    | cons a b =>
      obtain ⟨ys, h1, h2⟩ := ih b
      exact ⟨_ :: ys, h1.cons _, .cons a h2⟩
  | swap x y l =>
    intro r
    cases r with
    | cons a b =>
      cases b with
      | cons c d => exact ⟨_, .swap _ _ _, .cons c (.cons a d)⟩
  | trans h1 h2 ih1 ih2 =>
    intro r
    obtain ⟨ys, a, b⟩ := ih2 r
    obtain ⟨zs, c, d⟩ := ih1 b
    exact ⟨zs, c.trans a, d⟩
theorem vals_mem : ∀ {us : List Value} {xs : List V}, Vals xs us → ∀ {v : Value}, v ∈ us → ∃ y ∈ xs, RelV y v
  | _, _, .nil, _, h => (List.not_mem_nil h).elim
  | _, _, .cons a b, v, h => by
    rcases List.mem_cons.mp h with rfl | z
    · exact ⟨_, List.mem_cons_self .., a⟩
    · obtain ⟨y, h1, h2⟩ := vals_mem b z
      exact ⟨y, List.mem_cons_of_mem _ h1, h2⟩
theorem vals_cons {x : V} {xs : List V} {us : List Value} (h : Vals (x :: xs) us) : ∃ u r, us = u :: r ∧ RelV x u ∧ Vals xs r := by
  cases h with
  | cons a b => exact ⟨_, _, rfl, a, b⟩
def rSortedP (K : PySem.W.Frag) : List V → Hp → VK → Prop := fun xs H Q => ∃ (a : Addr) (ys : List V), xs = [.ref a] ∧ SqL K H a ys ∧ ys.length < 64 ∧ (∀ y ∈ ys, ∃ (p : Addr) (m n : Int), y = .ref p ∧ SqT K H p [.int m, .int n]) ∧ ∀ (p : Addr) (zs : List V), zs.Perm ys → H p = none → Q (.ref p) (upd H p (.lst zs))
theorem call_sortedP {X : Cx} : CallR X (.builtin "sorted") (rSortedP X.K) := by
  intro pins s σ H xs us Q I r h
  obtain ⟨a, ys, rfl, hq, hl, hp, q⟩ := h
  obtain ⟨u, rfl, ru⟩ := vals1 r
  cases ru
  obtain ⟨its, rv, p, hz⟩ := I.list hq
  have ln : its.length = ys.length := rv.length.symm
  have pr : ∀ v ∈ its, Stp.PairAt s.heap v := by
    intro v hv
    obtain ⟨y, hy, ry⟩ := vals_mem rv hv
    obtain ⟨b, m, n, rfl, hb⟩ := hp y hy
    cases ry
    obtain ⟨its', rv', ht, _⟩ := I.tuple hb
    obtain ⟨u1, r1, rfl, ⟨t1, rfl⟩, rest⟩ := vals_cons rv'
    obtain ⟨u2, r2, rfl, ⟨t2, rfl⟩, rest2⟩ := vals_cons rest
    have e2 : r2 = [] := by
      cases rest2
      rfl
    subst e2
    exact ⟨b, m, n, t1, t2, rfl, ht⟩
  refine Stp.sorted_at p.isList pr (by omega) fun out ho => ?_
  obtain ⟨zs, hzp, vo⟩ := vals_of_perm ho rv
  obtain ⟨e, he⟩ := sortedAll_at s.heap its out
  have I1 : Inv X pins σ H { s with heap := sortedAll s.heap its out } := I.kept (t' := s.toks) fun b o x => sortedAll_old x
  have fT : H (s.heap.objs.size + 1) = none := I.hok.fresh (Nat.le_succ _)
  refine ⟨.ref (s.heap.objs.size + 1), upd H (s.heap.objs.size + 1) (.lst zs), ?_, rfl, q _ zs hzp fT⟩
  refine I1.adopt (T := s.heap.objs.size + 1) (o := .lst zs) (I.fpOk (Nat.le_succ _) fT) ⟨?_, out.toList, e, vo, ?_⟩
  · rw [hzp.length_eq]
    exact Nat.le_trans (Nat.le_of_lt hl) (by decide)
  · rw [he]
end L2
set_option Elab.async false
set_option linter.all false
set_option maxRecDepth 100000
set_option maxHeartbeats 1000000
namespace L2
open PySem PySem.Spec PyProof.Rows PySem.W
section
variable {prog : Program} {w : World} {A : Around} {E : Value → Shared → Prop} {K : PySem.W.Frag} {h : Heap} {g : Array GenState} {d : Drawn} {t : Nat} {os : OsState} {x C B : Addr}
end
section
variable {X : Cx} {pins : List (Addr × Obj)} {σ : St} {H : Hp} {s : Shared} {x : Addr}
end
def PHr (X : Cx) (n : Option Nat) (B : Addr) (hd : ExceptHandler) (ts : TS) : Prop := (∃ c np nm body hpos, hd = .ExceptHandler (some (.Name c np)) nm body hpos ∧ Gl X c ∧ X.mg c = some (.ref B) ∧ (c == ("__debug__" : Str)) = false ∧ XCls X.K B) ∧
  ∀ (rest : List ExceptHandler) (pins : List (Addr × Obj)) (σ : St) (H : Hp) (s : Shared) (x C T : Addr) (dd : Option Addr) (D : Ends), Inv X pins σ H s → Tr s.heap x (.ref C) dd T .none → H T = none →
  (X.env.locals < T ∧ (∀ y c, X.env.cells.lookup y = some c → c ≠ T) ∧ ∀ p ∈ X.pn ++ pins, p.1 ≠ T) → XCls X.K C → mroIn X.K C (.ref B) = some true → ts (hEnds n D) (hSet n x σ) H → wpAny (model X.prog X.w) X.A (handleBy (.ref x) X.env (hd :: rest)) (SP X pins D) X.xe s
section
variable {X : Cx} {B : Addr} {n : Option Nat} {hd : ExceptHandler} {ts : TS}
variable {B2 : Addr} {n2 : Option Nat} {hd2 : ExceptHandler} {ts2 : TS}
def tTry2 (K : PySem.W.Frag) (B : Addr) (n : Option Nat) (B2 : Addr) (n2 : Option Nat) (sp : Sp) (ta : TA) (put : V → St → St) (ts ts2 : TS) : TS := fun D σ H => ta σ H fun vs H1 => sp vs H1 (fun v H2 => D.nx (put v σ) H2)
  (fun cv xo H2 => ∃ C x dd, cv = .ref C ∧ xo = some x ∧ H2 x = some (XO x C dd) ∧ XCls K C ∧ ((mroIn K C (.ref B) = some true ∧ ts (hEnds n D) (hSet n x σ) H2) ∨ (mroIn K C (.ref B) = some false ∧ mroIn K C (.ref B2) = some true ∧ ts2 (hEnds n2 D) (hSet n2 x σ) H2)))
variable {k : Nat} {f : Str} {ps : List Str} {sp : Sp} {e : Expr} {es : List Expr} {t : TA} {p cpos epos pos : Pos}
end
end L2
set_option Elab.async false
set_option linter.all false
set_option maxRecDepth 100000
set_option maxHeartbeats 1000000
namespace Num
open PySem PySem.Spec PyProof.Rows
theorem LF.one' {n g g' : Int} (h : LF n g) (h' : LF n g') : g = g' := by
  rcases (by omega : g < g' ∨ g = g' ∨ g' < g) with z | z | z
  · exact absurd h.ord (h'.no g h.one z)
  · exact z
  · exact absurd h'.ord (h.no g' h'.one z)
theorem Pap.one {n : Int} {d : PyData} (h : Pap n d) : ∀ {d'}, Pap n d' → d = d' := by
  induction h with
  | mk p g ps ds h1 h2 h3 h4 h5 h6 ih =>
    intro d' h'
    cases h' with
    | mk _ g' ps' ds' k1 k2 k3 k4 k5 k6 =>
      obtain rfl := h3.one' k3
      obtain rfl := h4.one k4
      have : rowsOf ps ds = rowsOf ps ds' := by
        unfold rowsOf
        refine List.map_congr_left fun i hi => ?_
        have il := List.mem_range.mp hi
        have g := List.getElem?_eq_getElem il
        rw [ih i _ _ g (k6 i _ _ g)]
      rw [this]
theorem rowsOf_mem {ps : List (Int × Int)} {ds : Nat → PyData} {r : PyData} (h : r ∈ rowsOf ps ds) : ∃ i q k, ps[i]? = some (q, k) ∧ r = .tuple [ds i, .int k] := by
  unfold rowsOf at h
  obtain ⟨i, hi, rfl⟩ := List.mem_map.mp h
  have il := List.mem_range.mp hi
  have g := List.getElem?_eq_getElem il
  exact ⟨i, _, _, g, by rw [List.getD_eq_getElem?_getD, g]; rfl⟩
theorem depthAll_le {m : Nat} : ∀ {ds : List PyData}, (∀ d ∈ ds, d.depth ≤ m) → PyData.depthAll ds ≤ m
  | [], _ => by simp [PyData.depthAll]
  | d :: ds, h => by
    have h1 := h d (List.mem_cons_self ..)
    have h2 := depthAll_le fun e he => h e (List.mem_cons_of_mem _ he)
    simp only [PyData.depthAll]
    omega
theorem canLay_of : ∀ {ds : List PyData}, (∀ d ∈ ds, d.canLay0 = true) → PyData.canLayAll0 ds = true
  | [], _ => rfl
  | d :: ds, h => by simp [PyData.canLayAll0, h d (List.mem_cons_self ..), canLay_of fun e he => h e (List.mem_cons_of_mem _ he)]
theorem Pap.deep {n : Int} {d : PyData} (h : Pap n d) : d.canLay0 = true ∧ ∃ k : Nat, d.depth + 1 ≤ 3 * k ∧ (2 : Int) ^ k ≤ 2 * (n - 1) := by
  induction h with
  | mk p g ps ds h1 h2 h3 h4 h5 h6 ih =>
    have p2 := h1.two
    have lay : PyData.canLayAll0 (rowsOf ps ds) = true := canLay_of fun r hr => by
      obtain ⟨i, q, k, hi, rfl⟩ := rowsOf_mem hr
      simp [PyData.canLay0, PyData.canLayAll0, (ih i q k hi).1]
    refine ⟨by simp [PyData.canLay0, PyData.canLayAll0, lay], ?_⟩
    by_cases e2 : p = 2
    · subst e2
      have hps : ps = [] := by
        have : Part (1 : Int) ps := h4
        exact this.one ⟨fun _ z => by simp at z, List.Pairwise.nil, rfl⟩
      subst hps
      exact ⟨1, by simp [PyData.depth, PyData.depthAll, rowsOf], by decide⟩
    · -- each prime of the parts is at most half
      obtain ⟨k, hk, hk2⟩ : ∃ k : Nat, (∀ i q m, ps[i]? = some (q, m) → (ds i).depth + 1 ≤ 3 * k) ∧ (2 : Int) ^ (k + 1) ≤ 2 * (p - 1) := by
        have half : ∀ i q m, ps[i]? = some (q, m) → 2 * (q - 1) * 2 ≤ 2 * (p - 1) := fun i q m hi => by
          have hq := h4.ok _ (List.mem_of_getElem? hi)
          have dv : q ∣ p - 1 := h4.dv (List.mem_of_getElem? hi)
          obtain ⟨c, hc⟩ := dv
          have q2 := hq.1.two
          have c0 : 1 ≤ c := by
            rcases (by omega : c ≤ 0 ∨ 1 ≤ c) with z | z
            · have := Int.mul_nonpos_of_nonneg_of_nonpos (show 0 ≤ q by omega) z
              simp only at *
              omega
            · exact z
          rcases (by omega : c = 1 ∨ 2 ≤ c) with z | z
          · -- p - 1 is a prime: so p is 3
            rw [z, Int.mul_one] at hc
            have od : p % 2 = 1 := by
              rcases (by omega : p % 2 = 0 ∨ p % 2 = 1) with y | y
              · exact absurd (Int.dvd_of_emod_eq_zero y) (h1.no 2 (by decide) (by omega))
              · exact y
            have q2' : q = 2 := by
              rcases (by omega : q = 2 ∨ 2 < q) with y | y
              · exact y
              · exact absurd (Int.dvd_of_emod_eq_zero (show q % 2 = 0 by omega)) (hq.1.no 2 (by decide) y)
            omega
          · have := Int.mul_le_mul_of_nonneg_left z (show 0 ≤ q by omega)
            omega
        have all : ∀ i q m, ps[i]? = some (q, m) → ∃ k : Nat, (ds i).depth + 1 ≤ 3 * k ∧ (2 : Int) ^ (k + 1) ≤ 2 * (p - 1) := fun i q m hi => by
          obtain ⟨k, a, b⟩ := (ih i q m hi).2
          exact ⟨k, a, by rw [Int.pow_succ]; have := half i q m hi; omega⟩
        -- the greatest of them
        have key : ∀ n : Nat, n ≤ ps.length → ∃ k : Nat, (∀ i q m, i < n → ps[i]? = some (q, m) → (ds i).depth + 1 ≤ 3 * k) ∧ (2 : Int) ^ (k + 1) ≤ 2 * (p - 1) := by
          intro n
          induction n with
          | zero => exact fun _ => ⟨0, fun i q m hi => by omega, by rw [Int.pow_succ, Int.pow_zero]; omega⟩
          | succ n ihn =>
            intro hn
            obtain ⟨k, a, b⟩ := ihn (by omega)
            obtain ⟨k', a', b'⟩ := all n _ _ (List.getElem?_eq_getElem (show n < ps.length by omega))
            rcases Nat.le_total k k' with z | z
            · refine ⟨k', fun i q m hi h => ?_, b'⟩
              rcases (by omega : i < n ∨ i = n) with y | y
              · have := a i q m y h; omega
              · subst y; exact a'
            · refine ⟨k, fun i q m hi h => ?_, b⟩
              rcases (by omega : i < n ∨ i = n) with y | y
              · exact a i q m y h
              · subst y; omega
        obtain ⟨k, a, b⟩ := key ps.length (Nat.le_refl _)
        exact ⟨k, fun i q m hi => a i q m (List.getElem?_eq_some_iff.mp hi).1 hi, b⟩
      refine ⟨k + 1, ?_, hk2⟩
      have rows : PyData.depthAll (rowsOf ps ds) ≤ 3 * k := depthAll_le fun r hr => by
        obtain ⟨i, q, m, hi, rfl⟩ := rowsOf_mem hr
        have := hk i q m hi
        simp only [PyData.depth, PyData.depthAll]
        omega
      simp only [PyData.depth, PyData.depthAll]
      omega
theorem Pap.depth {n : Int} {d : PyData} (h : Pap n d) : d.depth ≤ 90 := by
  obtain ⟨_, k, a, b⟩ := h.deep
  have : n ≤ 10 ^ 9 := by cases h; assumption
  have k30 : k ≤ 30 := by
    rcases (by omega : k ≤ 30 ∨ 31 ≤ k) with z | z
    · exact z
    · exfalso
      have e : (2 : Int) ^ k = 2 ^ 31 * 2 ^ (k - 31) := by rw [← Pw.pow_add]; congr 1; omega
      have p0 := pow_pos' (show (0 : Int) < 2 by decide) (k - 31)
      have := Int.mul_le_mul_of_nonneg_left (show (1 : Int) ≤ 2 ^ (k - 31) by omega) (show (0 : Int) ≤ 2 ^ 31 by decide)
      have : (2 : Int) ^ 31 = 2147483648 := by decide
      omega
  omega
end Num
namespace L2
open PySem PySem.Spec PyProof.Rows
def rEqQ (K : PySem.W.Frag) (neg : Bool) : R2 := fun y x H Q => ∃ d e, dv K H d y ∧ dv K H e x ∧ d.canLay0 = true ∧ e.canLay0 = true ∧ min d.depth e.depth ≤ 190 ∧ Q (.bl (if neg then !PyData.eqv d e else PyData.eqv d e)) H
end L2
set_option Elab.async false
set_option linter.all false
set_option maxRecDepth 100000
set_option maxHeartbeats 1000000
namespace L2
open PySem PySem.Spec PyProof.Rows PySem.W
namespace HT
section
variable {prog : Program} {w : World} {A : Around} {E : Value → Shared → Prop} {s : Shared}
end
end HT
def rCatE (K : PySem.W.Frag) : R2 := fun x y H Q => ∃ a b xs ys, x = .ref a ∧ y = .ref b ∧ SqT K H a xs ∧ SqT K H b ys ∧ xs.length + ys.length ≤ sizeLine ∧ ∀ p H', Same H H' → SqT K H' p (xs ++ ys) → Q (.ref p) H'
end L2
set_option Elab.async false
set_option linter.all false
set_option maxRecDepth 100000
set_option maxHeartbeats 1000000
namespace L2
open PySem PySem.Spec PyProof.Rows PySem.W
namespace Tsl
open _root_.HT
section
variable {prog : Program} {w : World} {A : Around} {E : Value → Shared → Prop} {s : Shared}
end
end Tsl
def rSlE (K : PySem.W.Frag) : V → Option Int → Option Int → Hp → VK → Prop := fun x lo hi H Q => ∃ a xs, x = .ref a ∧ SqT K H a xs ∧ ∀ p H', Same H H' → SqT K H' p (cutV xs lo hi) → Q (.ref p) H'
def tRevT (K : PySem.W.Frag) (te : TE) (tk : TO) : TE := fun σ H Q => te σ H fun x H1 => tk σ H1 fun o H2 => o = some (-1) ∧ ∃ a xs, x = .ref a ∧ SqT K H2 a xs ∧ ∀ p, H2 p = none → Q (.ref p) (upd H2 p (.tup xs.reverse))
section
variable {X : Cx} {e k : Expr} {te : TE} {tk : TO} {p2 pos : Pos}
end
end L2
set_option Elab.async false
set_option linter.all false
set_option maxRecDepth 100000
set_option maxHeartbeats 8000000
namespace K
open PySem PySem.Spec PyProof.Rows L2
def top (i : Nat) : Stmt := PySem.Challenge.pw_rootprime_k22_whole_only_primes_have_pap.main.body.getD i (.Pass ⟨0, 0, 0, 0⟩)
end K
set_option Elab.async false
set_option linter.all false
set_option maxRecDepth 100000
set_option maxHeartbeats 8000000
local macro_rules | `(tactic| k_data) => `(tactic| (try simp only [L2.tSeq, L2.tPar, L2.tPar3, L2.tCons, L2.tNil, L2.tCB, L2.tVar, L2.tC, L2.tOp, L2.rI, L2.rI0, L2.rU, L2.tUn, L2.tTest, L2.tAsg, L2.gName, L2.tRet, L2.tRetN, L2.tTup, L2.tLst, L2.tIf, L2.tIfS, L2.tNext, L2.tAnd, L2.tOr, L2.tNot, L2.tAndV, L2.tOrV, L2.tNotV, L2.tB, L2.tAug, L2.tDrop, L2.gCons, L2.gNil, L2.tCall, List.getElem?_cons_zero, List.getElem?_cons_succ, Option.some.injEq, exists_eq_left', exists_and_left, List.cons.injEq, L2.V.int.injEq, L2.V.bl.injEq, and_true, true_and, List.set_cons_zero, List.set_cons_succ, and_assoc, decide_eq_true_eq, List.nil_append, List.append_nil, List.cons_append, L2.tFor_eq, L2.tLC_eq, L2.iRng1, L2.iRng2, L2.iRng3, L2.iList, L2.iTup, L2.tSl, L2.tRev, L2.tPart, L2.tNoPart, L2.CPow, Int.reduceToNat, Int.reducePow, Int.reduceLT, Int.reduceLE, Int.reduceNeg, Int.zero_add, Nat.reducePow, Nat.reduceLT, Int.reduceAdd, Int.reduceSub, Int.reduceMul, L2.tNoIf, L2.V.ref.injEq, L2.cxK, L2.compK, L2.truV_bl, L2.truV_int, exists_eq_left, exists_eq', exists_eq, exists_const, L2.rEq, L2.rNe, L2.scal_ii, L2.scal_bb, L2.scal_in, L2.scal_ni, L2.scal_nn, L2.scal_bn, L2.scal_ss, reduceIte, reduceCtorEq, Bool.not_eq_true', decide_eq_false_iff_not, Int.reduceAbs, L2.tBM, L2.tBM0, L2.tLR, L2.gSub, L2.tDGet, L2.sDPut, L2.tDisp, L2.tPairs, L2.iEnum, L2.iZip, L2.iZipA, L2.tRaise, L2.tXM1, L2.tXM0, L2.tXF, L2.tTry, L2.tTry2, L2.hSet, L2.hEnds, Bool.not_true, Bool.not_false, if_true, Bool.false_eq_true, if_false]))
namespace K
open PySem PySem.Spec PyProof.Rows L2
section
variable {P : Program} {w : World} {K : PySem.W.Frag} {mg : Str → Option Value} {base : Heap}
theorem all_snoc {α : Type} {p : α → Prop} {xs : List α} {v : α} (h : ∀ x ∈ xs, p x) (hv : p v) : ∀ x ∈ xs ++ [v], p x := fun x hx => by
  rcases List.mem_append.mp hx with z | z
  · exact h x z
  · rw [List.mem_singleton.mp z]; exact hv
theorem bdl {i : Int} (h : (decide (i.natAbs < 10 ^ 250)) = true) : Bd i := Nat.lt_of_lt_of_le (of_decide_eq_true h) big_lt
def In60 (x : Int) : Prop := 0 ≤ x ∧ x < 10 ^ 60
def spDraws : Sp := fun vs H Q _ => ∃ (c : Int) (n : Nat), vs = [.int c, .int n] ∧ n ≤ 16 ∧ ∀ (xs : List Int) p H', xs.length = n → (∀ x ∈ xs, In60 x) → Same H H' → H' p = some (.lst (xs.map V.int)) → Q (.ref p) H'
theorem sc__law_draws : FnScope [("_law_cell" : Str), ("_law_many" : Str), ("_law_found" : Str), ("_law_k" : Str), ("_law_number" : Str)] [("_law_cell" : Str), ("_law_many" : Str)] (defScope (top 34)) := ⟨rfl, rfl, rfl, by decide +kernel, rfl, by decide +kernel, by decide +kernel⟩
theorem ok_draws (D : DefAt K mg "_law_draws" (top 34)) (n_abs : mg "abs" = none) (n_range : mg "range" = none) : Callee P w K mg base CX0 1 "_law_draws" [("_law_cell" : Str), ("_law_many" : Str)] spDraws := by
  refine callee_of D (fun _ _ _ _ _ _ us hl => match us, hl with | [_, _], _ => rfl) sc__law_draws (fun vs H Q E h => by obtain ⟨a, b, rfl, _⟩ := h; rfl) (fun f cdv A outer s H vs Q E hr h => ?_)
  obtain ⟨c, n, rfl, hn, q⟩ := h
  have nd := sc__law_draws.nd
  refine ⟨_, (pss_cons (ps_set (i := 2) nd rfl (Or.inl rfl) (pe_lst pa_nil)) (pss_cons (ps_for PassesOwn.never rfl (pi_range1 rfl n_range (pa_cons (pv 1) pa_nil)) (pg_name (i := 3) nd rfl (Or.inl rfl) (.inr rfl)) (pss_one (ps_if (pt_cmpR op_ge (pe_callB call_abs rfl n_abs L2.boot_abs (pa_cons (pv 0) pa_nil)) (pe_op op_pow pe_int pe_int) (nomark _)) (pss_cons (ps_expr (pe_bm PySem.F.plainAttrs_list PySem.F.slot_list_append PySem.F.type_list_append mt_append (pv 2) (pa_cons (pe_op op_mod (pv 0) (pe_op op_pow pe_int pe_int)) pa_nil))) (pss_one (ps_set (i := 0) nd rfl (Or.inl rfl) (pe_op op_divB (pv 0) (pe_op op_pow pe_int pe_int))))) (pss_cons (ps_set (i := 4) nd rfl (Or.inl rfl) (pe_op op_mod (pe_op op_mulB (pe_op op_mod (pe_op op_add (pe_op op_add (pv 0) (pe_op op_mulB (pe_op op_mulB pe_int (pv 3)) (pv 3))) (pv 3)) pe_int) pe_int) pe_int)) (pss_cons (ps_set (i := 4) nd rfl (Or.inl rfl) (pe_op op_divB (pe_op op_mod (pe_op op_mulB (pv 4) (pe_op op_add (pe_op op_add (pv 4) (pe_op op_mulB pe_int (pv 3))) pe_int)) pe_int) pe_int)) (pss_one (ps_expr (pe_bm PySem.F.plainAttrs_list PySem.F.slot_list_append PySem.F.type_list_append mt_append (pv 2) (pa_cons (pe_ix ix_list (pe_lst (pa_cons (pv 4) (pa_cons (pe_op op_mod (pe_op op_divB (pe_op op_pow (pv 4) pe_int) pe_int) (pe_op op_pow pe_int pe_int)) pa_nil))) (pe_op op_mod (pe_op op_divB (pv 4) pe_int) pe_int) (fun _ _ => rfl)) pa_nil))))))))) (pss_one (ps_ret (pv 2))))), ?_⟩
  show tSeq _ _ _ [some (.int c), some (.int n), none, none, none] H
  k_data
  refine ⟨by decide, fun p hp => ?_⟩
  refine ⟨by omega, by omega, ?_⟩
  refine loop_range (fun i σ' H' => ∃ (c' : Int) (xs : List Int) (o1 o2 : Option V), σ' = [some (.int c'), some (.int n), some (.ref p), o1, o2] ∧ xs.length = i ∧ (∀ x ∈ xs, In60 x) ∧ Same H H' ∧ H' p = some (.lst (xs.map V.int)))
    ⟨c, [], none, none, rfl, rfl, by simp, same_upd hp, upd_same⟩ ?_ ?_
  · rintro i σ' H' hi ⟨c', xs, o1, o2, rfl, hl, hx, hs, hh⟩
    have hi' : i < n := by simpa using hi
    have hsz : xs.length < sizeLine := by rw [hl]; exact small1000 (by omega)
    k_data
    refine ite2 (fun cc => ?_) (fun cc => ?_)
    · have m0 := Int.emod_nonneg c' (show (10 ^ 60 : Int) ≠ 0 by decide)
      have m1 := Int.emod_lt_of_pos c' (show (0 : Int) < 10 ^ 60 by decide)
      refine ⟨.inl ⟨rfl, _, SqL.of hh⟩, app_int hh hsz ?_⟩
      refine ⟨bdl (by decide), xs ++ [_], by rw [List.length_append, List.length_singleton, hl], all_snoc hx ⟨m0, m1⟩, hs.upd hp, upd_same⟩
    · generalize c' + 7919 * (i : Int) * i + i = z
      have z0 := Int.emod_nonneg z (show (2147483647 : Int) ≠ 0 by decide)
      have z1 := Int.emod_lt_of_pos z (show (0 : Int) < 2147483647 by decide)
      have m0 := Int.emod_nonneg (z % 2147483647 * 48271) (show (2147483647 : Int) ≠ 0 by decide)
      have m1 := Int.emod_lt_of_pos (z % 2147483647 * 48271) (show (0 : Int) < 2147483647 by decide)
      generalize z % 2147483647 = z' at *
      generalize z' * 48271 % 2147483647 = m at *
      have n0 := Int.emod_nonneg (m * (m + 12345 * i + 7)) (show (2147483629 : Int) ≠ 0 by decide)
      have n1 := Int.emod_lt_of_pos (m * (m + 12345 * i + 7)) (show (0 : Int) < 2147483629 by decide)
      generalize m * (m + 12345 * i + 7) % 2147483629 = k at *
      have k0 : 0 ≤ k / 11 := by omega
      have k1 : k / 11 < 2147483648 := by omega
      generalize k / 11 = k' at *
      refine ⟨bdl (by decide), Bd.of (by omega) (by omega), Bd.of (by omega) (by omega), Bd.of (by omega) (by omega), Bd.of (by omega) (by omega), bdl (by decide), bdl (by decide), Bd.of (by omega) (by omega), Bd.of (by omega) (by omega), Bd.of (by omega) (by omega), bdl (by decide),
        .inl ⟨rfl, _, SqL.of hh⟩, by omega, bdl (by decide), (by show 2 ≤ sizeLine; decide), fun p1 hp1 => ⟨bdl (by decide), ?_⟩⟩
      refine ix_some (SqL.of upd_same) (by omega) (by show _ < (2 : Int); omega) fun v hv => ?_
      have hn1 : p ≠ p1 := fun e => by rw [e, hp1] at hh; cases hh
      have hv' : ∃ v', v = .int v' ∧ In60 v' := by
        simp only [List.mem_cons, List.not_mem_nil, or_false] at hv
        rcases hv with rfl | rfl
        · exact ⟨_, rfl, k0, by omega⟩
        · exact ⟨_, rfl, Int.emod_nonneg _ (by decide), Int.emod_lt_of_pos _ (by decide)⟩
      obtain ⟨v', rfl, hv'⟩ := hv'
      refine app_int (xs := xs) (by rw [upd_ne hn1]; exact hh) hsz ?_
      exact ⟨xs ++ [v'], by rw [List.length_append, List.length_singleton, hl], all_snoc hx hv', (hs.upd1 hp1).upd hp, upd_same⟩
  · rintro σ' H' ⟨c', xs, o1, o2, rfl, hl, hx, hs, hh⟩
    k_data
    exact q xs p H' (by simpa using hl) hx hs hh
end
end K
set_option Elab.async false
set_option linter.all false
set_option maxRecDepth 100000
set_option maxHeartbeats 8000000
namespace K
open PySem PySem.Spec PyProof.Rows L2
section
variable {P : Program} {w : World} {K : PySem.W.Frag} {mg : Str → Option Value} {base : Heap}
def In130 (a : Int) : Prop := -(10 ^ 240) ≤ a ∧ a ≤ 10 ^ 240
theorem In130.bd {a : Int} (h : In130 a) : Bd a := Bd.of (by have := h.1; omega) (by have := h.2; omega)
def spDivisor : Sp := fun vs H Q _ => ∃ a b : Int, vs = [.int a, .int b] ∧ In130 a ∧ In130 b ∧ ∀ g u v p H', Gcd.Bez a b g u v → Same H H' → H' p = some (.tup [.int g, .int u, .int v]) → Q (.ref p) H'
theorem sc_divisor : FnScope [("a" : Str), ("b" : Str), ("g" : Str), ("u" : Str), ("v" : Str), ("next_g" : Str), ("next_u" : Str), ("next_v" : Str), ("times" : Str)] [("a" : Str), ("b" : Str)] (defScope (top 7)) := ⟨rfl, rfl, rfl, by decide +kernel, rfl, by decide +kernel, by decide +kernel⟩
structure DS where
  (g u v ng nu nv : Int)
  t : Option V
theorem ok_divisor (D : DefAt K mg "divisor" (top 7)) (n_abs : mg "abs" = none) : Callee P w K mg base CX0 1 "divisor" [("a" : Str), ("b" : Str)] spDivisor := by
  refine callee_of D (fun _ _ _ _ _ _ us hl => match us, hl with | [_, _], _ => rfl) sc_divisor (fun vs H Q E h => by obtain ⟨a, b, rfl, _⟩ := h; rfl) (fun f cdv A outer s H vs Q E hr h => ?_)
  obtain ⟨a, b, rfl, ha, hb, q⟩ := h
  have nd := sc_divisor.nd
  refine ⟨_, (pss_cons (ps_par3 (i := 2) (j := 3) (k := 4) rfl nd rfl rfl rfl (by decide) (by decide) (by decide) rfl rfl rfl (pa_cons (pe_callB call_abs rfl n_abs L2.boot_abs (pa_cons (pv 0) pa_nil)) (pa_cons pe_int (pa_cons pe_int pa_nil))) rfl) (pss_cons (ps_par3 (i := 5) (j := 6) (k := 7) rfl nd rfl rfl rfl (by decide) (by decide) (by decide) rfl rfl rfl (pa_cons (pe_callB call_abs rfl n_abs L2.boot_abs (pa_cons (pv 1) pa_nil)) (pa_cons pe_int (pa_cons pe_int pa_nil))) rfl) (pss_cons (ps_while PassesOwn.never (pt_cmpR op_gt (pv 5) pe_int (nomark _)) (pss_cons (ps_set (i := 8) nd rfl (Or.inl rfl) (pe_op op_divB (pv 2) (pv 5))) (pss_cons (ps_par (i := 2) (j := 5) rfl nd rfl rfl (by decide) rfl rfl (pa_cons (pv 5) (pa_cons (pe_op op_sub (pv 2) (pe_op op_mulB (pv 8) (pv 5))) pa_nil)) rfl) (pss_cons (ps_par (i := 3) (j := 6) rfl nd rfl rfl (by decide) rfl rfl (pa_cons (pv 6) (pa_cons (pe_op op_sub (pv 3) (pe_op op_mulB (pv 8) (pv 6))) pa_nil)) rfl) (pss_one (ps_par (i := 4) (j := 7) rfl nd rfl rfl (by decide) rfl rfl (pa_cons (pv 7) (pa_cons (pe_op op_sub (pv 4) (pe_op op_mulB (pv 8) (pv 7))) pa_nil)) rfl)))))) (pss_one (ps_ret (pe_tup (pa_cons (pv 2) (pa_cons (pe_ifExp (pt_cmpR op_lt (pv 0) pe_int (nomark _)) (pe_un un_neg (pv 3)) (pv 3)) (pa_cons (pe_ifExp (pt_cmpR op_lt (pv 1) pe_int (nomark _)) (pe_un un_neg (pv 4)) (pv 4)) pa_nil))))))))), ?_⟩
  show tSeq _ _ _ [some (.int a), some (.int b), none, none, none, none, none, none, none] H
  k_data
  have hA : 0 ≤ (if a < 0 then -a else a) ∧ (if a < 0 then -a else a) ≤ 10 ^ 240 := by have := ha.1; have := ha.2; split <;> omega
  have hB : 0 ≤ (if b < 0 then -b else b) ∧ (if b < 0 then -b else b) ≤ 10 ^ 240 := by have := hb.1; have := hb.2; split <;> omega
  refine while_st (α := DS) (fun x => [some (.int a), some (.int b), some (.int x.g), some (.int x.u), some (.int x.v), some (.int x.ng), some (.int x.nu), some (.int x.nv), x.t])
    (fun x H' => H' = H ∧ Gcd.J (if a < 0 then -a else a) (if b < 0 then -b else b) x.g x.u x.v x.ng x.nu x.nv ∧ x.g ≤ 10 ^ 240 ∧ x.ng ≤ 10 ^ 240) (fun x => x.ng.toNat)
    ⟨_, 1, 0, _, 0, 1, none⟩ rfl ⟨rfl, Gcd.J.start hA.1 hB.1, hA.2, hB.2⟩ ?_
  rintro x H1 ⟨rfl, j, hg, hng⟩
  k_data
  refine ite2 (fun c => ?_) (fun c => ?_)
  · refine ⟨_, fun _ _ z => z, ?_⟩
    obtain ⟨s1, s2, s3, s4⟩ := j.small hA.1 hB.1 hA.2 hB.2 (by omega)
    obtain ⟨j', l, q0, ql⟩ := j.turn c
    have bg : In130 x.ng := ⟨by omega, hng⟩
    have bq : In130 (x.g / x.ng) := ⟨by omega, by omega⟩
    refine ⟨c, bg.bd, bq.bd, bg.bd, bq.bd, In130.bd s3, bq.bd, In130.bd s4, ⟨x.ng, x.nu, x.nv, x.g - x.g / x.ng * x.ng, x.u - x.g / x.ng * x.nu, x.v - x.g / x.ng * x.nv, some (.int (x.g / x.ng))⟩, rfl, rfl, j', hng, by show (x.g - x.g / x.ng * x.ng) ≤ _; omega, by show (x.g - x.g / x.ng * x.ng).toNat < x.ng.toNat; omega⟩
  · have e : x.ng = 0 := by have := j.n0; omega
    rw [e] at j
    have z := j.done
    refine ite2 (fun ca => ?_) (fun ca => ?_) <;> simp only [ca, if_true, if_false] at z ⊢ <;> refine ite2 (fun cb => ?_) (fun cb => ?_) <;> simp only [cb, if_true, if_false] at z ⊢ <;>
      exact ⟨by show 3 ≤ sizeLine; decide, fun p hp => q _ _ _ p _ z (same_upd hp) upd_same⟩
end
end K
set_option Elab.async false
set_option linter.all false
set_option maxRecDepth 100000
set_option maxHeartbeats 8000000
namespace K
open PySem PySem.Spec PyProof.Rows L2
structure Gd (n a g : Int) : Prop where
  pos : 0 < g
  dn : g ∣ n
  da : g ∣ a
  gr : ∀ d : Int, d ∣ n → d ∣ a → d ∣ g
theorem Gd.one {n a g g' : Int} (h : Gd n a g) (h' : Gd n a g') : g = g' :=
  Int.le_antisymm (Int.le_of_dvd h'.pos (h'.gr g h.dn h.da)) (Int.le_of_dvd h.pos (h.gr g' h'.dn h'.da))
theorem dvd_rest {n a g : Int} (dn : g ∣ n) : g ∣ a % n ↔ g ∣ a := by
  have e := Int.mul_ediv_add_emod a n
  constructor
  · intro h
    rw [← e]
    exact Int.dvd_add (Int.dvd_mul_of_dvd_left dn) h
  · intro h
    have : a % n = a - n * (a / n) := by omega
    rw [this]
    exact Int.dvd_sub h (Int.dvd_mul_of_dvd_left dn)
theorem Gd.of {n a g u v : Int} (hn : 0 < n) (z : Gcd.Bez (a % n) n g u v) : Gd n a g := by
  refine ⟨?_, z.db, (dvd_rest z.db).mp z.da, fun d h1 h2 => ?_⟩
  · have := z.g0
    rcases (by omega : g = 0 ∨ 0 < g) with e | e
    · have := z.db
      rw [e] at this
      have := Int.zero_dvd.mp this
      omega
    · exact e
  · rw [← z.lin]
    exact Int.dvd_add (Int.dvd_mul_of_dvd_right ((dvd_rest h1).mpr h2)) (Int.dvd_mul_of_dvd_right h1)
theorem inv_of {n a u v : Int} (hn : 0 < n) (z : Gcd.Bez (a % n) n 1 u v) : n ∣ u % n * a - 1 := by
  have e := z.lin
  have e1 := Int.mul_ediv_add_emod a n
  have e2 := Int.mul_ediv_add_emod u n
  refine ⟨u * (a / n) - v - u / n * a, ?_⟩
  generalize a % n = x at *
  generalize u % n = y at *
  generalize a / n = s at *
  generalize u / n = t at *
  grind
section
variable {P : Program} {w : World} {K : PySem.W.Frag} {mg : Str → Option Value} {base : Heap}
def spInverse (C : Addr) : Sp := fun vs H Q E => ∃ n a : Int, vs = [.int n, .int a] ∧ 0 < n ∧ n ≤ 10 ^ 240 ∧ ∀ g, Gd n a g →
  (g = 1 → ∀ r H', 0 ≤ r → r < n → n ∣ r * a - 1 → Same H H' → Q (.int r) H') ∧
  (1 < g → ∀ x dx H', Same H H' → H x = none → H' x = some (XO x C (some dx)) → H' dx = some (.xd [("divisor", .int g)]) → E (.ref C) (some x) H')
theorem sc_inverse : FnScope [("n" : Str), ("a" : Str), ("g" : Str), ("u" : Str), ("v" : Str)] [("n" : Str), ("a" : Str)] (defScope (top 8)) := ⟨rfl, rfl, rfl, by decide +kernel, rfl, by decide +kernel, by decide +kernel⟩
theorem ok_inverse {C : Addr} (D : DefAt K mg "inverse" (top 8)) (c_divisor : Callee P w K mg base CX0 1 "divisor" ["a", "b"] spDivisor) (x_NoInverse : XCl1 P w K mg base "NoInverse" C "divisor") : Callee P w K mg base (CXE P w) 3 "inverse" [("n" : Str), ("a" : Str)] (spInverse C) := by
  refine calleeX_of D (fun _ _ _ _ _ _ us hl => match us, hl with | [_, _], _ => rfl) sc_inverse (fun vs H Q E h => by obtain ⟨a, b, rfl, _⟩ := h; rfl) (fun f cdv A outer s H vs Q E hr h => ?_)
  obtain ⟨n, a, rfl, hn, hn1, q⟩ := h
  have nd := sc_inverse.nd
  refine ⟨_, (pss_cons (ps_asg (pe_callC c_divisor (hr.mono (by decide)) rfl pass0 (pa_cons (pe_op op_mod (pv 1) (pv 0)) (pa_cons (pv 0) pa_nil))) (pg_tup (n := 3) rfl (pgs_cons (pg_name (i := 2) nd rfl (Or.inl rfl) (.inr rfl)) (pgs_cons (pg_name (i := 3) nd rfl (Or.inl rfl) (.inr rfl)) (pgs_cons (pg_name (i := 4) nd rfl (Or.inl rfl) (.inr rfl)) pgs_nil))))) (pss_cons (ps_if (pt_cmpR op_gt (pv 2) pe_int (nomark _)) (pss_one (ps_raise (pe_xm1 x_NoInverse (hr.mono (by decide)) rfl (pa_cons (pv 2) pa_nil)))) pss_nil) (PSs.nox (pss_one (ps_ret (pe_op op_mod (pv 3) (pv 0))))))), ?_⟩
  show tSeq _ _ _ [some (.int n), some (.int a), none, none, none] H
  k_data
  have r0 := Int.emod_nonneg a (show n ≠ 0 by omega)
  have r1 := Int.emod_lt_of_pos a hn
  refine ⟨hn, a % n, n, rfl, ⟨by omega, by omega⟩, ⟨by omega, by omega⟩, fun g u v p H1 z hs hh => ?_⟩
  have G := Gd.of hn z
  obtain ⟨q1, q2⟩ := q g G
  refine ⟨p, _, rfl, SqT.of hh, rfl, ?_⟩
  k_data
  refine ite2 (fun c => ?_) (fun c => ?_)
  · intro x dx hx hdx ne
    have ne' : dx ≠ x := ne
    refine ⟨C, some dx, upd_same, x_NoInverse.cls, ?_, ?_⟩
    · cases e : H x with
      | none => rfl
      | some o => rw [hs _ _ e] at hx; cases hx
    · refine q2 c x dx _ ?_ ?_ upd_same ?_
      · intro b o e
        have e1 := hs _ _ e
        have bx : b ≠ x := fun y => by rw [y, hx] at e1; cases e1
        have bd : b ≠ dx := fun y => by rw [y, hdx] at e1; cases e1
        rw [upd_ne bx, upd_ne bx, upd_ne bd, upd_ne bx]
        exact e1
      · cases e : H x with
        | none => rfl
        | some o => rw [hs _ _ e] at hx; cases hx
      · rw [upd_ne ne', upd_ne ne', upd_same]
  · have g1 : g = 1 := by have := G.pos; omega
    subst g1
    exact ⟨hn, q1 rfl _ _ (Int.emod_nonneg _ (by omega)) (Int.emod_lt_of_pos _ hn) (inv_of hn z) hs⟩
end
end K
set_option Elab.async false
set_option linter.all false
set_option maxRecDepth 100000
set_option maxHeartbeats 8000000
namespace K
open PySem PySem.Spec PyProof.Rows L2
section
variable {P : Program} {w : World} {K : PySem.W.Frag} {mg : Str → Option Value} {base : Heap}
def spPower (C : Addr) : Sp := fun vs H Q E => ∃ n a e : Int, vs = [.int n, .int a, .int e] ∧ 0 < n ∧ n ≤ 10 ^ 120 ∧
  (0 ≤ e → ∀ H', Same H H' → Q (.int (a ^ e.toNat % n)) H') ∧
  (e < 0 → ∀ g, Gd n a g →
    (g = 1 → ∀ b H', 0 ≤ b → b < n → n ∣ b * a - 1 → Same H H' → Q (.int (b ^ (-e).toNat % n)) H') ∧
    (1 < g → ∀ x dx H', Same H H' → H x = none → H' x = some (XO x C (some dx)) → H' dx = some (.xd [("divisor", .int g)]) → E (.ref C) (some x) H'))
theorem sc_power : FnScope [("n" : Str), ("a" : Str), ("e" : Str), ("base" : Str), ("left" : Str), ("rest" : Str)] [("n" : Str), ("a" : Str), ("e" : Str)] (defScope (top 14)) := ⟨rfl, rfl, rfl, by decide +kernel, rfl, by decide +kernel, by decide +kernel⟩
theorem ok_power {C : Addr} (D : DefAt K mg "power" (top 14)) (c_inverse : Callee P w K mg base (CXE P w) 3 "inverse" ["n", "a"] (spInverse C)) (n_abs : mg "abs" = none) : Callee P w K mg base (CXE P w) 4 "power" [("n" : Str), ("a" : Str), ("e" : Str)] (spPower C) := by
  refine calleeX_of D (fun _ _ _ _ _ _ us hl => match us, hl with | [_, _, _], _ => rfl) sc_power (fun vs H Q E h => by obtain ⟨a, b, c, rfl, _⟩ := h; rfl) (fun f cdv A outer s H vs Q E hr h => ?_)
  obtain ⟨n, a, e, rfl, hn, hn1, q1, q2⟩ := h
  have nd := sc_power.nd
  refine ⟨_, (pss_cons (ps_set (i := 3) nd rfl (Or.inl rfl) (pe_op op_mod (pv 1) (pv 0))) (pss_cons (ps_cut (ps_if (pt_cmpR op_lt (pv 2) pe_int (nomark _)) (pss_one (ps_set (i := 3) nd rfl (Or.inl rfl) (pe_callC c_inverse (hr.mono (by decide)) rfl pass_def (pa_cons (pv 0) (pa_cons (pv 1) pa_nil))))) pss_nil)) (PSs.nox (pss_cons (ps_set (i := 4) nd rfl (Or.inl rfl) (pe_callB call_abs rfl n_abs L2.boot_abs (pa_cons (pv 2) pa_nil))) (pss_cons (ps_set (i := 5) nd rfl (Or.inl rfl) (pe_op op_mod pe_int (pv 0))) (pss_cons (ps_while PassesOwn.never (pt_cmpR op_gt (pv 4) pe_int (nomark _)) (pss_cons (ps_cut (ps_if (pt_cmpR op_eq (pe_op op_mod (pv 4) pe_int) pe_int (nomark _)) (pss_one (ps_set (i := 5) nd rfl (Or.inl rfl) (pe_op op_mod (pe_op op_mulB (pv 5) (pv 3)) (pv 0)))) pss_nil)) (pss_cons (ps_set (i := 3) nd rfl (Or.inl rfl) (pe_op op_mod (pe_op op_mulB (pv 3) (pv 3)) (pv 0))) (pss_one (ps_aug (i := 4) nd rfl (Or.inl rfl) pe_int (ip_of iop_divB)))))) (pss_one (ps_ret (pv 5))))))))), ?_⟩
  show tSeq _ _ _ [some (.int n), some (.int a), some (.int e), none, none, none] H
  k_data
  refine ⟨hn, fun σ' H' => Same H H' ∧ ∃ b : Int, σ' = [some (.int n), some (.int a), some (.int e), some (.int b), none, none] ∧ 0 ≤ b ∧ b < n ∧ Q (.int (b ^ e.natAbs % n)) H', ?_, ?_⟩
  · k_data
    refine ite2 (fun c => ?_) (fun c => ?_)
    · refine ⟨n, a, rfl, hn, by omega, fun g G => ⟨fun e1 r H' r0 r1 r2 hs => ?_, fun g1 x dx H' hs hx hX hd => ?_⟩⟩
      · have := (q2 c g G).1 e1 r H' r0 r1 r2 hs
        rw [show (-e).toNat = e.natAbs by omega] at this
        exact ⟨hs, r, rfl, r0, r1, this⟩
      · exact (q2 c g G).2 g1 x dx H' hs hx hX hd
    · have := q1 (by omega) H (Same.refl _)
      rw [show e.toNat = e.natAbs by omega, ← Pw.pow_emod] at this
      exact ⟨Same.refl _, Int.emod_nonneg _ (by omega), Int.emod_lt_of_pos _ hn, this⟩
  · rintro σ' H' ⟨hs, b, rfl, hb0, hb1, q⟩
    k_data
    refine ⟨hn, ?_⟩
    have ee : (if e < 0 then -e else e) = (e.natAbs : Int) := by split <;> omega
    rw [ee]
    refine while_st (α := Int × Nat × Int) (fun x => [some (.int n), some (.int a), some (.int e), some (.int x.1), some (.int x.2.1), some (.int x.2.2)]) (fun x H1 => H1 = H' ∧ 0 ≤ x.1 ∧ x.1 < n ∧ 0 ≤ x.2.2 ∧ x.2.2 < n ∧ x.2.2 * x.1 ^ x.2.1 % n = b ^ e.natAbs % n) (fun x => x.2.1) (b, e.natAbs, 1 % n) rfl ⟨rfl, hb0, hb1, Int.emod_nonneg _ (by omega), Int.emod_lt_of_pos _ hn, ?_⟩ ?_
    · show 1 % n * b ^ e.natAbs % n = _
      rw [Pw.mul_l, Int.one_mul]
    rintro ⟨b', l, r⟩ H1 ⟨rfl, h1, h2, h3, h4, h5⟩
    replace h1 : 0 ≤ b' := h1
    replace h2 : b' < n := h2
    replace h3 : 0 ≤ r := h3
    replace h4 : r < n := h4
    replace h5 : r * b' ^ l % n = b ^ e.natAbs % n := h5
    k_data
    refine ite2 (fun c => ?_) (fun c => ?_)
    · refine ⟨_, fun _ _ z => z, fun σ' H2 => H2 = H1 ∧ σ' = [some (.int n), some (.int a), some (.int e), some (.int b'), some (.int l), some (.int (if l % 2 = 1 then r * b' % n else r))], ?_, ?_⟩
      · k_data
        refine ite2 (fun c => ?_) (fun c => ?_)
        · exact ⟨Bd.of (by omega) (by omega), Bd.of (by omega) (by omega), hn, by rw [if_pos (by omega)]⟩
        · rw [if_neg (by omega)]
      rintro σ' H2 ⟨rfl, rfl⟩
      k_data
      have r0 : 0 ≤ (if l % 2 = 1 then r * b' % n else r) ∧ (if l % 2 = 1 then r * b' % n else r) < n := by
        split
        · exact ⟨Int.emod_nonneg _ (by omega), Int.emod_lt_of_pos _ hn⟩
        · exact ⟨h3, h4⟩
      refine ⟨Bd.of (by omega) (by omega), Bd.of (by omega) (by omega), hn, bdl (by decide), (b' * b' % n, l / 2, if l % 2 = 1 then r * b' % n else r), rfl, (by show (l : Int) / 2 = ((l / 2 : Nat) : Int); omega), rfl, Int.emod_nonneg _ (by omega), Int.emod_lt_of_pos _ hn, r0.1, r0.2, ?_, ?_⟩
      · show (if l % 2 = 1 then r * b' % n else r) * (b' * b' % n) ^ (l / 2) % n = _
        rw [Pw.step]
        exact h5
      · show l / 2 < l
        omega
    · have l0 : l = 0 := by omega
      subst l0
      rw [Int.pow_zero, Int.mul_one] at h5
      have h6 : r % n = r := Int.emod_eq_of_lt h3 h4
      rw [← h5, h6] at q
      exact q
end
end K
set_option Elab.async false
set_option linter.all false
set_option maxRecDepth 100000
set_option maxHeartbeats 8000000
namespace K
open PySem PySem.Spec PyProof.Rows L2
section
variable {P : Program} {w : World} {K : PySem.W.Frag} {mg : Str → Option Value} {base : Heap}
def spFrom : Sp := fun vs H Q _ => ∃ n k : Int, vs = [.int n, .int k] ∧ 2 ≤ n ∧ n ≤ 10 ^ 120 ∧ k ≤ 10 ^ 120 ∧ Ld.Inv n k ∧ ∀ r, Ld.Least n r → Q (.int r) H
theorem sc_least_divisor_from : FnScope [("n" : Str), ("start" : Str), ("number" : Str)] [("n" : Str), ("start" : Str)] (defScope (top 27)) := ⟨rfl, rfl, rfl, by decide +kernel, rfl, by decide +kernel, by decide +kernel⟩
theorem ok_from (D : DefAt K mg "least_divisor_from" (top 27)) : Callee P w K mg base CX0 1 "least_divisor_from" [("n" : Str), ("start" : Str)] spFrom := by
  refine callee_of D (fun _ _ _ _ _ _ us hl => match us, hl with | [_, _], _ => rfl) sc_least_divisor_from (fun vs H Q E h => by obtain ⟨a, b, rfl, _⟩ := h; rfl) (fun f cdv A outer s H vs Q E hr h => ?_)
  obtain ⟨n, k, rfl, hn, hn1, hk1, hk, q⟩ := h
  have nd := sc_least_divisor_from.nd
  refine ⟨_, (pss_cons (ps_set (i := 2) nd rfl (Or.inl rfl) (pv 1)) (pss_cons (ps_while PassesOwn.never (pt_cmpR op_le (pe_op op_mulB (pv 2) (pv 2)) (pv 0) (nomark _)) (pss_cons (ps_if (pt_cmpR op_eq (pe_op op_mod (pv 0) (pv 2)) pe_int (nomark _)) (pss_one (ps_ret (pv 2))) pss_nil) (pss_one (ps_aug (i := 2) nd rfl (Or.inl rfl) (pe_ifExp (pt_cmpR op_eq (pv 2) pe_int (nomark _)) pe_int pe_int) (ip_of iop_add))))) (pss_one (ps_ret (pv 0))))), ?_⟩
  show tSeq _ _ _ [some (.int n), some (.int k), none] H
  k_data
  refine while_st (α := Int) (fun x => [some (.int n), some (.int k), some (.int x)]) (fun x H1 => H1 = H ∧ Ld.Inv n x ∧ x ≤ 10 ^ 120 + 2) (fun x => (n + 2 - x).toNat) k rfl ⟨rfl, hk, by omega⟩ ?_
  rintro x H1 ⟨rfl, hx, hx1⟩
  have x2 := hx.two
  k_data
  refine ⟨Bd.of (by omega) (by omega), Bd.of (by omega) (by omega), ?_⟩
  refine ite2 (fun c => ?_) (fun c => ?_)
  · have xn : x ≤ n := by
      have := Int.mul_le_mul_of_nonneg_left (show 1 ≤ x by omega) (show 0 ≤ x by omega)
      omega
    have st := fun z => hx.step (k := x) z
    refine ⟨fun σ' H' => H' = H1 ∧ ∃ y, y = (x + if x = 2 then 1 else 2) ∧ ¬ x ∣ n ∧ σ' = [some (V.int n), some (V.int k), some (V.int y)], ?_, by omega, ?_⟩
    · rintro σ' H' ⟨rfl, y, hy, nd', rfl⟩
      refine ⟨y, rfl, rfl, by rw [hy]; exact st nd', ?_, ?_⟩
      · split at hy <;> omega
      · split at hy <;> omega
    refine ite2 (fun c2 => ?_) (fun c2 => ?_)
    · exact q x (hx.found (Int.dvd_of_emod_eq_zero c2))
    have nd' : ¬ x ∣ n := fun z => c2 (Int.emod_eq_zero_of_dvd z)
    refine ite2 (fun c3 => ?_) (fun c3 => ?_)
    · exact ⟨rfl, _, by rw [if_pos c3], nd', rfl⟩
    · exact ⟨rfl, _, by rw [if_neg c3], nd', rfl⟩
  · exact q n (hx.done hn (by omega))
def spLeast (c1 c2 : Addr) : Sp := fun vs H Q E => ∃ n : Int, vs = [.int n] ∧ (n < 2 → EX0 c1 H E) ∧ (10 ^ 9 < n → EX1 c2 "part" (.int n) H E) ∧ (2 ≤ n → n ≤ 10 ^ 9 → ∀ r, Ld.Least n r → Q (.int r) H)
theorem sc_least_divisor : FnScope [("n" : Str)] [("n" : Str)] (defScope (top 26)) := ⟨rfl, rfl, rfl, by decide +kernel, rfl, by decide +kernel, by decide +kernel⟩
theorem ok_least {c1 c2 : Addr} (D : DefAt K mg "least_divisor" (top 26)) (c_least_divisor_from : Callee P w K mg base CX0 1 "least_divisor_from" ["n", "start"] spFrom) (x_NoNumber : XCl0 K mg "NoNumber" c1) (x_TooFar : XCl1 P w K mg base "TooFar" c2 "part")
    (g_GREATEST : ∃ t, mg "GREATEST" = some (.int 1000000000 t)) : Callee P w K mg base (CXE P w) 3 "least_divisor" [("n" : Str)] (spLeast c1 c2) := by
  refine calleeX_of D (fun _ _ _ _ _ _ us hl => match us, hl with | [_], _ => rfl) sc_least_divisor (fun vs H Q E h => by obtain ⟨a, rfl, _⟩ := h; rfl) (fun f cdv A outer s H vs Q E hr h => ?_)
  obtain ⟨n, rfl, q1, q2, q3⟩ := h
  obtain ⟨tk, g_GREATEST⟩ := g_GREATEST
  have nd := sc_least_divisor.nd
  refine ⟨_, (pss_cons (ps_if (pt_cmpR op_lt (pv 0) pe_int (nomark _)) (pss_one (ps_raise (pe_xm0 x_NoNumber rfl))) pss_nil) (pss_cons (ps_if (pt_cmpR op_gt (pv 0) (pe_glob (v := .int 1000000000) rfl g_GREATEST ⟨_, rfl⟩) (nomark _)) (pss_one (ps_raise (pe_xm1 x_TooFar (hr.mono (by decide)) rfl (pa_cons (pv 0) pa_nil)))) pss_nil) (PSs.nox (pss_one (ps_ret (pe_callC c_least_divisor_from (hr.mono (by decide)) rfl pass0 (pa_cons (pv 0) (pa_cons pe_int pa_nil)))))))), ?_⟩
  show tSeq _ _ _ [some (.int n)] H
  k_data
  refine ite2 (fun c => ?_) (fun c => ?_)
  · exact fun x hx => ex0_raise x_NoNumber.cls (Same.refl _) hx (q1 c)
  refine ite2 (fun c' => ?_) (fun c' => ?_)
  · exact fun x dx hx hdx ne => ex1_raise x_TooFar.cls (Same.refl _) hx hdx ne (q2 (by omega))
  exact ⟨n, 2, rfl, by omega, by omega, by omega, ⟨by omega, .inl rfl, fun d d0 d1 => by omega⟩, q3 (by omega) (by omega)⟩
end
end K
set_option Elab.async false
set_option linter.all false
set_option maxRecDepth 100000
set_option maxHeartbeats 8000000
namespace K
open PySem PySem.Spec PyProof.Rows L2
section
variable {P : Program} {w : World} {K : PySem.W.Frag} {mg : Str → Option Value} {base : Heap}
def plD (p : Int × Int) : PyData := .tuple [.int p.1, .int p.2]
def spParted (K : PySem.W.Frag) (c1 c2 : Addr) : Sp := fun vs H Q E => ∃ n : Int, vs = [.int n] ∧ (n < 1 → EX0 c1 H E) ∧ (10 ^ 9 < n → EX1 c2 "part" (.int n) H E) ∧ (1 ≤ n → n ≤ 10 ^ 9 → ∀ ps us p H', Num.Part n ps → ps.length ≤ 29 → Same H H' → H p = none → H' p = some (.lst us) → dvs K H' (ps.map plD) us → Q (.ref p) H')
theorem sc_parted : FnScope [("n" : Str), ("parting" : Str), ("left" : Str), ("prime" : Str), ("many" : Str)] [("n" : Str)] (defScope (top 28)) := ⟨rfl, rfl, rfl, by decide +kernel, rfl, by decide +kernel, by decide +kernel⟩
theorem ok_parted {c1 c2 : Addr} (D : DefAt K mg "parted" (top 28)) (c_least_divisor_from : Callee P w K mg base CX0 1 "least_divisor_from" ["n", "start"] spFrom) (x_NoNumber : XCl0 K mg "NoNumber" c1) (x_TooFar : XCl1 P w K mg base "TooFar" c2 "part")
    (g_GREATEST : ∃ t, mg "GREATEST" = some (.int 1000000000 t)) : Callee P w K mg base (CXE P w) 3 "parted" [("n" : Str)] (spParted K c1 c2) := by
  refine calleeX_of D (fun _ _ _ _ _ _ us hl => match us, hl with | [_], _ => rfl) sc_parted (fun vs H Q E h => by obtain ⟨a, rfl, _⟩ := h; rfl) (fun f cdv A outer s H vs Q E hr h => ?_)
  obtain ⟨n, rfl, q1, q2, q3⟩ := h
  obtain ⟨tk, g_GREATEST⟩ := g_GREATEST
  have nd := sc_parted.nd
  refine ⟨_, (pss_cons (ps_if (pt_cmpR op_lt (pv 0) pe_int (nomark _)) (pss_one (ps_raise (pe_xm0 x_NoNumber rfl))) pss_nil) (pss_cons (ps_if (pt_cmpR op_gt (pv 0) (pe_glob (v := .int 1000000000) rfl g_GREATEST ⟨_, rfl⟩) (nomark _)) (pss_one (ps_raise (pe_xm1 x_TooFar (hr.mono (by decide)) rfl (pa_cons (pv 0) pa_nil)))) pss_nil) (PSs.nox (pss_cons (ps_set (i := 1) nd rfl (Or.inl rfl) (pe_lst pa_nil)) (pss_cons (ps_set (i := 2) nd rfl (Or.inl rfl) (pv 0)) (pss_cons (ps_set (i := 3) nd rfl (Or.inl rfl) pe_int) (pss_cons (ps_while PassesOwn.never (pt_cmpR op_gt (pv 2) pe_int (nomark _)) (pss_cons (ps_set (i := 3) nd rfl (Or.inl rfl) (pe_callC c_least_divisor_from (hr.mono (by decide)) rfl pass0 (pa_cons (pv 2) (pa_cons (pv 3) pa_nil)))) (pss_cons (ps_set (i := 4) nd rfl (Or.inl rfl) pe_int) (pss_cons (ps_while PassesOwn.never (pt_cmpR op_eq (pe_op op_mod (pv 2) (pv 3)) pe_int (nomark _)) (pss_cons (ps_aug (i := 2) nd rfl (Or.inl rfl) (pv 3) (ip_of iop_divB)) (pss_one (ps_aug (i := 4) nd rfl (Or.inl rfl) pe_int (ip_of iop_add))))) (pss_one (ps_expr (pe_bm PySem.F.plainAttrs_list PySem.F.slot_list_append PySem.F.type_list_append mt_append (pv 1) (pa_cons (pe_tup (pa_cons (pv 3) (pa_cons (pv 4) pa_nil))) pa_nil)))))))) (pss_one (ps_ret (pv 1)))))))))), ?_⟩
  show tSeq _ _ _ [some (.int n), none, none, none, none] H
  k_data
  refine ite2 (fun c => ?_) (fun c => ?_)
  · exact fun x hx => ex0_raise x_NoNumber.cls (Same.refl _) hx (q1 c)
  refine ite2 (fun c' => ?_) (fun c' => ?_)
  · exact fun x dx hx hdx ne => ex1_raise x_TooFar.cls (Same.refl _) hx hdx ne (q2 (by omega))
  refine ⟨by decide, fun pp hpp => ?_⟩
  have n1 : n ≤ 10 ^ 9 := by omega
  refine while_st (α := Int × Int × Option V) (fun x => [some (.int n), some (.ref pp), some (.int x.1), some (.int x.2.1), x.2.2]) (fun x H1 => Same H H1 ∧ ∃ (ps : List (Int × Int)) (us : List V), H1 pp = some (.lst us) ∧ dvs K H1 (ps.map plD) us ∧ Num.Way n ps x.1 x.2.1) (fun x => x.1.toNat) (n, 2, none) rfl ⟨same_upd hpp, [], [], upd_same, rfl, .start (by omega)⟩ ?_
  rintro ⟨left, prime, o⟩ H1 ⟨hs, ps, us, epp, hd, W⟩
  replace W : Num.Way n ps left prime := W
  have l1 := W.pos
  have ln : left ≤ n := by
    have z := W.two
    have p0 := Num.pow_pos' (show (0 : Int) < 2 by decide) ps.length
    have := Int.mul_le_mul_of_nonneg_right (show (1 : Int) ≤ 2 ^ ps.length by omega) (show 0 ≤ left by omega)
    omega
  k_data
  refine ite2 (fun c3 => ?_) (fun c3 => ?_)
  · have pl : prime ≤ 10 ^ 120 := by
      rcases (by omega : prime ≤ left ∨ left < prime) with z | z
      · omega
      · exact absurd (Int.dvd_refl left) (W.inv.no left (by omega) z)
    refine ⟨_, fun _ _ z => z, left, prime, rfl, by omega, by omega, pl, W.inv, fun r hL => ?_⟩
    have r2 := hL.two
    have rl := hL.le (by omega)
    refine while_st (α := Int × Nat) (fun x => [some (.int n), some (.ref pp), some (.int x.1), some (.int r), some (.int (x.2 : Int))]) (fun x H2 => H2 = H1 ∧ left = r ^ x.2 * x.1 ∧ 1 ≤ x.1 ∧ x.1 ≤ left) (fun x => x.1.toNat) (left, 0) rfl ⟨rfl, by rw [Int.pow_zero, Int.one_mul], by omega, Int.le_refl _⟩ ?_
    rintro ⟨lf, k⟩ H2 ⟨rfl, e1, e2, e3⟩
    replace e1 : left = r ^ k * lf := e1
    replace e2 : 1 ≤ lf := e2
    replace e3 : lf ≤ left := e3
    k_data
    refine ⟨by omega, ?_⟩
    refine ite2 (fun c4 => ?_) (fun c4 => ?_)
    · obtain ⟨q, hq⟩ := Int.dvd_of_emod_eq_zero c4
      have ed : lf / r = q := by rw [hq]; exact Int.mul_ediv_cancel_left _ (by omega)
      have q1' : 1 ≤ q := by
        rcases (by omega : q ≤ 0 ∨ 1 ≤ q) with z | z
        · have := Int.mul_nonpos_of_nonneg_of_nonpos (show 0 ≤ r by omega) z
          omega
        · exact z
      have ql : q < lf := by
        rw [hq]
        have := Int.mul_le_mul_of_nonneg_right r2 (show 0 ≤ q by omega)
        omega
      refine ⟨_, fun _ _ z => z, by omega, Bd.of (by omega) (by omega), (q, k + 1), ?_, rfl, ?_, q1', ?_, ?_⟩
      · rw [ed]; rfl
      · rw [e1, hq, Int.pow_succ, Int.mul_assoc]
      · show q ≤ left
        omega
      · show q.toNat < lf.toNat
        omega
    · have ng : ¬ r ∣ lf := fun z => c4 (Int.emod_eq_zero_of_dvd z)
      have k1 : 1 ≤ k := by
        cases k with
        | zero => rw [Int.pow_zero, Int.one_mul] at e1; exact absurd (e1 ▸ hL.dv) ng
        | succ k => omega
      have W2 := W.step n1 c3 hL e1 e2 k1 ng
      have len := W.len n1
      have ul : us.length = ps.length := by rw [hd.length, List.length_map]
      have lt : lf < left := by
        obtain ⟨k', rfl⟩ : ∃ k', k = k' + 1 := ⟨k - 1, by omega⟩
        have p0 := Num.pow_pos' (show 0 < r by omega) k'
        have h1 : r ≤ r ^ (k' + 1) := by
          rw [Int.pow_succ]
          have := Int.mul_le_mul_of_nonneg_right (show 1 ≤ r ^ k' by omega) (show 0 ≤ r by omega)
          omega
        have := Int.mul_le_mul_of_nonneg_right (show 2 ≤ r ^ (k' + 1) by omega) (show 0 ≤ lf by omega)
        omega
      refine ⟨.inl ⟨rfl, _, SqL.of epp⟩, by show 2 ≤ sizeLine; decide, fun pt hpt => ?_⟩
      have s2 := same_upd (o := .tup [V.int r, V.int (k : Int)]) hpt
      have npt : pp ≠ pt := fun z => by rw [← z, epp] at hpt; cases hpt
      have el := s2 _ _ epp
      have et : upd H2 pt (.tup [V.int r, V.int (k : Int)]) pt = some (.tup [V.int r, V.int (k : Int)]) := upd_same
      have hd2 := dvs.same s2 _ hd
      have S2 := hs.trans s2
      generalize upd H2 pt _ = H3 at *
      refine ⟨pp, us, .ref pt, rfl, rfl, el, Nat.lt_of_le_of_lt (show us.length ≤ 29 by omega) (by decide), (lf, r, some (.int (k : Int))), rfl, rfl, rfl, S2.upd hpp, ⟨ps ++ [(r, (k : Int))], us ++ [.ref pt], upd_same, ?_, W2⟩, ?_⟩
      · rw [List.map_append]
        refine dvs.append (dvs.but el (fun b o ne h => by rw [upd_ne ne]; exact h) _ (noLs_map (fun _ => rfl) ps) hd2) (.one (dv.tup (xs := [V.int r, V.int (k : Int)]) ?_ ⟨_, _, rfl, rfl, .one rfl⟩))
        rw [upd_ne (Ne.symm npt)]
        exact et
      · show lf.toNat < left.toNat
        omega
  · have z : left = 1 := by omega
    subst z
    exact q3 (by omega) n1 ps us pp H1 W.done (W.len n1) hs hpp epp hd
end
end K
set_option Elab.async false
set_option linter.all false
set_option maxRecDepth 100000
set_option maxHeartbeats 8000000
namespace L2
open PySem PySem.Spec PyProof.Rows
theorem ix_tupK {X : Cx} (K : PySem.W.Frag) (h : X.K = K) : IxR X (rIxT K) := h ▸ ix_tup
theorem pg_tupK {X : Cx} {pos : Pos} {es : List Expr} {k : Nat} {t : TGs} {n : Nat} (K : PySem.W.Frag) (e : X.K = K) (hc : X.calm = true) (h : PGs X es t)
    (hn : (assignEach es X.env).length = n := by rfl) (hst : (assignEach es X.env).findIdx? (·.1) = none := by rfl) : PG X (.Tuple es k pos) (gTup K n t) := e ▸ pg_tup hc h hn hst
end L2
namespace K
open PySem PySem.Spec PyProof.Rows L2
section
variable {P : Program} {w : World} {K : PySem.W.Frag} {mg : Str → Option Value} {base : Heap}
theorem pass_never {X : Cx} : Passes (CXE P w) X E0 := by
  intro pins σ H1 s1 e s' I hq
  obtain ⟨x, C, T, dd, H', _, _, _, _, _, _, _, _, _, _, z⟩ := hq
  exact z.elim
theorem ix_t {H : Hp} {q : Addr} {xs : List V} {k : Int} {v : V} {Q : VK} (t : SqT K H q xs) (e : atI xs k = some v) (h : Q v H) : rIxT K (.ref q) (.int k) H Q := ⟨q, xs, k, v, rfl, rfl, t, e, h⟩
theorem at0 {x : V} {r : List V} : atI (x :: r) 0 = some x := by
  unfold atI ixN
  simp
def hdQ (row : PyData) (q : Int) : Prop := ∃ ds es, row = .tuple (.tuple (.int q :: ds) :: es)
def Hds (rows : List PyData) (qs : List Int) : Prop := rows.length = qs.length ∧ ∀ (i : Nat) (row : PyData), rows[i]? = some row → ∃ q, qs[i]? = some q ∧ hdQ row q
def spPrimesIn (K : PySem.W.Frag) : Sp := fun vs H Q _ => ∃ v rows qs, vs = [v] ∧ dv K H (.tuple rows) v ∧ Hds rows qs ∧ rows.length ≤ 10 ^ 7 ∧ ∀ p H', Same H H' → H p = none → H' p = some (.lst (qs.map V.int)) → Q (.ref p) H'
theorem sc_primes_in : FnScope [("parts" : Str)] [("parts" : Str)] (defScope (top 12)) := ⟨rfl, rfl, rfl, by decide +kernel, rfl, by decide +kernel, by decide +kernel⟩
theorem ok_primesIn (D : DefAt K mg "primes_in" (top 12)) : Callee P w K mg base CX0 1 "primes_in" [("parts" : Str)] (spPrimesIn K) := by
  refine callee_of D (fun _ _ _ _ _ _ us hl => match us, hl with | [_], _ => rfl) sc_primes_in (fun vs H Q E h => by obtain ⟨a, _, _, rfl, _⟩ := h; rfl) (fun f cdv A outer s H vs Q E hr h => ?_)
  obtain ⟨v, rows, qs, rfl, hd, ⟨hl, hq⟩, h6, q⟩ := h
  have nd := sc_primes_in.nd
  refine ⟨_, (pss_one (ps_ret (pe_lc rfl (compOk (N' := ["row"]) (js := [none]) rfl rfl (by decide +kernel) (by decide +kernel) (by repeat (first | exact True.intro | refine ⟨rfl, ?_⟩)) (by repeat (first | exact True.intro | refine ⟨rfl, ?_⟩ | refine ⟨True.intro, ?_⟩)) (by repeat (first | exact True.intro | refine ⟨⟨rfl, rfl, .inl rfl, .inl rfl⟩, ?_⟩))) (pi_tup (pv 0)) (fun _ _ _ _ => (pg_name (i := 0) (show List.Nodup [("row" : Str)] from by decide +kernel) rfl (Or.inl rfl) (.inr rfl))) (fun _ _ _ _ => pifs_nil) (fun _ _ _ _ => (pe_ix (ix_tupK K rfl) (pe_ix (ix_tupK K rfl) (pv 0) pe_int (fun _ _ => rfl)) pe_int (fun _ _ => rfl)))))), ?_⟩
  show tRet _ _ [some v] H
  obtain ⟨p, xs, rfl, hS, ht⟩ := hd
  k_data
  have xl := ht.length
  refine ⟨⟨_, hS⟩, ?_⟩
  refine cloop_tup (xs := xs) (fun i zs H3 => H3 = H ∧ zs = (qs.take i).map V.int) ⟨rfl, rfl⟩ (Nat.le_trans (by omega) (show 10 ^ 7 ≤ sizeLine by decide)) (fun i zs H3 hi ⟨e1, e2⟩ => ⟨by rw [e1]; exact hS, by rw [e2]; simp; omega⟩) ?_ ?_
  · rintro i x zs H3 hx ⟨rfl, rfl⟩
    obtain ⟨d, hd, hv⟩ := ht.get hx
    obtain ⟨q', hq', ds, es, rfl⟩ := hq i d hd
    obtain ⟨p1, x1, rfl, t1, u, r1, rfl, hv2, _⟩ := hv
    obtain ⟨p2, x2, rfl, t2, u', r2, rfl, hv3, _⟩ := hv2
    cases hv3
    show gName 0 _ [none] _ _
    k_data
    refine ⟨True.intro, ix_t t1 at0 (ix_t t2 at0 ⟨rfl, ?_⟩)⟩
    rw [List.take_add_one, hq', List.map_append]
    rfl
  · rintro zs H3 p3 ⟨rfl, rfl⟩ hp3
    rw [show xs.length = qs.length by omega, List.take_length]
    exact q p3 _ (same_upd hp3) hp3 upd_same
def Lst (n a e : Int) (qs : List Int) : Prop := a ^ e.toNat % n = 1 ∧ ∀ q ∈ qs, a ^ (e / q).toNat % n ≠ 1
def spIsLeast (K : PySem.W.Frag) : Sp := fun vs H Q _ => ∃ (n a e : Int) (p : Addr) (qs : List Int), vs = [.int n, .int a, .int e, .ref p] ∧ 0 < n ∧ n ≤ 10 ^ 120 ∧ 0 ≤ e ∧ e ≤ 10 ^ 120 ∧ SqL K H p (qs.map V.int) ∧ (∀ q ∈ qs, 0 < q ∧ q ≤ 10 ^ 120) ∧ qs.length ≤ 10 ^ 7 ∧ ∀ b H', (b = true ↔ Lst n a e qs) → Same H H' → Q (.bl b) H'
theorem sc_is_least : FnScope [("n" : Str), ("a" : Str), ("e" : Str), ("primes" : Str)] [("n" : Str), ("a" : Str), ("e" : Str), ("primes" : Str)] (defScope (top 15)) := ⟨rfl, rfl, rfl, by decide +kernel, rfl, by decide +kernel, by decide +kernel⟩
theorem ok_isLeast {C : Addr} (D : DefAt K mg "is_least" (top 15)) (c_power : Callee P w K mg base (CXE P w) 4 "power" ["n", "a", "e"] (spPower C)) (n_all : mg "all" = none) : Callee P w K mg base CX0 5 "is_least" [("n" : Str), ("a" : Str), ("e" : Str), ("primes" : Str)] (spIsLeast K) := by
  refine callee_of D (fun _ _ _ _ _ _ us hl => match us, hl with | [_, _, _, _], _ => rfl) sc_is_least (fun vs H Q E h => by obtain ⟨_, _, _, _, _, rfl, _⟩ := h; rfl) (fun f cdv A outer s H vs Q E hr h => ?_)
  obtain ⟨n, a, e, p, qs, rfl, hn, hn1, he, he1, hS, hq, hl, q⟩ := h
  have nd := sc_is_least.nd
  refine ⟨_, (pss_one (ps_ret (pe_and (pe_cmpR op_eq (pe_callC c_power (hr.mono (by decide)) rfl pass_never (pa_cons (pv 0) (pa_cons (pv 1) (pa_cons (pv 2) pa_nil)))) pe_int (nomark _)) (pe_one (pe_callB (call_all rfl) rfl n_all L2.boot_all (pa_cons (pe_lc rfl (compOk (N' := ["prime", "n", "a", "e"]) (js := [none, some 0, some 1, some 2]) rfl rfl (by decide +kernel) (by decide +kernel) (by repeat (first | exact True.intro | refine ⟨rfl, ?_⟩)) (by repeat (first | exact True.intro | refine ⟨rfl, ?_⟩ | refine ⟨True.intro, ?_⟩)) (by repeat (first | exact True.intro | refine ⟨⟨rfl, rfl, .inl rfl, .inl rfl⟩, ?_⟩))) (pi_list (pv 3)) (fun _ _ _ _ => (pg_name (i := 0) (show List.Nodup [("prime" : Str), ("n" : Str), ("a" : Str), ("e" : Str)] from by decide +kernel) rfl (Or.inl rfl) (.inr rfl))) (fun _ _ _ _ => pifs_nil) (fun _ _ _ _ => (pe_cmpR op_ne (pe_callC c_power (hr.mono (by decide)) rfl pass_never (pa_cons (pv 1) (pa_cons (pv 2) (pa_cons (pe_op op_divB (pv 3) (pv 0)) pa_nil)))) pe_int (nomark _)))) pa_nil)))))), ?_⟩
  show tRet _ _ [some (.int n), some (.int a), some (.int e), some (.ref p)] H
  k_data
  refine ⟨n, a, e, rfl, hn, hn1, fun _ H1 s1 => ?_, fun z => absurd z (by omega)⟩
  have hS1 := hS.same s1
  k_data
  refine ite2 (fun c => ?_) (fun c => ?_)
  · refine ⟨⟨_, hS1⟩, ?_⟩
    refine cloop_list (xs := qs.map V.int) (fun i zs H3 => Same H H3 ∧ zs = ((qs.take i).map fun q => decide (a ^ (e / q).toNat % n ≠ 1)).map V.bl) ⟨s1, rfl⟩ (by rw [List.length_map]; exact Nat.le_trans hl (show 10 ^ 7 ≤ sizeLine by decide)) (fun i zs H3 hi ⟨e1, e2⟩ => ⟨hS.same e1, by rw [e2]; simp; omega⟩) ?_ ?_
    · rintro i x zs H3 hx ⟨s3, rfl⟩
      rw [List.getElem?_map] at hx
      obtain ⟨y, hy, rfl⟩ := Option.map_eq_some_iff.mp hx
      have my := hq y (List.mem_of_getElem? hy)
      show gName 0 _ [none, some (.int n), some (.int a), some (.int e)] _ _
      k_data
      refine ⟨⟨rfl, rfl, rfl, True.intro⟩, my.1, Bd.of (by omega) (by omega), n, a, e / y, rfl, hn, hn1, fun _ H4 s4 => ⟨scal_ii, ?_⟩, fun z => absurd (Int.ediv_nonneg he (show 0 ≤ y by omega)) (by omega)⟩
      refine ⟨s3.trans s4, ?_⟩
      rw [List.take_add_one, hy, List.map_append, List.map_append]
      simp
    · rintro zs H3 p3 ⟨s3, rfl⟩ hp3
      rw [List.length_map, List.take_length]
      refine all_of (bs := qs.map fun q => decide (a ^ (e / q).toNat % n ≠ 1)) (SqL.of upd_same) ?_
      refine q _ _ ?_ (s3.trans (same_upd hp3))
      rw [List.all_eq_true]
      constructor
      · intro h
        refine ⟨c, fun y hy => ?_⟩
        have := h _ (List.mem_map.mpr ⟨y, hy, rfl⟩)
        simpa using this
      · intro h b hb
        obtain ⟨y, hy, rfl⟩ := List.mem_map.mp hb
        simpa using h.2 y hy
  · exact q false _ ⟨fun z => (by cases z), fun z => absurd z.1 c⟩ s1
theorem al_one {n x : Int} (hn : 2 ≤ n) : x % n = 1 ↔ Num.Al n x 1 := by
  constructor
  · intro h
    refine ⟨x / n, ?_⟩
    have := Int.emod_add_mul_ediv x n
    omega
  · rintro ⟨k, hk⟩
    rw [show x = 1 + n * k by omega, Int.add_mul_emod_self_left]
    exact Int.emod_eq_of_lt (by omega) (by omega)
theorem lst_ord {n a e : Int} {ps : List (Int × Int)} (hn : 2 ≤ n) (h : Num.Part e ps) (he : 1 ≤ e) : Lst n a e (ps.map (·.1)) ↔ Num.Ord n a e.toNat := by
  rw [← Num.part_ord h he]
  unfold Lst
  rw [al_one hn]
  constructor
  · exact fun ⟨h1, h2⟩ => ⟨h1, fun q hq z => h2 q hq ((al_one hn).mpr z)⟩
  · exact fun ⟨h1, h2⟩ => ⟨h1, fun q hq z => h2 q hq ((al_one hn).mp z)⟩
theorem least_ex (P : Int → Prop) {g : Int} (h1 : 1 ≤ g) (h : P g) : ∃ m, 1 ≤ m ∧ m ≤ g ∧ P m ∧ ∀ a, 1 ≤ a → a < m → ¬ P a := by
  have : ∀ (k : Nat) (g : Int), g.toNat = k → 1 ≤ g → P g → ∃ m, 1 ≤ m ∧ m ≤ g ∧ P m ∧ ∀ a, 1 ≤ a → a < m → ¬ P a := by
    intro k
    induction k using Nat.strongRecOn with
    | ind k ih =>
      intro g hk h1 hg
      by_cases c : ∃ a, 1 ≤ a ∧ a < g ∧ P a
      · obtain ⟨a, a1, a2, a3⟩ := c
        obtain ⟨m, m1, m2, m3, m4⟩ := ih a.toNat (by omega) a rfl a1 a3
        exact ⟨m, m1, by omega, m3, m4⟩
      · exact ⟨g, h1, Int.le_refl _, hg, fun a a1 a2 a3 => c ⟨a, a1, a2, a3⟩⟩
  exact this _ g rfl h1 h
theorem lf_ex {p : Int} (hp : Num.Pm p) : ∃ g, Num.LF p g := by
  obtain ⟨g, g1, g2, g3⟩ := Num.full_ex hp
  obtain ⟨m, m1, m2, m3, m4⟩ := least_ex (fun a => Num.Ord p a (p - 1).toNat) g1 g3
  exact ⟨m, m1, by omega, m3, m4⟩
def spLeastFull (K : PySem.W.Frag) : Sp := fun vs H Q _ => ∃ (n : Int) (p : Addr) (ps : List (Int × Int)), vs = [.int n, .ref p] ∧ Num.Pm n ∧ n ≤ 10 ^ 9 ∧ Num.Part (n - 1) ps ∧ ps.length ≤ 29 ∧ SqL K H p (ps.map fun x => V.int x.1) ∧ ∀ g H', Num.LF n g → Same H H' → Q (.int g) H'
theorem part_le {n : Int} {ps : List (Int × Int)} (h : Num.Part n ps) (hn : 1 ≤ n) : ∀ q ∈ ps.map (·.1), 2 ≤ q ∧ q ≤ n := fun q hq => by
  obtain ⟨x, hx, rfl⟩ := List.mem_map.mp hq
  obtain ⟨o1, o2, _⟩ := h.ok x hx
  have := Num.dvd_part hx o2
  rw [h.prod] at this
  exact ⟨o1.two, Int.le_of_dvd (by omega) this⟩
theorem sc_least_full : FnScope [("p" : Str), ("primes" : Str), ("full" : Str)] [("p" : Str), ("primes" : Str)] (defScope (top 32)) := ⟨rfl, rfl, rfl, by decide +kernel, rfl, by decide +kernel, by decide +kernel⟩
theorem ok_leastFull (D : DefAt K mg "least_full" (top 32)) (c_is_least : Callee P w K mg base CX0 5 "is_least" ["n", "a", "e", "primes"] (spIsLeast K)) : Callee P w K mg base CX0 6 "least_full" [("p" : Str), ("primes" : Str)] (spLeastFull K) := by
  refine callee_of D (fun _ _ _ _ _ _ us hl => match us, hl with | [_, _], _ => rfl) sc_least_full (fun vs H Q E h => by obtain ⟨_, _, _, rfl, _⟩ := h; rfl) (fun f cdv A outer s H vs Q E hr h => ?_)
  obtain ⟨n, p, ps, rfl, hp, hn, hP, hl, hS, q⟩ := h
  have n2 := hp.two
  obtain ⟨g, G⟩ := lf_ex hp
  have g1 := G.one
  have g2 := G.lt
  have nd := sc_least_full.nd
  refine ⟨_, (pss_cons (ps_set (i := 2) nd rfl (Or.inl rfl) pe_int) (pss_cons (ps_while PassesOwn.never (pt_not (pt_truth (pe_callC c_is_least (hr.mono (by decide)) rfl pass0 (pa_cons (pv 0) (pa_cons (pv 2) (pa_cons (pe_op op_sub (pv 0) pe_int) (pa_cons (pv 1) pa_nil))))) (fun _ => rfl))) (pss_one (ps_aug (i := 2) nd rfl (Or.inl rfl) pe_int (ip_of iop_add)))) (pss_one (ps_ret (pv 2))))), ?_⟩
  show tSeq _ _ _ [some (.int n), some (.ref p), none] H
  k_data
  refine while_st (α := Int) (fun x => [some (.int n), some (.ref p), some (.int x)]) (fun x H1 => Same H H1 ∧ 1 ≤ x ∧ x ≤ g) (fun x => (g - x).toNat) 1 rfl ⟨Same.refl _, Int.le_refl _, g1⟩ ?_
  rintro x H1 ⟨s1, x1, x2⟩
  replace x1 : 1 ≤ x := x1
  replace x2 : x ≤ g := x2
  k_data
  refine ⟨n, x, n - 1, p, ps.map (·.1), rfl, by omega, by omega, by omega, by omega, ?_, fun y hy => ?_, ?_, fun b H2 hb s2 => ?_⟩
  · rw [List.map_map]; exact hS.same s1
  · have := part_le hP (by omega) y hy
    omega
  · rw [List.length_map]; exact Nat.le_trans hl (by decide)
  rw [lst_ord n2 hP (by omega)] at hb
  refine ⟨b, truV_bl.mpr rfl, ?_⟩
  cases b
  · have nx : ¬ Num.Ord n x (n - 1).toNat := fun z => by have := hb.mpr z; cases this
    have ne : x ≠ g := fun z => nx (z ▸ G.ord)
    refine ⟨_, fun _ _ z => z, x + 1, rfl, s1.trans s2, by omega, by omega, by omega⟩
  · have hx := hb.mp rfl
    have xg : x = g := by
      rcases (by omega : x = g ∨ x < g) with z | z
      · exact z
      · exact absurd hx (G.no x x1 z)
    rw [xg]
    exact q g H2 G (s1.trans s2)
end
end K
set_option Elab.async false
set_option linter.all false
set_option maxRecDepth 100000
set_option maxHeartbeats 8000000
namespace K
open PySem PySem.Spec PyProof.Rows L2
section
variable {P : Program} {w : World} {K : PySem.W.Frag} {mg : Str → Option Value} {base : Heap}
theorem rowsOf_snoc {ps : List (Int × Int)} {p : Int × Int} {ds ds' : Nat → PyData} (h : ∀ j, j < ps.length → ds' j = ds j) : Num.rowsOf (ps ++ [p]) ds' = Num.rowsOf ps ds ++ [.tuple [ds' ps.length, .int p.2]] := by
  unfold Num.rowsOf
  rw [List.length_append, List.length_singleton, List.range_succ, List.map_append]
  congr 1
  · refine List.map_congr_left fun j hj => ?_
    have := List.mem_range.mp hj
    rw [h j this, List.getD_eq_getElem?_getD, List.getD_eq_getElem?_getD, List.getElem?_append_left this]
  · simp
theorem hds_rows {ps : List (Int × Int)} {ds : Nat → PyData} (h : ∀ i q k, ps[i]? = some (q, k) → Num.Pap q (ds i)) : Hds (Num.rowsOf ps ds) (ps.map (·.1)) := by
  refine ⟨by rw [Num.rowsOf_len, List.length_map], fun i row hi => ?_⟩
  have hl := (List.getElem?_eq_some_iff.mp hi).1
  rw [Num.rowsOf_len] at hl
  have hg := List.getElem?_eq_getElem hl
  rw [Num.rowsOf_get hg] at hi
  obtain ⟨g, rows, e⟩ := (h i _ _ hg).head
  exact ⟨ps[i].1, by rw [List.getElem?_map, hg]; rfl, [.int g, .tuple rows], [.int ps[i].2], by rw [← Option.some.inj hi, e]; rfl⟩
theorem dv_plD {H : Hp} {q k : Int} {v : V} (h : dv K H (plD (q, k)) v) : ∃ p, v = .ref p ∧ SqT K H p [.int q, .int k] := by
  obtain ⟨p, xs, rfl, h1, x, r, rfl, d1, y, r', rfl, d2, h4⟩ := h
  cases h4
  cases d1
  cases d2
  exact ⟨p, rfl, h1⟩
def spPaper (K : PySem.W.Frag) (L : Nat) : Sp := fun vs H Q _ => ∃ n : Int, vs = [.int n] ∧ Num.Pm n ∧ n ≤ 10 ^ 9 ∧ Num.Ht L n ∧ ∀ d v H', Num.Pap n d → Same H H' → dv K H' d v → Q v H'
def spParting (K : PySem.W.Frag) (L : Nat) : Sp := fun vs H Q _ => ∃ n : Int, vs = [.int n] ∧ 1 ≤ n ∧ n ≤ 10 ^ 9 ∧ (∀ q, Num.Pm q → q ∣ n → Num.Ht L q) ∧ ∀ ps ds v H', Num.Part n ps → ps.length ≤ 29 → (∀ i q k, ps[i]? = some (q, k) → Num.Pap q (ds i)) → Same H H' → dv K H' (.tuple (Num.rowsOf ps ds)) v → Q v H'
theorem sc_prime_paper : FnScope [("n" : Str), ("least" : Str), ("parts" : Str)] [("n" : Str)] (defScope (top 30)) := ⟨rfl, rfl, rfl, by decide +kernel, rfl, by decide +kernel, by decide +kernel⟩
theorem ok_paperS {L : Nat} {c1 c2 c3 : Addr} (D : DefAt K mg "prime_paper" (top 30)) (c_least_divisor : Callee P w K mg base (CXE P w) 3 "least_divisor" ["n"] (spLeast c1 c2)) (c_parting_paper : Callee P w K mg base CX0 (2 * L + 8) "parting_paper" ["n"] (spParting K L)) (c_least_full : Callee P w K mg base CX0 6 "least_full" ["p", "primes"] (spLeastFull K)) (c_primes_in : Callee P w K mg base CX0 1 "primes_in" ["parts"] (spPrimesIn K)) (x_NoPrime : XCl1 P w K mg base "NoPrime" c3 "divisor") : Callee P w K mg base (CXE P w) (2 * L + 9) "prime_paper" [("n" : Str)] (spPaper K (L + 1)) := by
  refine calleeX_of D (fun _ _ _ _ _ _ us hl => match us, hl with | [_], _ => rfl) sc_prime_paper (fun vs H Q E h => by obtain ⟨_, rfl, _⟩ := h; rfl) (fun f cdv A outer s H vs Q E hr h => ?_)
  obtain ⟨n, rfl, hp, hn, hH, q⟩ := h
  have n2 := hp.two
  have nd := sc_prime_paper.nd
  refine ⟨_, (pss_cons (ps_set (i := 1) nd rfl (Or.inl rfl) (pe_callC c_least_divisor (hr.mono (by omega)) rfl pass_never (pa_cons (pv 0) pa_nil))) (pss_cons (ps_if (pt_cmpR op_lt (pv 1) (pv 0) (nomark _)) (pss_one (ps_raise (pe_xm1 x_NoPrime (hr.mono (by omega)) rfl (pa_cons (pv 1) pa_nil)))) pss_nil) (PSs.nox (pss_cons (ps_set (i := 2) nd rfl (Or.inl rfl) (pe_callC c_parting_paper (hr.mono (by omega)) rfl pass0 (pa_cons (pe_op op_sub (pv 0) pe_int) pa_nil))) (pss_one (ps_ret (pe_tup (pa_cons (pv 0) (pa_cons (pe_callC c_least_full (hr.mono (by omega)) rfl pass0 (pa_cons (pv 0) (pa_cons (pe_callC c_primes_in (hr.mono (by omega)) rfl pass0 (pa_cons (pv 2) pa_nil)) pa_nil))) (pa_cons (pv 2) pa_nil)))))))))), ?_⟩
  show tSeq _ _ _ [some (.int n), none, none] H
  k_data
  refine ⟨n, rfl, fun z => absurd z (by omega), fun z => absurd z (by omega), fun _ _ r hL => ⟨r, rfl, ?_⟩⟩
  have rn : r = n := by
    have := hL.le (by omega)
    rcases (by omega : r < n ∨ r = n) with z | z
    · exact absurd hL.dv (hp.no r hL.two z)
    · exact z
  rw [if_neg (by omega)]
  refine ⟨n - 1, rfl, by omega, by omega, hH, fun ps ds v H1 hP hl hds s1 hv => ?_⟩
  refine ⟨v, Num.rowsOf ps ds, ps.map (·.1), rfl, hv, hds_rows hds, by rw [Num.rowsOf_len]; exact Nat.le_trans hl (by decide), fun p H2 s2 f2 h2 => ?_⟩
  rw [List.map_map] at h2
  refine ⟨n, p, ps, rfl, hp, hn, hP, hl, SqL.of h2, fun g H3 hg s3 => ⟨by show 3 ≤ sizeLine; decide, fun p3 hp3 => ?_⟩⟩
  have s4 := same_upd (o := .tup [V.int n, V.int g, v]) hp3
  exact q _ _ _ (.mk n g ps ds hp hn hg hP hl hds) (((s1.trans s2).trans s3).trans s4) (dv.tup upd_same ⟨_, _, rfl, rfl, _, _, rfl, rfl, .one (dv.same ((s2.trans s3).trans s4) _ hv)⟩)
theorem sc_parting_paper : FnScope [("n" : Str)] [("n" : Str)] (defScope (top 31)) := ⟨rfl, rfl, rfl, by decide +kernel, rfl, by decide +kernel, by decide +kernel⟩
theorem ok_partingS {L : Nat} {c1 c2 : Addr} (D : DefAt K mg "parting_paper" (top 31)) (c_parted : Callee P w K mg base (CXE P w) 3 "parted" ["n"] (spParted K c1 c2)) (c_prime_paper : Callee P w K mg base (CXE P w) (2 * L + 7) "prime_paper" ["n"] (spPaper K L)) (n_tuple : mg "tuple" = none) : Callee P w K mg base CX0 (2 * L + 8) "parting_paper" [("n" : Str)] (spParting K L) := by
  refine callee_of D (fun _ _ _ _ _ _ us hl => match us, hl with | [_], _ => rfl) sc_parting_paper (fun vs H Q E h => by obtain ⟨_, rfl, _⟩ := h; rfl) (fun f cdv A outer s H vs Q E hr h => ?_)
  obtain ⟨n, rfl, n1, n9, hH, q⟩ := h
  have nd := sc_parting_paper.nd
  refine ⟨_, (pss_one (ps_ret (pe_callTy call_tuple_of rfl n_tuple L2.boot_tuple (pa_cons (pe_lc rfl (compOk (N' := ["prime", "many"]) (js := [none, none]) rfl rfl (by decide +kernel) (by decide +kernel) (by repeat (first | exact True.intro | refine ⟨rfl, ?_⟩)) (by repeat (first | exact True.intro | refine ⟨rfl, ?_⟩ | refine ⟨True.intro, ?_⟩)) (by repeat (first | exact True.intro | refine ⟨⟨rfl, rfl, .inl rfl, .inl rfl⟩, ?_⟩))) (pi_list (pe_callC c_parted (hr.mono (by omega)) rfl pass_never (pa_cons (pv 0) pa_nil))) (fun _ _ _ _ => (pg_tupK K rfl (n := 2) rfl (pgs_cons (pg_name (i := 0) (show List.Nodup [("prime" : Str), ("many" : Str)] from by decide +kernel) rfl (Or.inl rfl) (.inr rfl)) (pgs_cons (pg_name (i := 1) (show List.Nodup [("prime" : Str), ("many" : Str)] from by decide +kernel) rfl (Or.inl rfl) (.inr rfl)) pgs_nil)))) (fun _ _ _ _ => pifs_nil) (fun _ _ _ _ => (pe_tup (pa_cons (pe_callC c_prime_paper (hr.mono (by omega)) rfl pass_never (pa_cons (pv 0) pa_nil)) (pa_cons (pv 1) pa_nil))))) pa_nil)))), ?_⟩
  show tRet _ _ [some (.int n)] H
  k_data
  refine ⟨n, rfl, fun z => absurd z (by omega), fun z => absurd z (by omega), fun _ _ ps us p H1 hP hl s1 f1 h1 hd => ⟨p, rfl, ⟨_, SqL.of h1⟩, ?_⟩⟩
  have ul : us.length = ps.length := by rw [hd.length, List.length_map]
  refine cloop_list (xs := us) (fun i zs H3 => Same H1 H3 ∧ ∃ ds, (∀ j q k, (ps.take i)[j]? = some (q, k) → Num.Pap q (ds j)) ∧ dvs K H3 (Num.rowsOf (ps.take i) ds) zs) ⟨Same.refl _, fun _ => .none, fun j q k z => by simp at z, rfl⟩ (by rw [ul]; exact Nat.le_trans hl (by decide)) (fun i zs H3 hi ⟨e1, ds, e2, e3⟩ => ⟨SqL.of (e1 _ _ h1), by rw [e3.length, Num.rowsOf_len, List.length_take]; omega⟩) ?_ ?_
  · rintro i x zs H3 hx ⟨s3, ds, hds, hz⟩
    obtain ⟨d, hd', hv⟩ := hd.get hx
    rw [List.getElem?_map] at hd'
    obtain ⟨⟨q', k'⟩, hy, rfl⟩ := Option.map_eq_some_iff.mp hd'
    obtain ⟨pt, rfl, tt⟩ := dv_plD hv
    have hok := hP.ok _ (List.mem_of_getElem? hy)
    have hdv : q' ∣ n := by
      have := Num.dvd_part (List.mem_of_getElem? hy) hok.2.1
      rwa [hP.prod] at this
    have ql : q' ≤ n := Int.le_of_dvd (by omega) hdv
    show gTup K 2 _ _ [none, none] _ _
    refine ⟨pt, _, rfl, tt.same s3, rfl, ?_⟩
    k_data
    refine ⟨True.intro, q', rfl, hok.1, by omega, hH q' hok.1 hdv, fun d v H4 hp4 s4 hv4 => ⟨by show 2 ≤ sizeLine; decide, fun p5 hp5 => ?_⟩⟩
    have s5 := same_upd (o := .tup [v, V.int k']) hp5
    have tk : ps.take (i + 1) = ps.take i ++ [(q', k')] := by rw [List.take_add_one, hy]; rfl
    have il : i < ps.length := (List.getElem?_eq_some_iff.mp hy).1
    have tl : (ps.take i).length = i := by rw [List.length_take]; omega
    refine ⟨(s3.trans s4).trans s5, fun j => if j = i then d else ds j, fun j q k hj => ?_, ?_⟩
    · rw [tk] at hj
      rcases (by omega : j < i ∨ j = i ∨ i < j) with z | z | z
      · rw [List.getElem?_append_left (by omega)] at hj
        show Num.Pap q (if j = i then d else ds j)
        rw [if_neg (by omega)]
        exact hds j q k hj
      · subst z
        rw [List.getElem?_append_right (by omega), tl, Nat.sub_self] at hj
        show Num.Pap q (if j = j then d else ds j)
        rw [if_pos rfl]
        cases hj
        exact hp4
      · rw [List.getElem?_eq_none (by simp; omega)] at hj
        cases hj
    · rw [tk, rowsOf_snoc (ds := ds) (fun j hj => if_neg (by omega)), tl, if_pos rfl]
      exact dvs.append (dvs.same (s4.trans s5) _ hz) (.one (dv.tup upd_same ⟨_, _, rfl, dv.same s5 _ hv4, .one rfl⟩))
  · rintro zs H3 p3 ⟨s3, ds, hds, hz⟩ hp3
    rw [ul, List.take_length] at hds hz
    have s4 := same_upd (o := .lst zs) hp3
    refine ⟨p3, rfl, zs, .inl ⟨SqL.of upd_same, fun l hl' => ?_⟩⟩
    generalize upd H3 p3 _ = H4 at *
    have s5 := same_upd (o := .tup zs) hl'
    exact q ps ds _ _ hP hl hds (((s1.trans s3).trans s4).trans s5) (dv.tup upd_same (dvs.same (s4.trans s5) _ hz))
theorem ok_paper0 {L : Nat} (D : DefAt K mg "prime_paper" (top 30)) : Callee P w K mg base (CXE P w) 7 "prime_paper" [("n" : Str)] (spPaper K 0) := by
  refine calleeX_of D (fun _ _ _ _ _ _ us hl => match us, hl with | [_], _ => rfl) sc_prime_paper (fun vs H Q E h => by obtain ⟨_, rfl, _⟩ := h; rfl) (fun f cdv A outer s H vs Q E hr h => ?_)
  obtain ⟨n, rfl, hp, hn, hH, q⟩ := h
  exact hH.elim
theorem ok_papers {c1 c2 c3 : Addr} (D1 : DefAt K mg "prime_paper" (top 30)) (D2 : DefAt K mg "parting_paper" (top 31)) (c_least_divisor : Callee P w K mg base (CXE P w) 3 "least_divisor" ["n"] (spLeast c1 c2)) (c_parted : Callee P w K mg base (CXE P w) 3 "parted" ["n"] (spParted K c1 c2)) (c_least_full : Callee P w K mg base CX0 6 "least_full" ["p", "primes"] (spLeastFull K)) (c_primes_in : Callee P w K mg base CX0 1 "primes_in" ["parts"] (spPrimesIn K)) (x_NoPrime : XCl1 P w K mg base "NoPrime" c3 "divisor") (n_tuple : mg "tuple" = none) : ∀ L : Nat, Callee P w K mg base (CXE P w) (2 * L + 7) "prime_paper" ["n"] (spPaper K L) ∧ Callee P w K mg base CX0 (2 * L + 8) "parting_paper" ["n"] (spParting K L)
  | 0 => ⟨ok_paper0 (L := 0) D1, ok_partingS (L := 0) D2 c_parted (ok_paper0 (L := 0) D1) n_tuple⟩
  | L + 1 => by
    have h := ok_papers D1 D2 c_least_divisor c_parted c_least_full c_primes_in x_NoPrime n_tuple L
    have a := ok_paperS D1 c_least_divisor h.2 c_least_full c_primes_in x_NoPrime
    have a' : Callee P w K mg base (CXE P w) (2 * (L + 1) + 7) "prime_paper" ["n"] (spPaper K (L + 1)) := a.mono (by omega)
    exact ⟨a', ok_partingS D2 c_parted a' n_tuple⟩
def spPaperA (K : PySem.W.Frag) : Sp := fun vs H Q _ => ∃ n : Int, vs = [.int n] ∧ Num.Pm n ∧ n ≤ 10 ^ 9 ∧ ∀ d v H', Num.Pap n d → Same H H' → dv K H' d v → Q v H'
theorem paperA (h : Callee P w K mg base (CXE P w) (2 * 30 + 7) "prime_paper" ["n"] (spPaper K 30)) : Callee P w K mg base (CXE P w) 67 "prime_paper" ["n"] (spPaperA K) :=
  Callee.imp h fun vs H Q E z => by
    obtain ⟨n, h1, h2, h3, q⟩ := z
    exact ⟨n, h1, h2, h3, Num.ht_all h2 h3, q⟩
end
end K
set_option Elab.async false
set_option linter.all false
set_option maxRecDepth 100000
set_option maxHeartbeats 8000000
namespace K
open PySem PySem.Spec PyProof.Rows L2
section
variable {P : Program} {w : World} {K : PySem.W.Frag} {mg : Str → Option Value} {base : Heap}
def spW (K : PySem.W.Frag) : Sp := fun vs H Q _ => ∃ d v, vs = [v] ∧ dv K H d v ∧ Q (.bl (isW d)) H
theorem sc_is_whole : FnScope [("thing" : Str)] [("thing" : Str)] (defScope (top 10)) := ⟨rfl, rfl, rfl, by decide +kernel, rfl, by decide +kernel, by decide +kernel⟩
theorem ok_w (D : DefAt K mg "is_whole" (top 10)) (n_isinstance : mg "isinstance" = none) (n_int : mg "int" = none) (n_bool : mg "bool" = none) : Callee P w K mg base CX0 1 "is_whole" [("thing" : Str)] (spW K) := by
  refine callee_of D (fun _ _ _ _ _ _ us hl => match us, hl with | [_], _ => rfl) sc_is_whole (fun vs H Q E h => by obtain ⟨_, _, rfl, _⟩ := h; rfl) (fun f cdv A outer s H vs Q E hr h => ?_)
  obtain ⟨d, v, rfl, hd, q⟩ := h
  have nd := sc_is_whole.nd
  refine ⟨_, (pss_one (ps_ret (pe_and (pe_callB call_isiD rfl n_isinstance PyProof.Rows.boot_isinstance (pa_cons (pv 0) (pa_cons (pe_bltn (v := .ty "int") rfl n_int L2.boot_int rfl) pa_nil))) (pe_one (pe_not (pe_callB call_isiD rfl n_isinstance PyProof.Rows.boot_isinstance (pa_cons (pv 0) (pa_cons (pe_bltn (v := .ty "bool") rfl n_bool L2.boot_bool rfl) pa_nil)))))))), ?_⟩
  show tRet _ _ [some v] H
  k_data
  refine isd_int hd ?_
  k_data
  refine ite2 (fun c => ?_) (fun c => ?_)
  · refine isd_bool hd ?_
    k_data
    cases d <;> first | exact q | simp [isW, isB] at c
  · cases d <;> first | exact q | exact absurd rfl c
def isTof : PyData → Nat → Bool
  | .tuple ds, m => decide (ds.length = m)
  | _, _ => false
def spTof (K : PySem.W.Frag) : Sp := fun vs H Q _ => ∃ d v, ∃ m : Nat, vs = [v, .int m] ∧ dv K H d v ∧ Q (.bl (isTof d m)) H
theorem sc_is_tuple_of : FnScope [("thing" : Str), ("many" : Str)] [("thing" : Str), ("many" : Str)] (defScope (top 11)) := ⟨rfl, rfl, rfl, by decide +kernel, rfl, by decide +kernel, by decide +kernel⟩
theorem ok_tof (D : DefAt K mg "is_tuple_of" (top 11)) (n_isinstance : mg "isinstance" = none) (n_tuple : mg "tuple" = none) (n_len : mg "len" = none) : Callee P w K mg base CX0 1 "is_tuple_of" [("thing" : Str), ("many" : Str)] (spTof K) := by
  refine callee_of D (fun _ _ _ _ _ _ us hl => match us, hl with | [_, _], _ => rfl) sc_is_tuple_of (fun vs H Q E h => by obtain ⟨_, _, _, rfl, _⟩ := h; rfl) (fun f cdv A outer s H vs Q E hr h => ?_)
  obtain ⟨d, v, m, rfl, hd, q⟩ := h
  have nd := sc_is_tuple_of.nd
  refine ⟨_, (pss_one (ps_ret (pe_and (pe_callB call_isiD rfl n_isinstance PyProof.Rows.boot_isinstance (pa_cons (pv 0) (pa_cons (pe_bltn (v := .ty "tuple") rfl n_tuple L2.boot_tuple rfl) pa_nil))) (pe_one (pe_cmpR op_eq (pe_callB call_lenS rfl n_len PySem.boot_len (pa_cons (pv 0) pa_nil)) (pv 1) (nomark _)))))), ?_⟩
  show tRet _ _ [some v, some (.int m)] H
  k_data
  refine isd_tup hd ?_
  k_data
  refine ite2 (fun c => ?_) (fun c => ?_)
  · cases d with
    | tuple ds =>
      obtain ⟨p, xs, rfl, hS, ht⟩ := hd
      refine len_tup hS ⟨scal_ii, ?_⟩
      have : decide (V.int (xs.length : Int) = V.int (m : Int)) = isTof (.tuple ds) m := by
        show _ = decide (ds.length = m)
        rw [ht.length]
        refine decide_eq_decide.mpr ⟨fun z => ?_, fun z => by rw [z]⟩
        have := V.int.inj z
        omega
      rw [this]
      exact q
    | _ => exact absurd c (by simp [isT])
  · cases d <;> first | exact q | exact absurd rfl c
theorem isW_int {d : PyData} (h : isW d = true) : ∃ i, d = .int i := by
  cases d <;> first | exact ⟨_, rfl⟩ | cases h
theorem isT_tup {d : PyData} (h : isT d = true) : ∃ i, d = .tuple i := by
  cases d <;> first | exact ⟨_, rfl⟩ | cases h
def PF (d : PyData) : Prop := ∃ (p g : Int) (rows : List PyData), d = .tuple [.int p, .int g, .tuple rows] ∧ 2 ≤ p
def spPF (K : PySem.W.Frag) : Sp := fun vs H Q _ => ∃ d v, vs = [v] ∧ dv K H d v ∧ ∀ b : Bool, (b = true ↔ PF d) → Q (.bl b) H
theorem dv3 {H : Hp} {d1 d2 d3 : PyData} {v : V} (h : dv K H (.tuple [d1, d2, d3]) v) : ∃ p x1 x2 x3, v = .ref p ∧ SqT K H p [x1, x2, x3] ∧ dv K H d1 x1 ∧ dv K H d2 x2 ∧ dv K H d3 x3 := by
  obtain ⟨p, xs, rfl, h1, x1, r1, rfl, e1, x2, r2, rfl, e2, x3, r3, rfl, e3, z⟩ := h
  cases z
  exact ⟨p, x1, x2, x3, rfl, h1, e1, e2, e3⟩
theorem len3 {ds : List PyData} (h : ds.length = 3) : ∃ a b c, ds = [a, b, c] := by
  match ds, h with
  | [a, b, c], _ => exact ⟨a, b, c, rfl⟩
theorem sc_is_paper_form : FnScope [("thing" : Str), ("p" : Str), ("full" : Str), ("parts" : Str)] [("thing" : Str)] (defScope (top 20)) := ⟨rfl, rfl, rfl, by decide +kernel, rfl, by decide +kernel, by decide +kernel⟩
theorem ok_pf (D : DefAt K mg "is_paper_form" (top 20)) (c_is_whole : Callee P w K mg base CX0 1 "is_whole" ["thing"] (spW K)) (c_is_tuple_of : Callee P w K mg base CX0 1 "is_tuple_of" ["thing", "many"] (spTof K)) (n_isinstance : mg "isinstance" = none) (n_tuple : mg "tuple" = none) : Callee P w K mg base CX0 2 "is_paper_form" [("thing" : Str)] (spPF K) := by
  refine callee_of D (fun _ _ _ _ _ _ us hl => match us, hl with | [_], _ => rfl) sc_is_paper_form (fun vs H Q E h => by obtain ⟨_, _, rfl, _⟩ := h; rfl) (fun f cdv A outer s H vs Q E hr h => ?_)
  obtain ⟨d, v, rfl, hd, q⟩ := h
  have nd := sc_is_paper_form.nd
  refine ⟨_, (pss_cons (ps_if (pt_not (pt_truth (pe_callC c_is_tuple_of (hr.mono (by decide)) rfl pass0 (pa_cons (pv 0) (pa_cons pe_int pa_nil))) (fun _ => rfl))) (pss_one (ps_ret pe_bl)) pss_nil) (pss_cons (ps_asg (pv 0) (pg_tup (n := 3) rfl (pgs_cons (pg_name (i := 1) nd rfl (Or.inl rfl) (.inr rfl)) (pgs_cons (pg_name (i := 2) nd rfl (Or.inl rfl) (.inr rfl)) (pgs_cons (pg_name (i := 3) nd rfl (Or.inl rfl) (.inr rfl)) pgs_nil))))) (pss_one (ps_ret (pe_and (pe_callC c_is_whole (hr.mono (by decide)) rfl pass0 (pa_cons (pv 1) pa_nil)) (pe_and (pe_cmpR op_ge (pv 1) pe_int (nomark _)) (pe_and (pe_callC c_is_whole (hr.mono (by decide)) rfl pass0 (pa_cons (pv 2) pa_nil)) (pe_one (pe_callB call_isiD rfl n_isinstance PyProof.Rows.boot_isinstance (pa_cons (pv 3) (pa_cons (pe_bltn (v := .ty "tuple") rfl n_tuple L2.boot_tuple rfl) pa_nil))))))))))), ?_⟩
  show tSeq _ _ _ [some v, none, none, none] H
  k_data
  refine ⟨d, v, 3, rfl, hd, isTof d 3, truV_bl.mpr rfl, ?_⟩
  refine ite2 (fun c => ?_) (fun c => ?_)
  · refine q false ⟨fun z => (by cases z), fun ⟨p, g, rows, e, _⟩ => ?_⟩
    rw [e] at c
    cases c
  · cases d with
    | tuple ds =>
      obtain ⟨d1, d2, d3, rfl⟩ := len3 (ds := ds) (by simpa [isTof] using c)
      obtain ⟨p, x1, x2, x3, rfl, hS, e1, e2, e3⟩ := dv3 hd
      refine ⟨p, _, rfl, hS, rfl, ?_⟩
      k_data
      refine ⟨d1, x1, rfl, e1, isW d1, rfl, ?_⟩
      refine ite2 (fun c1 => ?_) (fun c1 => ?_)
      · obtain ⟨i, rfl⟩ := isW_int c1
        cases e1
        refine ⟨i, rfl, ?_⟩
        refine ite2 (fun c2 => ?_) (fun c2 => ?_)
        · refine ⟨d2, x2, rfl, e2, isW d2, rfl, ?_⟩
          refine ite2 (fun c3 => ?_) (fun c3 => ?_)
          · obtain ⟨j, rfl⟩ := isW_int c3
            refine isd_tup e3 (q _ ⟨fun z => ?_, fun z => ?_⟩)
            · obtain ⟨rows, rfl⟩ := isT_tup z
              exact ⟨i, j, rows, rfl, c2⟩
            · obtain ⟨p, g, rows, e, _⟩ := z
              cases e
              rfl
          · refine q false ⟨fun z => (by cases z), fun ⟨p, g, rows, e, _⟩ => ?_⟩
            cases e
            exact absurd rfl c3
        · refine q false ⟨fun z => (by cases z), fun ⟨p, g, rows, e, h2⟩ => ?_⟩
          cases e
          exact absurd h2 c2
      · refine q false ⟨fun z => (by cases z), fun ⟨p, g, rows, e, _⟩ => ?_⟩
        cases e
        exact absurd rfl c1
    | _ => exact absurd rfl c
def RF (width : Nat) (d : PyData) : Prop := ∃ (pd : PyData) (k : Int) (more : List PyData), d = .tuple (pd :: .int k :: more) ∧ more.length + 2 = width ∧ PF pd ∧ 1 ≤ k
def spRF (K : PySem.W.Frag) : Sp := fun vs H Q _ => ∃ d v, ∃ m : Nat, vs = [v, .int m] ∧ 2 ≤ m ∧ dv K H d v ∧ ∀ b : Bool, (b = true ↔ RF m d) → Q (.bl b) H
theorem at1 {x y : V} {r : List V} : atI (x :: y :: r) 1 = some y := by
  unfold atI ixN
  simp
  rw [if_pos (by omega)]
  rfl
theorem sc_is_row_form : FnScope [("thing" : Str), ("width" : Str)] [("thing" : Str), ("width" : Str)] (defScope (top 22)) := ⟨rfl, rfl, rfl, by decide +kernel, rfl, by decide +kernel, by decide +kernel⟩
theorem ok_rf (D : DefAt K mg "is_row_form" (top 22)) (c_is_whole : Callee P w K mg base CX0 1 "is_whole" ["thing"] (spW K)) (c_is_tuple_of : Callee P w K mg base CX0 1 "is_tuple_of" ["thing", "many"] (spTof K)) (c_is_paper_form : Callee P w K mg base CX0 2 "is_paper_form" ["thing"] (spPF K)) : Callee P w K mg base CX0 3 "is_row_form" [("thing" : Str), ("width" : Str)] (spRF K) := by
  refine callee_of D (fun _ _ _ _ _ _ us hl => match us, hl with | [_, _], _ => rfl) sc_is_row_form (fun vs H Q E h => by obtain ⟨_, _, _, rfl, _⟩ := h; rfl) (fun f cdv A outer s H vs Q E hr h => ?_)
  obtain ⟨d, v, m, rfl, hm, hd, q⟩ := h
  have nd := sc_is_row_form.nd
  refine ⟨_, (pss_one (ps_ret (pe_and (pe_callC c_is_tuple_of (hr.mono (by decide)) rfl pass0 (pa_cons (pv 0) (pa_cons (pv 1) pa_nil))) (pe_and (pe_callC c_is_paper_form (hr.mono (by decide)) rfl pass0 (pa_cons (pe_ix ix_tup (pv 0) pe_int (fun _ _ => rfl)) pa_nil)) (pe_and (pe_callC c_is_whole (hr.mono (by decide)) rfl pass0 (pa_cons (pe_ix ix_tup (pv 0) pe_int (fun _ _ => rfl)) pa_nil)) (pe_one (pe_cmpR op_ge (pe_ix ix_tup (pv 0) pe_int (fun _ _ => rfl)) pe_int (nomark _)))))))), ?_⟩
  show tRet _ _ [some v, some (.int m)] H
  k_data
  refine ⟨d, v, m, rfl, hd, isTof d m, rfl, ?_⟩
  refine ite2 (fun c => ?_) (fun c => ?_)
  · cases d with
    | tuple ds =>
      have hl : ds.length = m := by simpa [isTof] using c
      obtain ⟨d1, d2, more, rfl⟩ : ∃ a b c, ds = a :: b :: c := by
        match ds, hl with
        | [], h => exact absurd h (by simp; omega)
        | [a], h => exact absurd h (by simp; omega)
        | a :: b :: c, _ => exact ⟨a, b, c, rfl⟩
      obtain ⟨p, xs, rfl, hS, x1, r1, rfl, e1, x2, r2, rfl, e2, e3⟩ := hd
      refine ix_t hS at0 ⟨d1, x1, rfl, e1, fun b hb => ⟨b, rfl, ?_⟩⟩
      refine ite2 (fun c1 => ?_) (fun c1 => ?_)
      · have hPF := hb.mp c1
        refine ix_t hS at1 ⟨d2, x2, rfl, e2, isW d2, rfl, ?_⟩
        refine ite2 (fun c2 => ?_) (fun c2 => ?_)
        · obtain ⟨k, rfl⟩ := isW_int c2
          cases e2
          refine ix_t hS at1 ⟨k, rfl, ?_⟩
          refine q _ ⟨fun z => ⟨d1, k, more, rfl, by simpa using hl, hPF, of_decide_eq_true z⟩, fun ⟨pd, k', more', e, _, _, hk⟩ => ?_⟩
          cases e
          exact decide_eq_true hk
        · refine q false ⟨fun z => (by cases z), fun ⟨pd, k, more', e, _⟩ => ?_⟩
          cases e
          exact absurd rfl c2
      · refine q false ⟨fun z => (by cases z), fun ⟨pd, k, more', e, _, h3, _⟩ => ?_⟩
        cases e
        exact absurd (hb.mpr h3) c1
    | _ => exact absurd c (by simp [isTof])
  · refine q false ⟨fun z => (by cases z), fun ⟨pd, k, more, e, h2, _⟩ => ?_⟩
    rw [e] at c
    exact absurd (decide_eq_true (by simpa using h2)) c
def Wo (n q k r : Int) : Prop := (q ^ k.toNat ∣ n ∧ n = q ^ k.toNat * r) ∨ (¬ q ^ k.toNat ∣ n ∧ r = 0)
def spWo : Sp := fun vs H Q _ => ∃ n q k : Int, vs = [.int n, .int q, .int k] ∧ 1 ≤ n ∧ n ≤ 10 ^ 110 ∧ 2 ≤ q ∧ q ≤ 10 ^ 110 ∧ 1 ≤ k ∧ ∀ r, Wo n q k r → 0 ≤ r → r ≤ n → Q (.int r) H
theorem sc_without : FnScope [("whole" : Str), ("prime" : Str), ("many" : Str), ("left" : Str), ("missing" : Str)] [("whole" : Str), ("prime" : Str), ("many" : Str)] (defScope (top 23)) := ⟨rfl, rfl, rfl, by decide +kernel, rfl, by decide +kernel, by decide +kernel⟩
theorem ok_wo (D : DefAt K mg "without" (top 23)) : Callee P w K mg base CX0 1 "without" [("whole" : Str), ("prime" : Str), ("many" : Str)] spWo := by
  refine callee_of D (fun _ _ _ _ _ _ us hl => match us, hl with | [_, _, _], _ => rfl) sc_without (fun vs H Q E h => by obtain ⟨_, _, _, rfl, _⟩ := h; rfl) (fun f cdv A outer s H vs Q E hr h => ?_)
  obtain ⟨n, q, k, rfl, n1, n9, q2, q9, k1, Qr⟩ := h
  have nd := sc_without.nd
  refine ⟨_, (pss_cons (ps_set (i := 3) nd rfl (Or.inl rfl) (pv 0)) (pss_cons (ps_set (i := 4) nd rfl (Or.inl rfl) (pv 2)) (pss_cons (ps_while PassesOwn.never (PW.pt (pw_and (pt_cmpR op_gt (pv 4) pe_int (nomark _)) (pw_and1 (pt_cmpR op_eq (pe_op op_mod (pv 3) (pv 1)) pe_int (nomark _))))) (pss_cons (ps_aug (i := 3) nd rfl (Or.inl rfl) (pv 1) (ip_of iop_divB)) (pss_one (ps_aug (i := 4) nd rfl (Or.inl rfl) pe_int (ip_of iop_sub))))) (pss_one (ps_ret (pe_ifExp (pt_cmpR op_eq (pv 4) pe_int (nomark _)) (pv 3) pe_int)))))), ?_⟩
  show tSeq _ _ _ [some (.int n), some (.int q), some (.int k), none, none] H
  k_data
  refine while_st (α := Int × Int) (fun x => [some (.int n), some (.int q), some (.int k), some (.int x.1), some (.int x.2)]) (fun x H1 => H1 = H ∧ 1 ≤ x.1 ∧ x.1 ≤ n ∧ 0 ≤ x.2 ∧ x.2 ≤ k ∧ n = q ^ (k - x.2).toNat * x.1) (fun x => x.1.toNat) (n, k) rfl ⟨rfl, n1, Int.le_refl _, by show 0 ≤ k; omega, Int.le_refl _, by show n = q ^ (k - k).toNat * n; rw [Int.sub_self]; show n = q ^ 0 * n; rw [Int.pow_zero, Int.one_mul]⟩ ?_
  rintro ⟨l, m⟩ H1 ⟨rfl, l1, l2, m0, m1, e⟩
  replace l1 : 1 ≤ l := l1
  replace l2 : l ≤ n := l2
  replace m0 : 0 ≤ m := m0
  replace m1 : m ≤ k := m1
  replace e : n = q ^ (k - m).toNat * l := e
  k_data
  refine ite2 (fun c => ?_) (fun c => ?_)
  · refine ⟨by omega, ?_⟩
    refine ite2 (fun c2 => ?_) (fun c2 => ?_)
    · obtain ⟨y, hy⟩ := Int.dvd_of_emod_eq_zero c2
      have ey : l / q = y := by rw [hy]; exact Int.mul_ediv_cancel_left _ (by omega)
      have y1 : 1 ≤ y := by
        rcases (by omega : y ≤ 0 ∨ 1 ≤ y) with z | z
        · have := Int.mul_nonpos_of_nonneg_of_nonpos (show 0 ≤ q by omega) z
          omega
        · exact z
      have yl : y < l := by
        rw [hy]
        have := Int.mul_le_mul_of_nonneg_right q2 (show 0 ≤ y by omega)
        omega
      refine ⟨_, fun _ _ z => z, by omega, Bd.of (by omega) (by omega), (y, m - 1), by rw [ey], rfl, y1, by show y ≤ n; omega, by show 0 ≤ m - 1; omega, by show m - 1 ≤ k; omega, ?_, by show y.toNat < l.toNat; omega⟩
      show n = q ^ (k - (m - 1)).toNat * y
      rw [show (k - (m - 1)).toNat = (k - m).toNat + 1 by omega, Int.pow_succ, Int.mul_assoc, ← hy]
      exact e
    · rw [if_neg (by omega)]
      refine Qr 0 (.inr ⟨fun z => ?_, rfl⟩) (Int.le_refl _) (by omega)
      have pp := Num.pow_pos' (show 0 < q by omega) (k - m).toNat
      obtain ⟨t, ht⟩ := z
      have e3 : q ^ k.toNat = q ^ (k - m).toNat * q ^ m.toNat := by rw [← Pw.pow_add]; congr 1; omega
      rw [e, e3, Int.mul_assoc] at ht
      have ht2 := Int.eq_of_mul_eq_mul_left (by omega) ht
      obtain ⟨j, hj⟩ : ∃ j, m.toNat = j + 1 := ⟨m.toNat - 1, by omega⟩
      rw [hj, Int.pow_succ, Int.mul_comm (q ^ j) q, Int.mul_assoc] at ht2
      exact c2 (Int.emod_eq_zero_of_dvd ⟨_, ht2⟩)
  · have mz : m = 0 := by omega
    rw [if_pos mz]
    rw [mz, Int.sub_zero] at e
    exact Qr l (.inl ⟨⟨l, e⟩, e⟩) (by omega) l2
def CT (width : Nat) : Int → Int → List PyData → Prop
  | left, _, [] => left = 1
  | left, last, d :: ds => 1 ≤ left ∧ ∃ (p g k : Int) (rows more : List PyData), d = .tuple (.tuple [.int p, .int g, .tuple rows] :: .int k :: more) ∧ more.length + 2 = width ∧ 2 ≤ p ∧ 1 ≤ k ∧ last < p ∧ ∃ r, Wo left p k r ∧ CT width r p ds
def spCT (K : PySem.W.Frag) : Sp := fun vs H Q _ => ∃ (n : Int) (rows : List PyData) (v : V) (m : Nat), vs = [.int n, v, .int m] ∧ 2 ≤ m ∧ n ≤ 10 ^ 110 ∧ dv K H (.tuple rows) v ∧ (∀ (p g k : Int) (rs more : List PyData), .tuple (.tuple [.int p, .int g, .tuple rs] :: .int k :: more) ∈ rows → p ≤ 10 ^ 110) ∧ ∀ b : Bool, (b = true ↔ CT m n 1 rows) → Q (.bl b) H
theorem Wo.one {n q k r r' : Int} (h2 : 2 ≤ q) (h : Wo n q k r) (h' : Wo n q k r') : r = r' := by
  have pp := Num.pow_pos' (show 0 < q by omega) k.toNat
  rcases h with ⟨h1, h2⟩ | ⟨h1, h2⟩ <;> rcases h' with ⟨h3, h4⟩ | ⟨h3, h4⟩
  · exact Int.eq_of_mul_eq_mul_left (by omega) (h2.symm.trans h4)
  · exact absurd h1 h3
  · exact absurd h3 h1
  · rw [h2, h4]
theorem sc_come_to : FnScope [("n" : Str), ("rows" : Str), ("width" : Str), ("left" : Str), ("last" : Str), ("row" : Str)] [("n" : Str), ("rows" : Str), ("width" : Str)] (defScope (top 21)) := ⟨rfl, rfl, rfl, by decide +kernel, rfl, by decide +kernel, by decide +kernel⟩
theorem ok_ct (D : DefAt K mg "come_to" (top 21)) (c_is_row_form : Callee P w K mg base CX0 3 "is_row_form" ["thing", "width"] (spRF K)) (c_without : Callee P w K mg base CX0 1 "without" ["whole", "prime", "many"] spWo) : Callee P w K mg base CX0 4 "come_to" [("n" : Str), ("rows" : Str), ("width" : Str)] (spCT K) := by
  refine callee_of D (fun _ _ _ _ _ _ us hl => match us, hl with | [_, _, _], _ => rfl) sc_come_to (fun vs H Q E h => by obtain ⟨_, _, _, _, rfl, _⟩ := h; rfl) (fun f cdv A outer s H vs Q E hr h => ?_)
  obtain ⟨n, rows, v, m, rfl, hm, n9, hd, hb9, q⟩ := h
  obtain ⟨p, xs, rfl, hS, ht⟩ := hd
  have nd := sc_come_to.nd
  refine ⟨_, (pss_cons (ps_set (i := 3) nd rfl (Or.inl rfl) (pv 0)) (pss_cons (ps_set (i := 4) nd rfl (Or.inl rfl) pe_int) (pss_cons (ps_for PassesOwn.never rfl (pi_tup (pv 1)) (pg_name (i := 5) nd rfl (Or.inl rfl) (.inr rfl)) (pss_cons (ps_if (PW.pt (pw_or (pt_cmpR op_lt (pv 3) pe_int (nomark _)) (pw_or (pt_not (pt_truth (pe_callC c_is_row_form (hr.mono (by decide)) rfl pass0 (pa_cons (pv 5) (pa_cons (pv 2) pa_nil))) (fun _ => rfl))) (pw_or1 (pt_cmpR op_le (pe_ix ix_tup (pe_ix ix_tup (pv 5) pe_int (fun _ _ => rfl)) pe_int (fun _ _ => rfl)) (pv 4) (nomark _)))))) (pss_one (ps_ret pe_bl)) pss_nil) (pss_cons (ps_set (i := 4) nd rfl (Or.inl rfl) (pe_ix ix_tup (pe_ix ix_tup (pv 5) pe_int (fun _ _ => rfl)) pe_int (fun _ _ => rfl))) (pss_one (ps_set (i := 3) nd rfl (Or.inl rfl) (pe_callC c_without (hr.mono (by decide)) rfl pass0 (pa_cons (pv 3) (pa_cons (pv 4) (pa_cons (pe_ix ix_tup (pv 5) pe_int (fun _ _ => rfl)) pa_nil))))))))) (pss_one (ps_ret (pe_cmpR op_eq (pv 3) pe_int (nomark _))))))), ?_⟩
  show tSeq _ _ _ [some (.int n), some (.ref p), some (.int m), none, none, none] H
  k_data
  refine ⟨⟨_, hS⟩, ?_⟩
  refine loop_tup (xs := xs) (fun i σ' H' => H' = H ∧ ∃ (l t : Int) (o : Option V), σ' = [some (.int n), some (.ref p), some (.int m), some (.int l), some (.int t), o] ∧ l ≤ 10 ^ 110 ∧ (CT m n 1 rows ↔ CT m l t (rows.drop i))) ⟨rfl, n, 1, none, rfl, n9, by rw [List.drop_zero]⟩ (fun i σ' H' _ h => by rw [h.1]; exact hS) ?_ ?_
  · rintro i x σ' H' hx ⟨rfl, l, t, o, rfl, l9, hc⟩
    obtain ⟨d, hd, hv⟩ := ht.get hx
    have dr : rows.drop i = d :: rows.drop (i + 1) := by
      obtain ⟨hi, e⟩ := List.getElem?_eq_some_iff.mp hd
      rw [List.drop_eq_getElem_cons hi, e]
    rw [dr] at hc
    k_data
    refine ite2 (fun c => ?_) (fun c => ?_)
    · exact q false ⟨fun z => (by cases z), fun z => absurd (hc.mp z).1 (by omega)⟩
    refine ⟨d, x, m, rfl, hm, hv, fun b hb => ⟨b, truV_bl.mpr rfl, ?_⟩⟩
    refine ite2 (fun c1 => ?_) (fun c1 => ?_)
    · refine q false ⟨fun z => (by cases z), fun z => ?_⟩
      obtain ⟨_, p', g', k', rs', more', e1, e2, e3, e4, _⟩ := hc.mp z
      have := hb.mpr ⟨_, k', more', e1, e2, ⟨p', g', rs', rfl, e3⟩, e4⟩
      rw [c1] at this
      cases this
    · obtain ⟨pd, k, more, rfl, f2, ⟨p', g, rs, rfl, f3⟩, f4⟩ := hb.mp (by simpa using c1)
      obtain ⟨a1, y1, rfl, t1, u1, r1, rfl, hv2, u2, r2, rfl, hk, hmr⟩ := hv
      obtain ⟨a2, x1, x2, x3, rfl, t2, w1, w2, w3⟩ := dv3 hv2
      cases w1
      cases hk
      refine ix_t t1 at0 (ix_t t2 at0 ⟨p', rfl, ?_⟩)
      refine ite2 (fun c2 => ?_) (fun c2 => ?_)
      · refine q false ⟨fun z => (by cases z), fun z => ?_⟩
        obtain ⟨_, p2, g2, k2, rs2, more2, e1, e2, e3, e4, e5, _⟩ := hc.mp z
        cases e1
        omega
      · have p9 := hb9 p' g k rs more (List.mem_of_getElem? hd)
        refine ix_t t1 at0 (ix_t t2 at0 (ix_t t1 at1 ⟨l, p', k, rfl, by omega, l9, f3, p9, f4, fun r hr' r0 r1 => ⟨rfl, r, rfl, p', rfl, by omega, ?_⟩⟩))
        rw [hc]
        constructor
        · rintro ⟨_, p2, g2, k2, rs2, more2, e1, e2, e3, e4, e5, r', e6, e7⟩
          cases e1
          rw [hr'.one f3 e6]
          exact e7
        · intro z
          exact ⟨by omega, p', g, k, rs, more, rfl, f2, f3, f4, by omega, r, hr', z⟩
  · rintro σ' H' ⟨rfl, l, t, o, rfl, l9, hc⟩
    k_data
    rw [ht.length, List.drop_length] at hc
    refine q _ ?_
    rw [hc]
    exact decide_eq_true_iff
end
end K
set_option Elab.async false
set_option linter.all false
set_option maxRecDepth 100000
set_option maxHeartbeats 8000000
namespace K
open PySem PySem.Spec PyProof.Rows L2
mutual
def smD : PyData → Prop
  | .int i => i ≤ 10 ^ 110
  | .tuple ds => smDs ds
  | .list ds => smDs ds
  | _ => True
def smDs : List PyData → Prop
  | [] => True
  | d :: ds => smD d ∧ smDs ds
end
mutual
def szD : PyData → Nat
  | .tuple ds => 1 + szDs ds
  | .list ds => 1 + szDs ds
  | _ => 1
def szDs : List PyData → Nat
  | [] => 0
  | d :: ds => szD d + szDs ds
end
theorem smDs_mem : ∀ {ds : List PyData} {d : PyData}, smDs ds → d ∈ ds → smD d
  | a :: r, d, ⟨h1, h2⟩, h => by
    rcases List.mem_cons.mp h with z | z
    · rw [z]; exact h1
    · exact smDs_mem h2 z
theorem smDs_of : ∀ {ds : List PyData}, (∀ d ∈ ds, smD d) → smDs ds
  | [], _ => True.intro
  | a :: r, h => ⟨h a (by simp), smDs_of fun d hd => h d (List.mem_cons_of_mem _ hd)⟩
theorem szDs_app : ∀ (xs ys : List PyData), szDs (xs ++ ys) = szDs xs + szDs ys
  | [], ys => by simp [szDs]
  | a :: r, ys => by
    show szD a + szDs (r ++ ys) = szD a + szDs r + szDs ys
    rw [szDs_app r ys]
    omega
theorem szD_pos : ∀ d : PyData, 1 ≤ szD d
  | .tuple _ => by simp [szD]
  | .list _ => by simp [szD]
  | .none => Nat.le_refl _
  | .bool _ => Nat.le_refl _
  | .int _ => Nat.le_refl _
  | .str _ => Nat.le_refl _
  | .dict _ => by simp [szD]
theorem szDs_len : ∀ ds : List PyData, ds.length ≤ szDs ds
  | [] => Nat.le_refl _
  | a :: r => by
    have := szD_pos a
    have := szDs_len r
    show r.length + 1 ≤ szD a + szDs r
    omega
def fstD : PyData → PyData
  | .tuple (x :: _) => x
  | _ => .none
def qD : PyData → Int
  | .tuple (.tuple (.int q :: _) :: _) => q
  | _ => 0
def RA (d : PyData) : Prop := ∃ (p g : Int) (rows : List PyData), d = .tuple [.int p, .int g, .tuple rows] ∧ 2 ≤ p ∧ 1 ≤ g ∧ g < p ∧ CT 2 (p - 1) 1 rows ∧ Lst p g (p - 1) (rows.map qD)
inductive PP : PyData → Prop
  | mk (p g : Int) (rows : List PyData) : RA (.tuple [.int p, .int g, .tuple rows]) → (∀ r ∈ rows, PP (fstD r)) → PP (.tuple [.int p, .int g, .tuple rows])
theorem ct_rows {w : Nat} : ∀ {rows : List PyData} {l t : Int}, CT w l t rows → ∀ r ∈ rows, ∃ (p g k : Int) (rs more : List PyData), r = .tuple (.tuple [.int p, .int g, .tuple rs] :: .int k :: more) ∧ 2 ≤ p ∧ 1 ≤ k ∧ more.length + 2 = w
  | d :: ds, l, t, ⟨_, p, g, k, rs, more, e1, e2, e3, e4, e5, r', e6, e7⟩, r, hr => by
    rcases List.mem_cons.mp hr with z | z
    · rw [z]; exact ⟨p, g, k, rs, more, e1, e3, e4, e2⟩
    · exact ct_rows e7 r z
theorem ct_hds {w : Nat} {rows : List PyData} {l t : Int} (h : CT w l t rows) : Hds rows (rows.map qD) := by
  refine ⟨by rw [List.length_map], fun i row hi => ?_⟩
  obtain ⟨p, g, k, rs, more, e, _⟩ := ct_rows h row (List.mem_of_getElem? hi)
  exact ⟨p, by rw [List.getElem?_map, hi, e]; rfl, [.int g, .tuple rs], .int k :: more, e⟩
section
variable {P : Program} {w : World} {K : PySem.W.Frag} {mg : Str → Option Value} {base : Heap}
def spRA (K : PySem.W.Frag) : Sp := fun vs H Q _ => ∃ d v, vs = [v] ∧ dv K H d v ∧ smD d ∧ szD d ≤ 10 ^ 7 ∧ ∀ b H', (b = true ↔ RA d) → Same H H' → Q (.bl b) H'
theorem sc_is_right_above : FnScope [("thing" : Str), ("p" : Str), ("full" : Str), ("parts" : Str)] [("thing" : Str)] (defScope (top 19)) := ⟨rfl, rfl, rfl, by decide +kernel, rfl, by decide +kernel, by decide +kernel⟩
theorem ok_ra (D : DefAt K mg "is_right_above" (top 19)) (c_is_paper_form : Callee P w K mg base CX0 2 "is_paper_form" ["thing"] (spPF K)) (c_come_to : Callee P w K mg base CX0 4 "come_to" ["n", "rows", "width"] (spCT K)) (c_is_least : Callee P w K mg base CX0 5 "is_least" ["n", "a", "e", "primes"] (spIsLeast K)) (c_primes_in : Callee P w K mg base CX0 1 "primes_in" ["parts"] (spPrimesIn K)) : Callee P w K mg base CX0 6 "is_right_above" [("thing" : Str)] (spRA K) := by
  refine callee_of D (fun _ _ _ _ _ _ us hl => match us, hl with | [_], _ => rfl) sc_is_right_above (fun vs H Q E h => by obtain ⟨_, _, rfl, _⟩ := h; rfl) (fun f cdv A outer s H vs Q E hr h => ?_)
  obtain ⟨d, v, rfl, hd, hs, hz, q⟩ := h
  have nd := sc_is_right_above.nd
  refine ⟨_, (pss_cons (ps_if (pt_not (pt_truth (pe_callC c_is_paper_form (hr.mono (by decide)) rfl pass0 (pa_cons (pv 0) pa_nil)) (fun _ => rfl))) (pss_one (ps_ret pe_bl)) pss_nil) (pss_cons (ps_asg (pv 0) (pg_tup (n := 3) rfl (pgs_cons (pg_name (i := 1) nd rfl (Or.inl rfl) (.inr rfl)) (pgs_cons (pg_name (i := 2) nd rfl (Or.inl rfl) (.inr rfl)) (pgs_cons (pg_name (i := 3) nd rfl (Or.inl rfl) (.inr rfl)) pgs_nil))))) (pss_one (ps_ret (pe_and (pe_chain op_le op_lt pe_int (pv 2) (pv 1)) (pe_and (pe_callC c_come_to (hr.mono (by decide)) rfl pass0 (pa_cons (pe_op op_sub (pv 1) pe_int) (pa_cons (pv 3) (pa_cons pe_int pa_nil)))) (pe_one (pe_callC c_is_least (hr.mono (by decide)) rfl pass0 (pa_cons (pv 1) (pa_cons (pv 2) (pa_cons (pe_op op_sub (pv 1) pe_int) (pa_cons (pe_callC c_primes_in (hr.mono (by decide)) rfl pass0 (pa_cons (pv 3) pa_nil)) pa_nil)))))))))))), ?_⟩
  show tSeq _ _ _ [some v, none, none, none] H
  k_data
  refine ⟨d, v, rfl, hd, fun b hb => ⟨b, truV_bl.mpr rfl, ?_⟩⟩
  refine ite2 (fun c => ?_) (fun c => ?_)
  · refine q false _ ⟨fun z => (by cases z), fun ⟨p, g, rows, e, p2, _⟩ => ?_⟩ (Same.refl _)
    have := hb.mpr ⟨p, g, rows, e, p2⟩
    rw [c] at this
    cases this
  · obtain ⟨p, g, rows, rfl, p2⟩ := hb.mp (by simpa using c)
    obtain ⟨pa, x1, x2, x3, rfl, hS, e1, e2, e3⟩ := dv3 hd
    cases e1
    cases e2
    refine ⟨pa, _, rfl, hS, rfl, ?_⟩
    k_data
    simp only [tChain, tVar, tC, rI0, List.getElem?_cons_zero, List.getElem?_cons_succ, Option.some.injEq, exists_eq_left', V.int.injEq, exists_and_left, V.bl.injEq]
    obtain ⟨hp9, hrows⟩ : p ≤ 10 ^ 110 ∧ smDs rows := by
      simp only [smD, smDs, and_true] at hs
      exact ⟨hs.1, hs.2.2⟩
    have hzr : szDs rows ≤ 10 ^ 7 := by
      simp only [szD, szDs] at hz
      omega
    have no : ∀ {b : Bool}, b = false → ¬ RA (.tuple [.int p, .int g, .tuple rows]) → (b = true ↔ RA (.tuple [.int p, .int g, .tuple rows])) := fun e n => ⟨fun z => (by rw [e] at z; cases z), fun z => absurd z n⟩
    refine ite2 (fun c1 => ?_) (fun c1 => ?_)
    · refine ite2 (fun c2 => ?_) (fun c2 => ?_)
      · have g1 : 1 ≤ g := of_decide_eq_true c1
        have g2 : g < p := of_decide_eq_true c2
        refine ⟨p - 1, rows, x3, 2, rfl, by decide, by omega, e3, fun p' g' k' rs more hm => ?_, fun b1 hb1 => ⟨b1, rfl, ?_⟩⟩
        · have := smDs_mem hrows hm
          simp only [smD, smDs] at this
          exact this.1.1
        refine ite2 (fun c3 => ?_) (fun c3 => ?_)
        · have hct := hb1.mp c3
          have hh := ct_hds hct
          have rl : rows.length ≤ 10 ^ 7 := Nat.le_trans (szDs_len rows) hzr
          refine ⟨x3, rows, rows.map qD, rfl, e3, hh, rl, fun pq H1 s1 f1 h1 => ?_⟩
          refine ⟨p, g, p - 1, pq, rows.map qD, rfl, by omega, by omega, by omega, by omega, SqL.of h1, fun y hy => ?_, by rw [List.length_map]; exact rl, fun b2 H2 hb2 s2 => ?_⟩
          · obtain ⟨r, hr', rfl⟩ := List.mem_map.mp hy
            obtain ⟨p', g', k', rs, more, e, h2, _⟩ := ct_rows hct r hr'
            have := smDs_mem hrows hr'
            rw [e] at this ⊢
            simp only [smD, smDs] at this
            show 0 < p' ∧ p' ≤ _
            omega
          · refine q b2 H2 (hb2.trans ⟨fun z => ⟨p, g, rows, rfl, p2, g1, g2, hct, z⟩, fun ⟨p', g', rows', e, _, _, _, _, z⟩ => ?_⟩) (s1.trans s2)
            cases e
            exact z
        · refine q false _ (no rfl fun ⟨p', g', rows', e, _, _, _, z, _⟩ => ?_) (Same.refl _)
          cases e
          exact c3 (hb1.mpr z)
      · refine q false _ (no rfl fun ⟨p', g', rows', e, _, _, z, _⟩ => ?_) (Same.refl _)
        cases e
        exact c2 (decide_eq_true z)
    · refine q false _ (no rfl fun ⟨p', g', rows', e, _, z, _⟩ => ?_) (Same.refl _)
      cases e
      exact c1 (decide_eq_true z)
theorem dvs_last {H : Hp} : ∀ {ds : List PyData} {us : List V}, dvs K H ds us → ds ≠ [] → ∃ ds' d us' u, ds = ds' ++ [d] ∧ us = us' ++ [u] ∧ dvs K H ds' us' ∧ dv K H d u
  | [d], us, ⟨x, r, e, h, t⟩, _ => by
    cases t
    exact ⟨[], d, [], x, rfl, e, rfl, h⟩
  | d :: d2 :: ds, us, ⟨x, r, e, h, t⟩, _ => by
    obtain ⟨ds', d', us', u, e1, e2, h1, h2⟩ := dvs_last t (by simp)
    exact ⟨d :: ds', d', x :: us', u, by rw [e1]; rfl, by rw [e, e2]; rfl, ⟨x, us', rfl, h, h1⟩, h2⟩
theorem szDs_fst : ∀ rows : List PyData, szDs (rows.map fstD) ≤ szDs rows
  | [] => Nat.le_refl _
  | a :: r => by
    have h1 := szDs_fst r
    have h2 : szD (fstD a) ≤ szD a := by
      match a with
      | .tuple (x :: xs) =>
        show szD x ≤ 1 + (szD x + szDs xs)
        omega
      | .tuple [] => exact Nat.le_refl _
      | .list ds => exact szD_pos (.list ds)
      | .none => exact Nat.le_refl _
      | .bool _ => exact Nat.le_refl _
      | .int _ => exact Nat.le_refl _
      | .str _ => exact Nat.le_refl _
      | .dict ds => exact szD_pos (.dict ds)
    show szD (fstD a) + szDs (r.map fstD) ≤ szD a + szDs r
    omega
def spPPs (K : PySem.W.Frag) : Sp := fun vs H Q _ => ∃ (p : Addr) (ds : List PyData) (us : List V), vs = [.ref p] ∧ (SqL K H p us ∨ SqT K H p us) ∧ dvs K H ds us ∧ smDs ds ∧ szDs ds ≤ 10 ^ 7 ∧ ∀ b H', (b = true ↔ ∀ d ∈ ds, PP d) → Same H H' → Q (.bl b) H'
theorem sc_are_prime_papers : FnScope [("things" : Str), ("waiting" : Str), ("paper" : Str)] [("things" : Str)] (defScope (top 18)) := ⟨rfl, rfl, rfl, by decide +kernel, rfl, by decide +kernel, by decide +kernel⟩
theorem ok_pps (D : DefAt K mg "are_prime_papers" (top 18)) (c_is_right_above : Callee P w K mg base CX0 6 "is_right_above" ["thing"] (spRA K)) (n_list : mg "list" = none) : Callee P w K mg base CX0 7 "are_prime_papers" [("things" : Str)] (spPPs K) := by
  refine callee_of D (fun _ _ _ _ _ _ us hl => match us, hl with | [_], _ => rfl) sc_are_prime_papers (fun vs H Q E h => by obtain ⟨_, _, _, rfl, _⟩ := h; rfl) (fun f cdv A outer s H vs Q E hr h => ?_)
  obtain ⟨p, ds0, us0, rfl, hS, hd0, hsm0, hsz0, q⟩ := h
  have nd := sc_are_prime_papers.nd
  refine ⟨_, (pss_cons (ps_set (i := 1) nd rfl (Or.inl rfl) (pe_callTy call_list_of rfl n_list L2.boot_list (pa_cons (pv 0) pa_nil))) (pss_cons (ps_while PassesOwn.never (pt_truth (pv 1) (fun _ => rfl)) (pss_cons (ps_set (i := 2) nd rfl (Or.inl rfl) (pe_bm0 PySem.F.plainAttrs_list PySem.F.slot_list_pop PySem.F.type_list_pop mt_pop (pv 1))) (pss_cons (ps_if (pt_not (pt_truth (pe_callC c_is_right_above (hr.mono (by decide)) rfl pass0 (pa_cons (pv 2) pa_nil)) (fun _ => rfl))) (pss_one (ps_ret pe_bl)) pss_nil) (pss_one (ps_expr (pe_bm PySem.F.plainAttrs_list PySem.F.slot_list_extend PySem.F.type_list_extend mt_extend (pv 1) (pa_cons (pe_lc rfl (compOk (N' := ["row"]) (js := [none]) rfl rfl (by decide +kernel) (by decide +kernel) (by repeat (first | exact True.intro | refine ⟨rfl, ?_⟩)) (by repeat (first | exact True.intro | refine ⟨rfl, ?_⟩ | refine ⟨True.intro, ?_⟩)) (by repeat (first | exact True.intro | refine ⟨⟨rfl, rfl, .inl rfl, .inl rfl⟩, ?_⟩))) (pi_tup (pe_ix ix_tup (pv 2) pe_int (fun _ _ => rfl))) (fun _ _ _ _ => (pg_name (i := 0) (show List.Nodup [("row" : Str)] from by decide +kernel) rfl (Or.inl rfl) (.inr rfl))) (fun _ _ _ _ => pifs_nil) (fun _ _ _ _ => (pe_ix (ix_tupK K rfl) (pv 0) pe_int (fun _ _ => rfl)))) pa_nil))))))) (pss_one (ps_ret pe_bl)))), ?_⟩
  show tSeq _ _ _ [some (.ref p), none, none] H
  k_data
  refine ⟨us0, hS, fun pw hpw => ?_⟩
  refine while_st (α := List PyData × List V × Option V) (fun x => [some (.ref p), some (.ref pw), x.2.2]) (fun x H1 => Same H H1 ∧ H1 pw = some (.lst x.2.1) ∧ dvs K H x.1 x.2.1 ∧ smDs x.1 ∧ szDs x.1 ≤ 10 ^ 7 ∧ ((∀ d ∈ ds0, PP d) ↔ ∀ d ∈ x.1, PP d)) (fun x => szDs x.1) (ds0, us0, none) rfl ⟨same_upd hpw, upd_same, hd0, hsm0, hsz0, Iff.rfl⟩ ?_
  rintro ⟨ds, us, o⟩ H1 ⟨s1, h1, hd, hsm, hsz, hPP⟩
  replace h1 : H1 pw = some (.lst us) := h1
  replace hd : dvs K H ds us := hd
  replace hsm : smDs ds := hsm
  replace hsz : szDs ds ≤ 10 ^ 7 := hsz
  replace hPP : (∀ d ∈ ds0, PP d) ↔ ∀ d ∈ ds, PP d := hPP
  k_data
  refine ⟨!us.isEmpty, .inl ⟨us, SqL.of h1, rfl⟩, ?_⟩
  by_cases hne : ds = []
  · subst hne
    have hu : us = [] := hd
    subst hu
    rw [if_neg (by simp)]
    exact q true H1 ⟨fun _ => hPP.mpr fun d z => by simp at z, fun _ => rfl⟩ s1
  obtain ⟨ds', d, us', u, rfl, rfl, hd', hdu⟩ := dvs_last hd hne
  rw [if_pos (by simp)]
  have smd : smD d := smDs_mem hsm (by simp)
  have szd : szDs (ds' ++ [d]) = szDs ds' + szD d := by
    rw [szDs_app]
    show szDs ds' + (szD d + 0) = _
    omega
  refine ⟨_, fun _ _ z => z, .inl ⟨rfl, _, SqL.of h1⟩, pw, us' ++ [u], u, rfl, rfl, h1, by simp, ?_⟩
  rw [List.dropLast_concat]
  have S2 := s1.upd (o := .lst us') hpw
  have e2 : upd H1 pw (.lst us') pw = some (.lst us') := upd_same
  generalize upd H1 pw _ = H2 at *
  refine ⟨d, u, rfl, dv.same S2 _ hdu, smd, by omega, fun b H3 hb s3 => ⟨b, truV_bl.mpr rfl, ?_⟩⟩
  have S3 := S2.trans s3
  have e3 := s3 _ _ e2
  refine ite2 (fun c => ?_) (fun c => ?_)
  · refine q false H3 ⟨fun z => (by cases z), fun z => ?_⟩ S3
    have hp := hPP.mp z d (by simp)
    cases hp with
    | mk _ _ _ hra _ =>
      have := hb.mpr hra
      rw [c] at this
      cases this
  · have hra := hb.mp (by simpa using c)
    obtain ⟨p', g, rows, rfl, p2, g1, g2, hct, hlst⟩ := hra
    have hra := hb.mp (by simpa using c)
    obtain ⟨pa, x1, x2, x3, rfl, hSu, f1, f2, f3⟩ := dv3 hdu
    obtain ⟨pr, xs, rfl, hSr, hdr⟩ := f3
    have xl := hdr.length
    have szr : szDs rows < szD (.tuple [.int p', .int g, .tuple rows]) := by
      simp only [szD, szDs]
      omega
    have rl := szDs_len rows
    refine ⟨.inl ⟨rfl, _, SqL.of e3⟩, ix_t (hSu.same S3) rfl ⟨pr, rfl, ⟨_, hSr.same S3⟩, ?_⟩⟩
    refine cloop_tup (xs := xs) (fun i zs H4 => H4 = H3 ∧ dvs K H ((rows.take i).map fstD) zs) ⟨rfl, rfl⟩ (Nat.le_trans (show xs.length ≤ 10 ^ 7 by omega) (by decide)) (fun i zs H4 hi ⟨z1, z2⟩ => ⟨by rw [z1]; exact hSr.same S3, by rw [z2.length, List.length_map, List.length_take]; omega⟩) ?_ ?_
    · rintro i x zs H4 hx ⟨rfl, hz⟩
      obtain ⟨r, hr', hv⟩ := hdr.get hx
      obtain ⟨p4, g4, k4, rs, more, rfl, _⟩ := ct_rows hct r (List.mem_of_getElem? hr')
      obtain ⟨a1, y1, rfl, t1, u1, r1, rfl, hv2, _⟩ := hv
      show gName 0 _ [none] _ _
      k_data
      refine ⟨True.intro, ix_t (t1.same S3) at0 ⟨rfl, ?_⟩⟩
      rw [List.take_add_one, hr', List.map_append]
      exact dvs.append hz (.one hv2)
    · rintro zs H4 p4 ⟨rfl, hz⟩ hp4
      rw [show xs.length = rows.length by omega, List.take_length] at hz
      have zl : zs.length = rows.length := by rw [hz.length, List.length_map]
      have s5 := same_upd (o := .lst zs) hp4
      have e5 : upd H4 p4 (.lst zs) p4 = some (.lst zs) := upd_same
      have e6 := s5 _ _ e3
      have S5 := S3.trans s5
      generalize upd H4 p4 _ = H5 at *
      have ul := hd'.length
      have dl := szDs_len ds'
      refine ⟨pw, p4, us', zs, rfl, rfl, e6, e5, Nat.le_trans (show us'.length + zs.length ≤ 10 ^ 7 by omega) (by decide), (ds' ++ rows.map fstD, us' ++ zs, some (.ref pa)), rfl, S5.upd hpw, upd_same, dvs.append hd' hz, ?_, ?_, ?_, ?_⟩
      · refine smDs_of fun x hx => ?_
        rcases List.mem_append.mp hx with z | z
        · exact smDs_mem hsm (List.mem_append.mpr (.inl z))
        · obtain ⟨r, hr', rfl⟩ := List.mem_map.mp z
          obtain ⟨p4, g4, k4, rs, more, rfl, _⟩ := ct_rows hct r hr'
          simp only [smD, smDs] at smd
          have := smDs_mem smd.2.2.1 hr'
          simp only [smD, smDs] at this
          simp only [fstD, smD, smDs]
          exact this.1
      · show szDs (ds' ++ rows.map fstD) ≤ _
        rw [szDs_app]
        have := szDs_fst rows
        omega
      · rw [hPP]
        constructor
        · intro z x hx
          rcases List.mem_append.mp hx with y | y
          · exact z x (List.mem_append.mpr (.inl y))
          · obtain ⟨r, hr', rfl⟩ := List.mem_map.mp y
            have hp := z (.tuple [.int p', .int g, .tuple rows]) (by simp)
            cases hp with
            | mk _ _ _ _ h => exact h r hr'
        · intro z x hx
          rcases List.mem_append.mp hx with y | y
          · exact z x (List.mem_append.mpr (.inl y))
          · rw [List.mem_singleton.mp y]
            exact .mk p' g rows hra fun r hr' => z _ (List.mem_append.mpr (.inr (List.mem_map.mpr ⟨r, hr', rfl⟩)))
      · show szDs (ds' ++ rows.map fstD) < _
        rw [szDs_app, szd]
        have := szDs_fst rows
        omega
def spPP (K : PySem.W.Frag) : Sp := fun vs H Q _ => ∃ d v, vs = [v] ∧ dv K H d v ∧ smD d ∧ szD d ≤ 10 ^ 7 ∧ ∀ b H', (b = true ↔ PP d) → Same H H' → Q (.bl b) H'
theorem sc_is_prime_paper : FnScope [("thing" : Str)] [("thing" : Str)] (defScope (top 17)) := ⟨rfl, rfl, rfl, by decide +kernel, rfl, by decide +kernel, by decide +kernel⟩
theorem ok_pp (D : DefAt K mg "is_prime_paper" (top 17)) (c_are_prime_papers : Callee P w K mg base CX0 7 "are_prime_papers" ["things"] (spPPs K)) : Callee P w K mg base CX0 8 "is_prime_paper" [("thing" : Str)] (spPP K) := by
  refine callee_of D (fun _ _ _ _ _ _ us hl => match us, hl with | [_], _ => rfl) sc_is_prime_paper (fun vs H Q E h => by obtain ⟨_, _, rfl, _⟩ := h; rfl) (fun f cdv A outer s H vs Q E hr h => ?_)
  obtain ⟨d, v, rfl, hd, hs, hz, q⟩ := h
  have nd := sc_is_prime_paper.nd
  refine ⟨_, (pss_one (ps_ret (pe_callC c_are_prime_papers (hr.mono (by decide)) rfl pass0 (pa_cons (pe_lst (pa_cons (pv 0) pa_nil)) pa_nil)))), ?_⟩
  show tRet _ _ [some v] H
  k_data
  refine ⟨by show 1 ≤ sizeLine; decide, fun pl hpl => ?_⟩
  have s1 := same_upd (o := .lst [v]) hpl
  refine ⟨pl, [d], [v], rfl, .inl (SqL.of upd_same), .one (dv.same s1 _ hd), ⟨hs, True.intro⟩, by show szD d + 0 ≤ _; omega, fun b H' hb s2 => ?_⟩
  exact q b H' (hb.trans ⟨fun z => z d (by simp), fun z x hx => by rw [List.mem_singleton.mp hx]; exact z⟩) (s1.trans s2)
end
end K
set_option Elab.async false
set_option linter.all false
set_option maxRecDepth 100000
set_option maxHeartbeats 8000000
namespace K
open PySem PySem.Spec PyProof.Rows L2
theorem rowsOf_cons {p : Int × Int} {ps : List (Int × Int)} {ds : Nat → PyData} : Num.rowsOf (p :: ps) ds = .tuple [ds 0, .int p.2] :: Num.rowsOf ps (fun i => ds (i + 1)) := by
  unfold Num.rowsOf
  rw [List.length_cons, List.range_succ_eq_map, List.map_cons, List.map_map]
  rfl
theorem rows_mem {ps : List (Int × Int)} {ds : Nat → PyData} {r : PyData} (h : r ∈ Num.rowsOf ps ds) : ∃ i q k, ps[i]? = some (q, k) ∧ r = .tuple [ds i, .int k] := by
  unfold Num.rowsOf at h
  obtain ⟨i, hi, e⟩ := List.mem_map.mp h
  have hi' := List.mem_range.mp hi
  have g := List.getElem?_eq_getElem hi'
  refine ⟨i, ps[i].1, ps[i].2, g, ?_⟩
  rw [← e, List.getD_eq_getElem?_getD, g]
  rfl
theorem pap_sm {n : Int} {d : PyData} (h : Num.Pap n d) : smD d := by
  induction h with
  | mk p g ps ds hp h9 hl hP hn hds ih =>
    have := hl.lt
    simp only [smD, smDs, and_true]
    refine ⟨by omega, by omega, smDs_of fun r hr => ?_⟩
    obtain ⟨i, q, k, hi, rfl⟩ := rows_mem hr
    have hk := (hP.ok _ (List.mem_of_getElem? hi)).2.2
    simp only [smD, smDs, and_true]
    exact ⟨ih i q k hi, by show k ≤ _; have : k ≤ 30 := hk; omega⟩
theorem rows_sz : ∀ {ps : List (Int × Int)} {ds : Nat → PyData}, (∀ p ∈ ps, 2 ≤ p.1 ∧ 1 ≤ p.2) → (∀ i q k, ps[i]? = some (q, k) → 2 ^ (szD (ds i) + 2) ≤ q.natAbs ^ 12) → 2 ^ szDs (Num.rowsOf ps ds) ≤ (Num.prodP ps).natAbs ^ 12
  | [], _, _, _ => by show 2 ^ 0 ≤ 1 ^ 12; decide
  | p :: ps, ds, h, hd => by
    rw [rowsOf_cons]
    have h1 := hd 0 p.1 p.2 rfl
    have h2 := rows_sz (ps := ps) (ds := fun i => ds (i + 1)) (fun q hq => h q (List.mem_cons_of_mem _ hq)) fun i q k hi => hd (i + 1) q k (by simpa using hi)
    obtain ⟨p2, k1⟩ := h p (by simp)
    have e : szDs (.tuple [ds 0, .int p.2] :: Num.rowsOf ps (fun i => ds (i + 1))) = (szD (ds 0) + 2) + szDs (Num.rowsOf ps (fun i => ds (i + 1))) := by
      simp only [szDs, szD]
      omega
    rw [e, Nat.pow_add]
    have h3 := Nat.mul_le_mul h1 h2
    rw [← Nat.mul_pow] at h3
    refine Nat.le_trans h3 (Nat.pow_le_pow_left ?_ 12)
    show _ ≤ (p.1 ^ p.2.toNat * Num.prodP ps).natAbs
    rw [Int.natAbs_mul, Int.natAbs_pow]
    exact Nat.mul_le_mul_right _ (Nat.le_self_pow (by omega) _)
theorem pap_sz {n : Int} {d : PyData} (h : Num.Pap n d) : 2 ^ (szD d + 2) ≤ n.natAbs ^ 12 ∧ (n = 2 → szD d = 4) := by
  induction h with
  | mk p g ps ds hp h9 hl hP hn hds ih =>
    have p2 := hp.two
    have esz : szD (.tuple [.int p, .int g, .tuple (Num.rowsOf ps ds)]) = 4 + szDs (Num.rowsOf ps ds) := by
      simp only [szD, szDs]
      omega
    have nil2 : p = 2 → ps = [] := fun e => by
      cases ps with
      | nil => rfl
      | cons x r =>
        exfalso
        obtain ⟨o1, o2, _⟩ := hP.ok x (by simp)
        have := Num.dvd_part (ps := x :: r) (p := x) (by simp) o2
        rw [hP.prod, e] at this
        have := Int.le_of_dvd (by decide) this
        have := o1.two
        omega
    refine ⟨?_, fun e => by rw [esz, nil2 e]; rfl⟩
    rw [esz]
    by_cases c : p = 2
    · rw [nil2 c, c]
      show 2 ^ (4 + 0 + 2) ≤ 2 ^ 12
      decide
    · have podd : p % 2 = 1 := by
        rcases (by omega : p % 2 = 1 ∨ p % 2 = 0) with z | z
        · exact z
        · exact absurd (Int.dvd_of_emod_eq_zero z) (hp.no 2 (by decide) (by omega))
      have pm2 : Num.Pm 2 := ⟨by decide, fun d d2 dn => by omega⟩
      obtain ⟨x, hx, ex⟩ := Num.part_mem pm2 (fun x z => (hP.ok x z).1) (by rw [hP.prod]; exact ⟨(p - 1) / 2, by omega⟩)
      cases ps with
      | nil => simp at hx
      | cons y r =>
        have ey : y.1 = 2 := by
          have := (hP.ok y (by simp)).1.two
          rcases List.mem_cons.mp hx with z | z
          · rw [← z]; exact ex
          · have := (List.pairwise_cons.mp hP.rise).1 x z
            omega
        have s0 := (ih 0 y.1 y.2 rfl).2 ey
        have hr := rows_sz (ps := r) (ds := fun i => ds (i + 1)) (fun q hq => ⟨(hP.ok q (List.mem_cons_of_mem _ hq)).1.two, (hP.ok q (List.mem_cons_of_mem _ hq)).2.1⟩) fun i q k hi => (ih (i + 1) q k (by simpa using hi)).1
        rw [rowsOf_cons]
        have e : 4 + szDs (.tuple [ds 0, .int y.2] :: Num.rowsOf r (fun i => ds (i + 1))) + 2 = 12 + szDs (Num.rowsOf r (fun i => ds (i + 1))) := by
          simp only [szDs, szD, s0]
          omega
        rw [e, Nat.pow_add]
        have h3 := Nat.mul_le_mul_left (2 ^ 12) hr
        rw [← Nat.mul_pow] at h3
        refine Nat.le_trans h3 (Nat.pow_le_pow_left ?_ 12)
        have hpr : Num.prodP (y :: r) = p - 1 := hP.prod
        have k1 := (hP.ok y (by simp)).2.1
        have : (Num.prodP (y :: r)).natAbs = 2 ^ y.2.toNat * (Num.prodP r).natAbs := by
          show (y.1 ^ y.2.toNat * Num.prodP r).natAbs = _
          rw [Int.natAbs_mul, Int.natAbs_pow, ey]
          rfl
        rw [hpr] at this
        have h5 : 2 * (Num.prodP r).natAbs ≤ 2 ^ y.2.toNat * (Num.prodP r).natAbs := Nat.mul_le_mul_right _ (Nat.le_self_pow (by omega) _)
        omega
theorem pap_small {n : Int} {d : PyData} (h : Num.Pap n d) : szD d ≤ 358 := by
  have h1 := (pap_sz h).1
  have h9 : n ≤ 10 ^ 9 ∧ 2 ≤ n := by
    cases h with
    | mk _ _ _ _ a b => exact ⟨b, a.two⟩
  have e30 : (2 : Nat) ^ 30 = 1073741824 := by decide
  have h2 : n.natAbs ^ 12 ≤ (2 ^ 30) ^ 12 := Nat.pow_le_pow_left (show n.natAbs ≤ 2 ^ 30 by omega) 12
  rw [← Nat.pow_mul] at h2
  have := (Nat.pow_le_pow_iff_right (by decide : 1 < 2)).mp (Nat.le_trans h1 h2)
  omega
end K
set_option Elab.async false
set_option linter.all false
set_option maxRecDepth 100000
set_option maxHeartbeats 8000000
namespace K
open PySem PySem.Spec PyProof.Rows L2
theorem nm_mul {q a b : Nat} (h : Num.Nm q) (hd : q ∣ a * b) : q ∣ a ∨ q ∣ b := by
  by_cases c : q ∣ a
  · exact .inl c
  · exact .inr ((h.co c).dvd_of_dvd_mul_left hd)
theorem nm_pow {q a : Nat} (h : Num.Nm q) : ∀ {k : Nat}, q ∣ a ^ k → q ∣ a
  | 0, hd => by
    rw [Nat.pow_zero] at hd
    have := Nat.le_of_dvd (by decide) hd
    have := h.1
    omega
  | k + 1, hd => by
    rw [Nat.pow_succ] at hd
    rcases nm_mul h hd with z | z
    · exact nm_pow h z
    · exact z
theorem nm_eq {q p : Nat} (h : Num.Nm q) (hp : Num.Nm p) (hd : q ∣ p) : q = p := by
  have h1 := Nat.le_of_dvd (by have := hp.1; omega) hd
  rcases (by omega : q < p ∨ q = p) with z | z
  · exact absurd hd (hp.2 q h.1 z)
  · exact z
theorem ct_prime {w : Nat} : ∀ {rows : List PyData} {l t : Int}, CT w l t rows → (∀ r ∈ rows, Num.Pm (qD r)) → ∀ {q : Nat}, Num.Nm q → q ∣ l.toNat → ∃ r ∈ rows, qD r = (q : Int)
  | [], l, t, h, _, q, hq, hd => by
    have e : l = 1 := h
    subst e
    have := Nat.le_of_dvd (by decide) hd
    have := hq.1
    have : (1 : Int).toNat = 1 := rfl
    omega
  | d :: ds, l, t, h, hp, q, hq, hd => by
    obtain ⟨l1, p, g, k, rs, more, rfl, e2, e3, e4, e5, r, hw, hc⟩ := h
    have r1 : 1 ≤ r := by
      cases ds with
      | nil => have : r = 1 := hc; omega
      | cons => exact hc.1
    have hpp : Num.Pm p := hp _ (List.mem_cons_self ..)
    rcases hw with ⟨_, z⟩ | ⟨_, z⟩
    · obtain ⟨P', rfl⟩ : ∃ P' : Nat, p = (P' : Int) := ⟨p.toNat, by omega⟩
      obtain ⟨R, rfl⟩ : ∃ R : Nat, r = (R : Int) := ⟨r.toNat, by omega⟩
      have el : l.toNat = P' ^ k.toNat * R := by
        rw [z, ← Int.natCast_pow, ← Int.natCast_mul, Int.toNat_natCast]
      rw [el] at hd
      rcases nm_mul hq hd with y | y
      · have := nm_eq hq (by have := Num.nm_pm hpp; rwa [Int.toNat_natCast] at this) (nm_pow hq y)
        subst this
        exact ⟨_, List.mem_cons_self .., rfl⟩
      · obtain ⟨r', h1, h2⟩ := ct_prime hc (fun r hr => hp r (List.mem_cons_of_mem _ hr)) hq (by rw [Int.toNat_natCast]; exact y)
        exact ⟨r', List.mem_cons_of_mem _ h1, h2⟩
    · omega
theorem al_1 {n x : Int} (hn : 2 ≤ n) : x % n = 1 ↔ Num.Al n x 1 := by
  rw [Num.Al.iff, Int.emod_eq_of_lt (show (0 : Int) ≤ 1 by decide) (show (1 : Int) < n by omega)]
theorem div_nat {e : Int} {q : Nat} (h : 0 ≤ e) : (e / (q : Int)).toNat = e.toNat / q := by
  obtain ⟨m, rfl⟩ : ∃ m : Nat, e = (m : Int) := ⟨e.toNat, by omega⟩
  rw [← Int.natCast_ediv, Int.toNat_natCast, Int.toNat_natCast]
theorem ord_rows {w : Nat} {n a e : Int} {rows : List PyData} (n2 : 2 ≤ n) (e1 : 1 ≤ e) (hc : CT w e 1 rows) (hp : ∀ r ∈ rows, Num.Pm (qD r)) (h1 : a ^ e.toNat % n = 1) (no : ∀ r ∈ rows, a ^ (e / qD r).toNat % n ≠ 1) : Num.Ord n a e.toNat := by
  refine Num.ord_by (by omega) ((al_1 n2).mp h1) fun q hq hd z => ?_
  obtain ⟨r, hr, er⟩ := ct_prime hc hp hq hd
  refine no r hr ?_
  rw [er, div_nat (by omega)]
  exact (al_1 n2).mpr z
def hdD : PyData → Int
  | .tuple (.int p :: _) => p
  | _ => 0
theorem pp_pm' {d : PyData} (h : PP d) : Num.Pm (hdD d) := by
  induction h with
  | mk p g rows hra hrows ih =>
    obtain ⟨p', g', rows', e, p2, g1, g2, c, l⟩ := hra
    cases e
    show Num.Pm p
    refine Num.lucas p2 (ord_rows p2 (by omega) c (fun r hr => ?_) l.1 fun r hr => l.2 _ (List.mem_map_of_mem hr))
    obtain ⟨q, g', k, rs, more, rfl, _⟩ := ct_rows c r hr
    exact ih _ hr
theorem pp_pm {p g : Int} {rows : List PyData} (h : PP (.tuple [.int p, .int g, .tuple rows])) : Num.Pm p := pp_pm' h
end K
set_option Elab.async false
set_option linter.all false
set_option maxRecDepth 100000
set_option maxHeartbeats 8000000
namespace K
open PySem PySem.Spec PyProof.Rows L2
section
variable {P : Program} {w : World} {K : PySem.W.Frag} {mg : Str → Option Value} {base : Heap}
def spPartedA (K : PySem.W.Frag) : Sp := fun vs H Q _ => ∃ n : Int, vs = [.int n] ∧ 1 ≤ n ∧ n ≤ 10 ^ 9 ∧ ∀ ps us p H', Num.Part n ps → ps.length ≤ 29 → Same H H' → H p = none → H' p = some (.lst us) → dvs K H' (ps.map plD) us → Q (.ref p) H'
theorem partedA {L : Nat} {c1 c2 : Addr} (h : Callee P w K mg base (CXE P w) L "parted" ["n"] (spParted K c1 c2)) : Callee P w K mg base (CXE P w) L "parted" ["n"] (spPartedA K) :=
  Callee.imp h fun vs H Q E z => by
    obtain ⟨n, h1, h2, h3, q⟩ := z
    exact ⟨n, h1, fun z => absurd z (by omega), fun z => absurd z (by omega), fun _ _ => q⟩
def spTaken : Sp := fun vs H Q _ => ∃ q m : Int, vs = [.int q, .int m] ∧ 1 ≤ q ∧ 0 ≤ m ∧ m ≤ 10 ^ 9 ∧ q ^ m.toNat ≤ 10 ^ 60 ∧ Q (.int (q ^ m.toNat)) H
theorem pow_mono_e {q : Int} (h : 1 ≤ q) {i j : Nat} (l : i ≤ j) : q ^ i ≤ q ^ j := by
  obtain ⟨k, rfl⟩ : ∃ k, j = i + k := ⟨j - i, by omega⟩
  rw [Pw.pow_add]
  have h1 := Num.pow_pos' (show 0 < q by omega) k
  have h2 := Num.pow_pos' (show 0 < q by omega) i
  have := Int.mul_le_mul_of_nonneg_left (show 1 ≤ q ^ k by omega) (show 0 ≤ q ^ i by omega)
  omega
theorem pow1 (x : Int) : x ^ 1 = x := by rw [Int.pow_succ, Int.pow_zero, Int.one_mul]
theorem sc__law_taken : FnScope [("_law_q" : Str), ("_law_many" : Str), ("_law_found" : Str), ("_law_turn" : Str)] [("_law_q" : Str), ("_law_many" : Str)] (defScope (top 36)) := ⟨rfl, rfl, rfl, by decide +kernel, rfl, by decide +kernel, by decide +kernel⟩
theorem ok_taken (D : DefAt K mg "_law_taken" (top 36)) (n_range : mg "range" = none) : Callee P w K mg base CX0 1 "_law_taken" [("_law_q" : Str), ("_law_many" : Str)] spTaken := by
  refine callee_of D (fun _ _ _ _ _ _ us hl => match us, hl with | [_, _], _ => rfl) sc__law_taken (fun vs H Q E h => by obtain ⟨_, _, rfl, _⟩ := h; rfl) (fun f cdv A outer s H vs Q E hr h => ?_)
  obtain ⟨q', m, rfl, q1, m0, m9, hb, q⟩ := h
  have nd := sc__law_taken.nd
  refine ⟨_, (pss_cons (ps_set (i := 2) nd rfl (Or.inl rfl) pe_int) (pss_cons (ps_for PassesOwn.never rfl (pi_range1 rfl n_range (pa_cons (pv 1) pa_nil)) (pg_name (i := 3) nd rfl (Or.inl rfl) (.inr rfl)) (pss_one (ps_set (i := 2) nd rfl (Or.inl rfl) (pe_op op_mulB (pv 2) (pv 0))))) (pss_one (ps_ret (pv 2))))), ?_⟩
  show tSeq _ _ _ [some (.int q'), some (.int m), none, none] H
  k_data
  refine ⟨by omega, by omega, ?_⟩
  refine loop_range (fun i σ' H' => H' = H ∧ ∃ o, σ' = [some (.int q'), some (.int m), some (.int (q' ^ i)), o]) ⟨rfl, none, by rw [Int.pow_zero]⟩ ?_ ?_
  · rintro i σ' H' hi ⟨rfl, o, rfl⟩
    k_data
    have h1 : q' ^ i ≤ q' ^ m.toNat := pow_mono_e q1 (by omega)
    have h2 : q' ^ 1 ≤ q' ^ m.toNat := pow_mono_e q1 (by omega)
    rw [pow1] at h2
    have h3 := Num.pow_pos' (show 0 < q' by omega) i
    exact ⟨Bd.of (by omega) (by omega), Bd.of (by omega) (by omega), by rw [Int.pow_succ]⟩
  · rintro σ' H' ⟨rfl, o, rfl⟩
    k_data
    have e : (m - 0).toNat = m.toNat := by omega
    first | exact q | (rw [e]; exact q) | (rw [e] at *; exact q)
theorem noLs_all : ∀ {ds : List PyData}, (∀ d ∈ ds, noL d = true) → noLs ds = true
  | [], _ => rfl
  | d :: ds, h => by
    rw [noLs, h d (List.mem_cons_self ..), noLs_all fun e z => h e (List.mem_cons_of_mem _ z)]
    rfl
theorem pap_noL {n : Int} {d : PyData} (h : Num.Pap n d) : noL d = true := by
  induction h with
  | mk n g ps ds h1 h2 h3 h4 h5 h6 ih =>
    simp only [noL, noLs, Bool.and_true, Bool.true_and]
    refine noLs_all fun r hr => ?_
    obtain ⟨i, q, k, h, rfl⟩ := rows_mem hr
    simp only [noL, noLs, Bool.and_true]
    exact ih i q k h
theorem noLs_app : ∀ {ds es : List PyData}, noLs ds = true → noLs es = true → noLs (ds ++ es) = true
  | [], es, _, h => h
  | d :: ds, es, h, h' => by
    have z : noL d = true ∧ noLs ds = true := by simpa [noLs] using h
    rw [List.cons_append, noLs, z.1, noLs_app z.2 h']
    rfl
theorem free_of {H H' : Hp} {p : Addr} (s : Same H H') (h : H' p = none) : H p = none := by
  cases e : H p with
  | none => rfl
  | some o => rw [s _ _ e] at h; cases h
theorem prod_cut : ∀ (a b : List (Int × Int)), Num.prodP (a ++ b) = Num.prodP a * Num.prodP b
  | [], b => by show _ = 1 * _; rw [Int.one_mul]; rfl
  | x :: a, b => by
    show x.1 ^ x.2.toNat * Num.prodP (a ++ b) = x.1 ^ x.2.toNat * Num.prodP a * _
    rw [prod_cut a b, Int.mul_assoc]
theorem prod_perm {a b : List (Int × Int)} (h : a.Perm b) : Num.prodP a = Num.prodP b := by
  induction h with
  | nil => rfl
  | cons x _ ih => show _ * _ = _ * _; rw [ih]
  | swap x y l => show _ * (_ * _) = _ * (_ * _); rw [← Int.mul_assoc, ← Int.mul_assoc, Int.mul_comm (y.1 ^ _)]
  | trans _ _ h1 h2 => rw [h1, h2]
def OkG (ps : List (Int × Int)) : Prop := ∀ x ∈ ps, 2 ≤ x.1 ∧ 1 ≤ x.2 ∧ x.2 ≤ 30
theorem g_two {x : Int × Int} (h : 2 ≤ x.1 ∧ 1 ≤ x.2 ∧ x.2 ≤ 30) : 2 ≤ x.1 ^ x.2.toNat ∧ x.1 ≤ x.1 ^ x.2.toNat := by
  have := pow_mono_e (show 1 ≤ x.1 by omega) (show 1 ≤ x.2.toNat by omega)
  rw [pow1] at this
  omega
theorem g_pos : ∀ {ps : List (Int × Int)}, OkG ps → 1 ≤ Num.prodP ps
  | [], _ => by show (1 : Int) ≤ 1; decide
  | x :: r, h => by
    have h1 := g_two (h x (List.mem_cons_self ..))
    have h2 := g_pos (ps := r) fun y hy => h y (List.mem_cons_of_mem _ hy)
    have h3 := Int.mul_le_mul (show 1 ≤ x.1 ^ x.2.toNat by omega) h2 (by decide) (by omega)
    show 1 ≤ _ * _
    omega
theorem dvs_perm {H : Hp} {zs us : List V} (h : zs.Perm us) : ∀ {ps : List (Int × Int)}, dvs K H (ps.map plD) us → ∃ qs : List (Int × Int), qs.Perm ps ∧ dvs K H (qs.map plD) zs := by
  induction h with
  | nil => intro ps hd; exact ⟨ps, .refl _, hd⟩
  | cons x h ih =>
    intro ps hd
    cases ps with
    | nil => cases hd
    | cons p r =>
      obtain ⟨y, l, e, h1, h2⟩ := hd
      cases e
      obtain ⟨qs, h3, h4⟩ := ih h2
      exact ⟨p :: qs, h3.cons _, _, _, rfl, h1, h4⟩
  | swap x y l =>
    intro ps hd
    cases ps with
    | nil => cases hd
    | cons p r =>
      obtain ⟨y', l', e, h1, h2⟩ := hd
      cases e
      cases r with
      | nil => cases h2
      | cons p' r =>
        obtain ⟨y', l', e, h3, h4⟩ := h2
        cases e
        exact ⟨p' :: p :: r, .swap _ _ _, _, _, rfl, h3, _, _, rfl, h1, h4⟩
  | trans h1 h2 ih1 ih2 =>
    intro ps hd
    obtain ⟨qs, a, b⟩ := ih2 hd
    obtain ⟨rs, c, d⟩ := ih1 b
    exact ⟨rs, c.trans a, d⟩
theorem dvs_split {H : Hp} : ∀ {ds es : List PyData} {xs : List V}, dvs K H (ds ++ es) xs → ∃ ys zs, xs = ys ++ zs ∧ dvs K H ds ys ∧ dvs K H es zs
  | [], es, xs, h => ⟨[], xs, rfl, rfl, h⟩
  | d :: ds, es, _, ⟨x, r, rfl, h1, h2⟩ => by
    obtain ⟨ys, zs, rfl, h3, h4⟩ := dvs_split h2
    exact ⟨x :: ys, zs, rfl, ⟨_, _, rfl, h1, h3⟩, h4⟩
theorem pl_dv {H : Hp} {p : Int × Int} {x : V} (h : dv K H (plD p) x) : ∃ t, x = .ref t ∧ SqT K H t [.int p.1, .int p.2] := by
  obtain ⟨t, xs, rfl, hT, y1, r1, rfl, d1, y2, r2, rfl, d2, z⟩ := h
  cases z
  cases d1
  cases d2
  exact ⟨t, rfl, hT⟩
def IvG (K : PySem.W.Frag) (H2 : Hp) (p2 : Addr) (n : Int) (ps0 : List (Int × Int)) (i : Nat) (σ : List (Option V)) (H' : Hp) : Prop := SameBut p2 H2 H' ∧ ∃ (m : Int) (o3 o4 o5 : Option V) (ps : List (Int × Int)) (us : List V), σ = [some (.int n), some (.int m), some (.ref p2), o3, o4, o5] ∧ 0 ≤ m ∧ H' p2 = some (.lst us) ∧ dvs K H' (ps.map plD) us ∧ OkG ps ∧ Num.prodP ps = Num.prodP (ps0.take i) ∧ ps.length ≤ i
def spGroups (K : PySem.W.Frag) : Sp := fun vs H Q _ => ∃ n m : Int, vs = [.int n, .int m] ∧ 1 ≤ n ∧ n ≤ 10 ^ 9 ∧ 0 ≤ m ∧ ∀ ps us p H', OkG ps → Num.prodP ps = n → ps.length ≤ 29 → Same H H' → H p = none → H' p = some (.lst us) → dvs K H' (ps.map plD) us → Q (.ref p) H'
theorem sc__law_groups : FnScope [("_law_n" : Str), ("_law_number" : Str), ("_law_groups_here" : Str), ("_law_q" : Str), ("_law_many" : Str), ("_law_before" : Str)] [("_law_n" : Str), ("_law_number" : Str)] (defScope (top 37)) := ⟨rfl, rfl, rfl, by decide +kernel, rfl, by decide +kernel, by decide +kernel⟩
theorem ok_groups (D : DefAt K mg "_law_groups" (top 37)) (c_parted : Callee P w K mg base (CXE P w) 3 "parted" ["n"] (spPartedA K)) (c__law_taken : Callee P w K mg base CX0 1 "_law_taken" ["_law_q", "_law_many"] spTaken) (n_len : mg "len" = none) (n_sorted : mg "sorted" = none) : Callee P w K mg base CX0 4 "_law_groups" [("_law_n" : Str), ("_law_number" : Str)] (spGroups K) := by
  refine callee_of D (fun _ _ _ _ _ _ us hl => match us, hl with | [_, _], _ => rfl) sc__law_groups (fun vs H Q E h => by obtain ⟨_, _, rfl, _⟩ := h; rfl) (fun f cdv A outer s H vs Q E hr h => ?_)
  obtain ⟨n, m, rfl, n1, n9, m0, q⟩ := h
  have nd := sc__law_groups.nd
  refine ⟨_, (pss_cons (ps_set (i := 2) nd rfl (Or.inl rfl) (pe_lst pa_nil)) (pss_cons (ps_for PassesOwn.never rfl (pi_list (pe_callC c_parted (hr.mono (by decide)) rfl pass_never (pa_cons (pv 0) pa_nil))) (pg_tup (n := 2) rfl (pgs_cons (pg_name (i := 3) nd rfl (Or.inl rfl) (.inr rfl)) (pgs_cons (pg_name (i := 4) nd rfl (Or.inl rfl) (.inr rfl)) pgs_nil))) (pss_cons (ps_set (i := 1) nd rfl (Or.inl rfl) (pe_op op_divB (pv 1) pe_int)) (pss_one (ps_if (PW.pt (pw_and (pt_cmpR op_gt (pe_callB call_lenS rfl n_len PySem.boot_len (pa_cons (pv 2) pa_nil)) pe_int (nomark _)) (pw_and1 (pt_cmpR op_eq (pe_op op_mod (pv 1) pe_int) pe_int (nomark _))))) (pss_cons (ps_set (i := 5) nd rfl (Or.inl rfl) (pe_bm0 PySem.F.plainAttrs_list PySem.F.slot_list_pop PySem.F.type_list_pop mt_pop (pv 2))) (pss_one (ps_expr (pe_bm PySem.F.plainAttrs_list PySem.F.slot_list_append PySem.F.type_list_append mt_append (pv 2) (pa_cons (pe_tup (pa_cons (pe_op op_mulB (pe_callC c__law_taken (hr.mono (by decide)) rfl pass0 (pa_cons (pe_ix ix_tup (pv 5) pe_int (fun _ _ => rfl)) (pa_cons (pe_ix ix_tup (pv 5) pe_int (fun _ _ => rfl)) pa_nil))) (pe_callC c__law_taken (hr.mono (by decide)) rfl pass0 (pa_cons (pv 3) (pa_cons (pv 4) pa_nil)))) (pa_cons pe_int pa_nil))) pa_nil))))) (pss_one (ps_expr (pe_bm PySem.F.plainAttrs_list PySem.F.slot_list_append PySem.F.type_list_append mt_append (pv 2) (pa_cons (pe_tup (pa_cons (pv 3) (pa_cons (pv 4) pa_nil))) pa_nil)))))))) (pss_one (ps_ret (pe_callB call_sortedP rfl n_sorted PyProof.Rows.boot_sorted (pa_cons (pv 2) pa_nil)))))), ?_⟩
  show tSeq _ _ _ [some (.int n), some (.int m), none, none, none, none] H
  k_data
  refine ⟨by show 0 ≤ sizeLine; decide, fun p2 hp2 => ?_⟩
  have s1 := same_upd (o := .lst []) hp2
  have e1 : upd H p2 (.lst []) p2 = some (.lst []) := upd_same
  generalize upd H p2 _ = H1 at *
  refine ⟨n, rfl, n1, n9, fun ps0 us0 p1 H2 hP pl s2 f1 e2 d2 => ?_⟩
  have u0 := d2.length
  rw [List.length_map] at u0
  have okP : OkG ps0 := fun x hx => ⟨(hP.ok x hx).1.two, (hP.ok x hx).2⟩
  have np : p1 ≠ p2 := fun z => by rw [z, e1] at f1; cases f1
  refine ⟨p1, rfl, ⟨_, SqL.of e2⟩, ?_⟩
  refine loop_list (xs := us0) (IvG K H2 p2 n ps0) ⟨fun _ _ _ h => h, m, none, none, none, [], [], rfl, m0, s2 _ _ e1, rfl, fun _ z => (List.not_mem_nil z).elim, rfl, Nat.le_refl _⟩ (fun i σ' H' _ h => SqL.of (h.1 _ _ np e2)) ?_ ?_
  · rintro i x σ' H3 hx ⟨s3, m', o3, o4, o5, ps, us, rfl, m0', e3, d3, okg, pr, pl3⟩
    obtain ⟨r, hr', hvr⟩ := d2.get hx
    rw [List.getElem?_map] at hr'
    obtain ⟨pq, hpq, rfl⟩ := Option.map_eq_some_iff.mp hr'
    have il : i < us0.length := (List.getElem?_eq_some_iff.mp hx).1
    have okq := okP pq (List.mem_of_getElem? hpq)
    obtain ⟨t, rfl, hT⟩ := pl_dv (dv.but (s2 _ _ e1) s3 _ rfl hvr)
    have tk : Num.prodP (ps0.take (i + 1)) = Num.prodP ps * pq.1 ^ pq.2.toNat := by
      rw [List.take_add_one, hpq, Option.toList_some, Num.prodP_snoc, pr]
    have le : Num.prodP ps * pq.1 ^ pq.2.toNat ≤ 10 ^ 9 := by
      have h1 := prod_cut (ps0.take (i + 1)) (ps0.drop (i + 1))
      rw [List.take_append_drop, hP.prod, tk] at h1
      have h2 : 1 ≤ Num.prodP (ps0.drop (i + 1)) := g_pos fun x hx => okP x (List.mem_of_mem_drop hx)
      have h3 : 1 ≤ Num.prodP ps * pq.1 ^ pq.2.toNat := by rw [← tk]; exact g_pos fun x hx => okP x (List.mem_of_mem_take hx)
      have := Int.mul_le_mul_of_nonneg_left h2 (show 0 ≤ Num.prodP ps * pq.1 ^ pq.2.toNat by omega)
      omega
    have pp := g_pos okg
    have q2' := g_two okq
    have ql : pq.1 ^ pq.2.toNat ≤ 10 ^ 9 := by
      have := Int.mul_le_mul_of_nonneg_right pp (show 0 ≤ pq.1 ^ pq.2.toNat by omega)
      omega
    have ul := d3.length
    rw [List.length_map] at ul
    refine ⟨t, _, rfl, hT, rfl, ?_⟩
    k_data
    have app : ∀ {H4 : Hp} {us4 : List V} {ps4 : List (Int × Int)} {m4 a b : Int} {o3 o4 o5 : Option V}, SameBut p2 H2 H4 → 0 ≤ m4 → H4 p2 = some (.lst us4) → dvs K H4 (ps4.map plD) us4 → OkG ps4 → (2 ≤ a ∧ 1 ≤ b ∧ b ≤ 30) → Num.prodP ps4 * a ^ b.toNat = Num.prodP (ps0.take (i + 1)) → ps4.length ≤ i →
        [V.int a, V.int b].length ≤ sizeLine ∧ ∀ (p : Addr), H4 p = none → rAppend (.ref p2) [V.ref p] (upd H4 p (HO.tup [V.int a, V.int b])) fun x H1 => IvG K H2 p2 n ps0 (i + 1) [some (.int n), some (.int m4), some (.ref p2), o3, o4, o5] H1 := by
      intro H4 us4 ps4 m4 a b o3 o4 o5 s4 m0 e4 d4 okg4 hab pr4 pl4
      refine ⟨by show 2 ≤ sizeLine; decide, fun p5 hp5 => ?_⟩
      have s5 := same_upd (o := .tup [V.int a, V.int b]) hp5
      have e5 : upd H4 p5 (.tup [V.int a, V.int b]) p5 = some (.tup [V.int a, V.int b]) := upd_same
      have n5 : p5 ≠ p2 := fun z => by rw [z, e4] at hp5; cases hp5
      generalize upd H4 p5 _ = H5 at *
      have ul4 := d4.length
      rw [List.length_map] at ul4
      refine ⟨p2, us4, .ref p5, rfl, rfl, s5 _ _ e4, Nat.lt_of_le_of_lt (show us4.length ≤ 29 by omega) (by decide), ?_⟩
      refine ⟨fun b o nb h => by rw [upd_ne nb]; exact s5 _ _ (s4 b o nb h), m4, o3, o4, o5, ps4 ++ [(a, b)], us4 ++ [.ref p5], rfl, m0, upd_same, ?_, ?_, ?_, ?_⟩
      · rw [List.map_append]
        refine dvs.append (dvs.but (s5 _ _ e4) (fun b o ne h => by rw [upd_ne ne]; exact h) _ (noLs_map (fun _ => rfl) ps4) (dvs.same s5 _ d4)) (.one (dv.tup (xs := [V.int a, V.int b]) ?_ ⟨_, _, rfl, rfl, .one rfl⟩))
        rw [upd_ne n5]
        exact e5
      · intro x hx
        rcases List.mem_append.mp hx with z | z
        · exact okg4 x z
        · rw [List.mem_singleton.mp z]; exact hab
      · rw [Num.prodP_snoc]; exact pr4
      · rw [List.length_append]
        show _ + 1 ≤ _
        omega
    refine ⟨Bd.of (by omega) (by omega), ?_⟩
    have plain := @app H3 us ps (m' / 3) pq.1 pq.2 (some (.int pq.1)) (some (.int pq.2)) o5 s3 (by omega) e3 d3 okg okq tk.symm pl3
    have ty3 : tyV K "list" (.ref p2) H3 := .inl ⟨rfl, _, SqL.of e3⟩
    refine len_lst (SqL.of e3) ⟨_, rfl, ite2 (fun c1 => ite2 (fun c2 => ?_) fun c2 => ⟨ty3, plain⟩) fun c1 => ⟨ty3, plain⟩⟩
    clear plain
    obtain ⟨ps', x', rfl⟩ : ∃ ps' x', ps = ps' ++ [x'] := by
      rcases List.eq_nil_or_concat ps with z | ⟨l, b, z⟩
      · rw [z] at ul
        have : us.length = 0 := ul
        omega
      · exact ⟨l, b, by rw [z, List.concat_eq_append]⟩
    rw [List.map_append] at d3
    obtain ⟨us', us2, rfl, da, db⟩ := dvs_split d3
    obtain ⟨u, r, rfl, dx, z⟩ := db
    cases z
    obtain ⟨t', rfl, hT'⟩ := pl_dv dx
    have lx : (us' ++ [V.ref t'])[(us' ++ [V.ref t']).length - 1]? = some (V.ref t') := by simp
    refine ⟨ty3, p2, _, _, rfl, rfl, e3, lx, ?_⟩
    rw [List.dropLast_concat]
    have but4 : SameBut p2 H3 (upd H3 p2 (.lst us')) := fun b o nb h => by rw [upd_ne nb]; exact h
    have e4 : upd H3 p2 (.lst us') p2 = some (.lst us') := upd_same
    have d4 := dvs.but e3 but4 _ (noLs_map (fun _ => rfl) ps') da
    obtain ⟨t2, e2', hT4⟩ := pl_dv (dv.but e3 but4 _ rfl dx)
    cases e2'
    generalize upd H3 p2 _ = H4 at *
    have okx := okg x' (List.mem_append_right _ (List.mem_singleton.mpr rfl))
    have x2 := g_two okx
    rw [Num.prodP_snoc] at le tk pr pp
    have okg' : OkG ps' := fun y hy => okg y (List.mem_append_left _ hy)
    have pp' := g_pos okg'
    have hle : x'.1 ^ x'.2.toNat * pq.1 ^ pq.2.toNat ≤ 10 ^ 9 := by
      rw [Int.mul_assoc] at le
      have h1 := Int.mul_le_mul (show 1 ≤ x'.1 ^ x'.2.toNat by omega) (show 1 ≤ pq.1 ^ pq.2.toNat by omega) (by decide) (by omega)
      have := Int.mul_le_mul_of_nonneg_right pp' (show 0 ≤ x'.1 ^ x'.2.toNat * pq.1 ^ pq.2.toNat by omega)
      omega
    have xl : x'.1 ^ x'.2.toNat ≤ 10 ^ 9 := by
      have := Int.mul_le_mul_of_nonneg_left (show 1 ≤ pq.1 ^ pq.2.toNat by omega) (show 0 ≤ x'.1 ^ x'.2.toNat by omega)
      omega
    have g2 : 2 ≤ x'.1 ^ x'.2.toNat * pq.1 ^ pq.2.toNat := by
      have := Int.mul_le_mul (show 2 ≤ x'.1 ^ x'.2.toNat by omega) (show 1 ≤ pq.1 ^ pq.2.toNat by omega) (by decide) (by omega)
      omega
    refine ⟨.inl ⟨rfl, _, SqL.of e4⟩, ix_t hT4 at0 (ix_t hT4 at1 ⟨_, _, rfl, by omega, by omega, by omega, by omega, _, _, rfl, by omega, by omega, by omega, by omega, _, rfl, _, rfl, Bd.of (by omega) (by omega), Bd.of (by omega) (by omega), ?_⟩)⟩
    rw [List.length_append] at pl3
    refine app (fun b o nb h => but4 b o nb (s3 b o nb h)) (by omega) e4 d4 okg' ⟨g2, by decide, by decide⟩ ?_ (by have : [x'].length = 1 := rfl; omega)
    rw [tk, Int.mul_assoc]
    show _ * _ ^ 1 = _
    rw [pow1]
  · rintro σ' H3 ⟨s3, m', o3, o4, o5, ps, us, rfl, m0', e3, d3, okg, pr, pl3⟩
    k_data
    have ul := d3.length
    rw [List.length_map] at ul
    have S3 : Same H H3 := fun b o h => s3 b o (fun z => by rw [z, hp2] at h; cases h) (s2 _ _ (s1 _ _ h))
    refine ⟨p2, us, rfl, SqL.of e3, by omega, fun y hy => ?_, fun p4 zs hz hp4 => ?_⟩
    · obtain ⟨j, hj, ej⟩ := List.getElem_of_mem hy
      obtain ⟨d, hd, hv⟩ := d3.get (List.getElem?_eq_some_iff.mpr ⟨hj, ej⟩)
      rw [List.getElem?_map] at hd
      obtain ⟨pq, _, rfl⟩ := Option.map_eq_some_iff.mp hd
      obtain ⟨t, rfl, hT⟩ := pl_dv hv
      exact ⟨t, _, _, rfl, hT⟩
    · have s4 := same_upd (o := .lst zs) hp4
      obtain ⟨qs, h1, h2⟩ := dvs_perm hz (dvs.same s4 _ d3)
      refine q qs zs p4 _ (fun x hx => okg x (h1.mem_iff.mp hx)) ?_ ?_ (S3.trans s4) (free_of S3 hp4) upd_same h2
      · rw [prod_perm h1, pr, u0, List.take_length, hP.prod]
      · rw [h1.length_eq]; omega
end
end K
set_option Elab.async false
set_option linter.all false
set_option maxRecDepth 100000
set_option maxHeartbeats 8000000
namespace K
open PySem PySem.Spec PyProof.Rows L2
section
variable {P : Program} {w : World} {K : PySem.W.Frag} {mg : Str → Option Value} {base : Heap}
def spIsPrime : Sp := fun vs H Q _ => ∃ n : Int, vs = [.int n] ∧ n ≤ 10 ^ 60 ∧ ∀ b : Bool, (b = true ↔ Num.Pm n) → Q (.bl b) H
theorem pm_of {n d : Int} (hn : 1 < n) (d2 : 2 ≤ d) (no : ∀ k, 2 ≤ k → k < d → ¬ k ∣ n) (h : n < d * d) : Num.Pm n := ⟨by omega, fun e e2 en hd => by
  rcases (by omega : e < d ∨ d ≤ e) with z | z
  · exact no e e2 z hd
  · obtain ⟨c, hc⟩ := hd
    have c2 : 2 ≤ c := by
      rcases (by omega : c ≤ 0 ∨ c = 1 ∨ 2 ≤ c) with y | y | y
      · have := Int.mul_nonpos_of_nonneg_of_nonpos (show 0 ≤ e by omega) y
        omega
      · rw [y] at hc
        omega
      · exact y
    have cd : c < d := by
      rcases (by omega : c < d ∨ d ≤ c) with y | y
      · exact y
      · have := Int.mul_le_mul z y (by omega) (by omega)
        omega
    exact no c c2 cd ⟨e, by rw [hc, Int.mul_comm]⟩⟩
theorem sc__law_is_prime : FnScope [("_law_n" : Str), ("_law_d" : Str)] [("_law_n" : Str)] (defScope (top 35)) := ⟨rfl, rfl, rfl, by decide +kernel, rfl, by decide +kernel, by decide +kernel⟩
theorem ok_lprime (D : DefAt K mg "_law_is_prime" (top 35)) : Callee P w K mg base CX0 1 "_law_is_prime" [("_law_n" : Str)] spIsPrime := by
  refine callee_of D (fun _ _ _ _ _ _ us hl => match us, hl with | [_], _ => rfl) sc__law_is_prime (fun vs H Q E h => by obtain ⟨_, rfl, _⟩ := h; rfl) (fun f cdv A outer s H vs Q E hr h => ?_)
  obtain ⟨n, rfl, hn, q⟩ := h
  have nd := sc__law_is_prime.nd
  refine ⟨_, (pss_cons (ps_set (i := 1) nd rfl (Or.inl rfl) pe_int) (pss_cons (ps_while PassesOwn.never (pt_cmpR op_le (pe_op op_mulB (pv 1) (pv 1)) (pv 0) (nomark _)) (pss_cons (ps_if (pt_cmpR op_eq (pe_op op_mod (pv 0) (pv 1)) pe_int (nomark _)) (pss_one (ps_ret pe_bl)) pss_nil) (pss_one (ps_set (i := 1) nd rfl (Or.inl rfl) (pe_op op_add (pv 1) pe_int))))) (pss_one (ps_ret (pe_cmpR op_gt (pv 0) pe_int (nomark _)))))), ?_⟩
  show tSeq _ _ _ [some (.int n), none] H
  k_data
  refine while_st (α := Int) (fun x => [some (.int n), some (.int x)]) (fun x H1 => H1 = H ∧ 2 ≤ x ∧ x ≤ 10 ^ 60 + 2 ∧ ∀ k, 2 ≤ k → k < x → ¬ k ∣ n) (fun x => (n + 2 - x).toNat) 2 rfl ⟨rfl, by omega, by omega, fun k k1 k2 => by omega⟩ ?_
  rintro x H1 ⟨rfl, x2, x3, no⟩
  replace x2 : 2 ≤ x := x2
  replace x3 : x ≤ 10 ^ 60 + 2 := x3
  replace no : ∀ k, 2 ≤ k → k < x → ¬ k ∣ n := no
  k_data
  refine ⟨Bd.of (by omega) (by omega), Bd.of (by omega) (by omega), ?_⟩
  refine ite2 (fun c => ?_) (fun c => ?_)
  · have xn : x < n := by
      have := Int.mul_le_mul_of_nonneg_left x2 (show 0 ≤ x by omega)
      omega
    refine ⟨_, fun _ _ z => z, by omega, ?_⟩
    refine ite2 (fun c2 => ?_) (fun c2 => ?_)
    · exact q false ⟨fun z => (by cases z), fun z => absurd (Int.dvd_of_emod_eq_zero c2) (z.no x x2 xn)⟩
    · refine ⟨x + 1, rfl, rfl, by omega, by omega, fun k k1 k2 => ?_, by omega⟩
      rcases (by omega : k < x ∨ k = x) with z | z
      · exact no k k1 z
      · rw [z]; exact fun y => c2 (Int.emod_eq_zero_of_dvd y)
  · refine q _ ⟨fun z => ?_, fun z => ?_⟩
    · exact pm_of (of_decide_eq_true z) x2 no (by omega)
    · exact decide_eq_true (show 1 < n by have := z.two; omega)
end
end K
set_option Elab.async false
set_option linter.all false
set_option maxRecDepth 100000
set_option maxHeartbeats 8000000
namespace K
open PySem PySem.Spec PyProof.Rows L2
section
variable {P : Program} {w : World} {K : PySem.W.Frag} {mg : Str → Option Value} {base : Heap}
theorem cut_ints {ns : List Int} {lo hi : Option Int} {x : V} (h : x ∈ cutV (ns.map V.int) lo hi) : ∃ c, x = .int c := by
  unfold cutV at h
  have := List.mem_of_mem_drop (List.mem_of_mem_take h)
  obtain ⟨c, _, e⟩ := List.mem_map.mp this
  exact ⟨c, e.symm⟩
theorem ix_two {x y k lo hi : Int} {p : Addr} {H' : Hp} {Q : VK} (e : H' p = some (.lst [.int x, .int y])) (h0 : 0 ≤ k) (h1 : k < 2) (hx : lo ≤ x ∧ x < hi) (hy : lo ≤ y ∧ y < hi) (q : ∀ m, lo ≤ m → m < hi → Q (.int m) H') : rIxL K (.ref p) (.int k) H' Q :=
  ix_some (SqL.of e) h0 (by show _ < (2 : Int); omega) fun v hv => by
    simp only [List.mem_cons, List.not_mem_nil, or_false] at hv
    rcases hv with rfl | rfl
    · exact q _ hx.1 hx.2
    · exact q _ hy.1 hy.2
theorem quo {a d L : Int} (hd : 0 < d) (h0 : -L ≤ a) (h1 : a ≤ L) : -L ≤ a / d ∧ a / d ≤ L := by
  have L0 : 0 ≤ L := by omega
  have h2 : L * 1 ≤ L * d := Int.mul_le_mul_of_nonneg_left (show 1 ≤ d by omega) L0
  refine ⟨Int.le_ediv_of_mul_le hd (by rw [Int.neg_mul]; omega), Int.ediv_le_of_le_mul hd (by omega)⟩
def spLaw (K : PySem.W.Frag) : Sp := fun vs H Q _ => ∃ (a : Addr) (ns : List Int), vs = [.ref a] ∧ SqL K H a (ns.map V.int) ∧ ns.length ≤ 63 ∧ ∀ H', Q (.bl true) H'
end
end K
set_option Elab.async false
set_option linter.all false
set_option maxRecDepth 100000
set_option maxHeartbeats 8000000
namespace K
open PySem PySem.Spec PyProof.Rows L2
section
variable {P : Program} {w : World} {K : PySem.W.Frag} {mg : Str → Option Value} {base : Heap}
theorem atI_nat {α : Type} {xs : List α} {i : Nat} {v : α} (h : xs[i]? = some v) : atI xs (i : Int) = some v := by
  have hl := (List.getElem?_eq_some_iff.mp h).1
  unfold atI ixN
  rw [if_pos (by omega), if_pos (by omega), Option.bind_some, Int.toNat_natCast]
  exact h
theorem pap_le {n : Int} {d : PyData} (h : Num.Pap n d) : n ≤ 10 ^ 9 ∧ 2 ≤ n := by
  cases h with
  | mk _ _ _ _ a b => exact ⟨b, a.two⟩
def sumQ : List (Int × Int) → Int
  | [] => 0
  | p :: r => p.1 + sumQ r
theorem sum_le : ∀ {ps : List (Int × Int)}, OkG ps → sumQ ps ≤ Num.prodP ps ∧ 0 ≤ sumQ ps
  | [], _ => ⟨by show (0 : Int) ≤ 1; decide, Int.le_refl _⟩
  | [x], h => by
    have h1 := g_two (h x (List.mem_cons_self ..))
    have h0 := h x (List.mem_cons_self ..)
    refine ⟨?_, ?_⟩
    · show x.1 + 0 ≤ x.1 ^ x.2.toNat * 1
      omega
    · show 0 ≤ x.1 + 0
      omega
  | x :: y :: r, h => by
    have h1 := g_two (h x (List.mem_cons_self ..))
    have h0 := h x (List.mem_cons_self ..)
    have hr : OkG (y :: r) := fun z hz => h z (List.mem_cons_of_mem _ hz)
    have ih := sum_le hr
    have y2 := g_two (hr y (List.mem_cons_self ..))
    have r1 := g_pos (ps := r) fun z hz => hr z (List.mem_cons_of_mem _ hz)
    have p2 : 2 ≤ Num.prodP (y :: r) := by
      have := Int.mul_le_mul (show 2 ≤ y.1 ^ y.2.toNat by omega) r1 (by decide) (by omega)
      show 2 ≤ y.1 ^ y.2.toNat * Num.prodP r
      omega
    refine ⟨?_, ?_⟩
    · show x.1 + sumQ (y :: r) ≤ x.1 ^ x.2.toNat * Num.prodP (y :: r)
      generalize x.1 ^ x.2.toNat = A at *
      generalize Num.prodP (y :: r) = B at *
      have h3 : 0 ≤ (A - 2) * (B - 2) := Int.mul_nonneg (by omega) (by omega)
      have h4 : (A - 2) * (B - 2) = A * B - 2 * A - 2 * B + 4 := by grind
      omega
    · show 0 ≤ x.1 + sumQ (y :: r)
      omega
theorem sum_app : ∀ (a : List (Int × Int)) (x : Int × Int), sumQ (a ++ [x]) = sumQ a + x.1
  | [], x => by show x.1 + 0 = 0 + x.1; omega
  | y :: a, x => by
    show y.1 + sumQ (a ++ [x]) = y.1 + sumQ a + x.1
    rw [sum_app a x]; omega
theorem sum_take {ps : List (Int × Int)} (h : OkG ps) (i : Nat) : sumQ (ps.take i) ≤ sumQ ps := by
  have h1 : ∀ a b : List (Int × Int), sumQ (a ++ b) = sumQ a + sumQ b := by
    intro a
    induction a with
    | nil => intro b; show sumQ b = 0 + sumQ b; omega
    | cons x a ih => intro b; show x.1 + sumQ (a ++ b) = x.1 + sumQ a + sumQ b; rw [ih]; omega
  have h2 := h1 (ps.take i) (ps.drop i)
  rw [List.take_append_drop] at h2
  have h3 := (sum_le (ps := ps.drop i) fun x hx => h x (List.mem_of_mem_drop hx)).2
  omega
structure Th (n : Int) (d : PyData) : Prop where
  sm : smD d
  sz : (szD d : Int) ≤ 180 * n
  nl : noL d = true
theorem pap_th {n : Int} {d : PyData} (h : Num.Pap n d) : Th n d := ⟨pap_sm h, by have := pap_small h; have := pap_le h; omega, pap_noL h⟩
def spThing22 (K : PySem.W.Frag) (L : Nat) : Sp := fun vs H Q _ => ∃ (n dp : Int) (pr : Addr) (xs : List Int), vs = [.int n, .ref pr, .int dp] ∧ 2 ≤ n ∧ n ≤ 10 ^ 6 ∧ 0 ≤ dp ∧ dp ≤ 3 ∧ dp + (L : Int) = 4 ∧ H pr = some (.lst (xs.map V.int)) ∧ xs.length = 7 ∧ (∀ x ∈ xs, In60 x) ∧ ∀ g rows v H', Th n (.tuple [.int n, .int g, .tuple rows]) → Same H H' → dv K H' (.tuple [.int n, .int g, .tuple rows]) v → Q v H'
def IvT (K : PySem.W.Frag) (H : Hp) (pp : Addr) (s0 : List (Option V)) (ps : List (Int × Int)) (i : Nat) (σ : List (Option V)) (H' : Hp) : Prop := SameBut pp H H' ∧ ∃ (o6 o7 : Option V) (rs : List PyData) (us : List V), σ = s0 ++ [o6, o7] ∧ H' pp = some (.lst us) ∧ dvs K H' rs us ∧ noLs rs = true ∧ (∀ r ∈ rs, smD r) ∧ (szDs rs : Int) ≤ 2 * (i : Int) + 180 * sumQ (ps.take i) ∧ rs.length = i
def IvF (H : Hp) (s0 : List (Option V)) (σ : List (Option V)) (H' : Hp) : Prop := Same H H' ∧ ∃ g : Int, g ≤ 10 ^ 110 ∧ σ = s0 ++ [some (.int g), none, none, none]
theorem sc__law_thing : FnScope [("_law_n" : Str), ("_law_numbers" : Str), ("_law_deep" : Str), ("_law_number" : Str), ("_law_full" : Str), ("_law_parts" : Str), ("_law_q" : Str), ("_law_many" : Str)] [("_law_n" : Str), ("_law_numbers" : Str), ("_law_deep" : Str)] (defScope (top 38)) := ⟨rfl, rfl, rfl, by decide +kernel, rfl, by decide +kernel, by decide +kernel⟩
theorem ok_thing0 (D : DefAt K mg "_law_thing" (top 38)) : Callee P w K mg base CX0 69 "_law_thing" [("_law_n" : Str), ("_law_numbers" : Str), ("_law_deep" : Str)] (spThing22 K 0) := by
  refine callee_of D (fun _ _ _ _ _ _ us hl => match us, hl with | [_, _, _], _ => rfl) sc__law_thing (fun vs H Q E h => by obtain ⟨_, _, _, _, rfl, _⟩ := h; rfl) (fun f cdv A outer s H vs Q E hr h => ?_)
  obtain ⟨n, dp, pr, xs, rfl, n2, n9, d0, d3, dl, _⟩ := h
  exact absurd dl (by omega)
theorem ok_thingS {L : Nat} (D : DefAt K mg "_law_thing" (top 38)) (c__law_thing : Callee P w K mg base CX0 (L + 69) "_law_thing" ["_law_n", "_law_numbers", "_law_deep"] (spThing22 K L)) (c__law_is_prime : Callee P w K mg base CX0 1 "_law_is_prime" ["_law_n"] spIsPrime) (c_prime_paper : Callee P w K mg base (CXE P w) 67 "prime_paper" ["n"] (spPaperA K)) (c__law_groups : Callee P w K mg base CX0 4 "_law_groups" ["_law_n", "_law_number"] (spGroups K)) (n_max : mg "max" = none) (n_tuple : mg "tuple" = none) : Callee P w K mg base CX0 (L + 70) "_law_thing" [("_law_n" : Str), ("_law_numbers" : Str), ("_law_deep" : Str)] (spThing22 K (L + 1)) := by
  refine callee_of D (fun _ _ _ _ _ _ us hl => match us, hl with | [_, _, _], _ => rfl) sc__law_thing (fun vs H Q E h => by obtain ⟨_, _, _, _, rfl, _⟩ := h; rfl) (fun f cdv A outer s H vs Q E hr h => ?_)
  obtain ⟨n, dp, pr, xs, rfl, n2, n9, d0, d3, dl, hpr, xl, h60, q⟩ := h
  have nd := sc__law_thing.nd
  refine ⟨_, (pss_cons (ps_set (i := 3) nd rfl (Or.inl rfl) (pe_ix ix_list (pv 1) (pv 2) (fun _ _ => rfl))) (pss_cons (ps_set (i := 4) nd rfl (Or.inl rfl) (pe_op op_add pe_int (pe_op op_mod (pv 3) (pe_callB (call_max2 rfl) rfl n_max L2.boot_max (pa_cons pe_int (pa_cons (pe_op op_sub (pv 0) pe_int) pa_nil)))))) (pss_cons (ps_cut (ps_if (pt_cmpR op_eq (pe_op op_mod (pe_op op_divB (pv 3) pe_int) pe_int) pe_int (nomark _)) (pss_one (ps_set (i := 4) nd rfl (Or.inl rfl) (pe_ix ix_list (pe_lst (pa_cons pe_int (pa_cons (pe_op op_sub (pv 0) pe_int) pa_nil))) (pe_op op_mod (pe_op op_divB (pv 3) pe_int) pe_int) (fun _ _ => rfl)))) pss_nil)) (pss_cons (ps_cut (ps_if (PW.pt (pw_and (pt_cmpR op_eq (pe_op op_mod (pe_op op_divB (pv 3) pe_int) pe_int) pe_int (nomark _)) (pw_and1 (pt_truth (pe_callC c__law_is_prime (hr.mono (by omega)) rfl pass0 (pa_cons (pv 0) pa_nil)) (fun _ => rfl))))) (pss_one (ps_set (i := 4) nd rfl (Or.inl rfl) (pe_ix ix_tup (pe_callC c_prime_paper (hr.mono (by omega)) rfl pass_never (pa_cons (pv 0) pa_nil)) pe_int (fun _ _ => rfl)))) pss_nil)) (pss_cons (ps_set (i := 5) nd rfl (Or.inl rfl) (pe_lst pa_nil)) (pss_cons (ps_for PassesOwn.never rfl (pi_list (pe_callC c__law_groups (hr.mono (by omega)) rfl pass0 (pa_cons (pe_op op_sub (pv 0) pe_int) (pa_cons (pe_op op_divB (pv 3) pe_int) pa_nil)))) (pg_tup (n := 2) rfl (pgs_cons (pg_name (i := 6) nd rfl (Or.inl rfl) (.inr rfl)) (pgs_cons (pg_name (i := 7) nd rfl (Or.inl rfl) (.inr rfl)) pgs_nil))) (pss_one (ps_if (PW.pt (pw_or (PW.pt (pw_and (pt_cmpR op_lt (pv 2) pe_int (nomark _)) (pw_and1 (pt_cmpR op_eq (pe_op op_mod (pe_op op_divB (pv 3) pe_int) pe_int) pe_int (nomark _))))) (pw_or1 (pt_not (pt_truth (pe_callC c__law_is_prime (hr.mono (by omega)) rfl pass0 (pa_cons (pv 6) pa_nil)) (fun _ => rfl)))))) (pss_one (ps_if (pt_cmpR op_lt (pv 2) pe_int (nomark _)) (pss_one (ps_expr (pe_bm PySem.F.plainAttrs_list PySem.F.slot_list_append PySem.F.type_list_append mt_append (pv 5) (pa_cons (pe_tup (pa_cons (pe_callC c__law_thing (hr.mono (by omega)) rfl pass0 (pa_cons (pv 6) (pa_cons (pv 1) (pa_cons (pe_op op_add (pv 2) pe_int) pa_nil)))) (pa_cons (pv 7) pa_nil))) pa_nil)))) (pss_one (ps_expr (pe_bm PySem.F.plainAttrs_list PySem.F.slot_list_append PySem.F.type_list_append mt_append (pv 5) (pa_cons (pe_tup (pa_cons (pe_tup (pa_cons (pv 6) (pa_cons (pe_op op_sub (pv 6) pe_int) (pa_cons (pe_tup pa_nil) pa_nil)))) (pa_cons (pv 7) pa_nil))) pa_nil)))))) (pss_one (ps_expr (pe_bm PySem.F.plainAttrs_list PySem.F.slot_list_append PySem.F.type_list_append mt_append (pv 5) (pa_cons (pe_tup (pa_cons (pe_callC c_prime_paper (hr.mono (by omega)) rfl pass_never (pa_cons (pv 6) pa_nil)) (pa_cons (pv 7) pa_nil))) pa_nil))))))) (pss_one (ps_ret (pe_tup (pa_cons (pv 0) (pa_cons (pv 4) (pa_cons (pe_callTy call_tuple_of rfl n_tuple L2.boot_tuple (pa_cons (pv 5) pa_nil)) pa_nil)))))))))))), ?_⟩
  show tSeq _ _ _ [some (.int n), some (.ref pr), some (.int dp), none, none, none, none, none] H
  k_data
  refine ix_ints hpr d0 (by rw [xl]; omega) fun m bm => ?_
  have b60 := h60 m bm
  have m0 := b60.1
  have hmd : 0 < (if n - 1 > 1 then n - 1 else 1) := by split <;> omega
  refine ⟨m, rfl, hmd, ?_⟩
  have g0 : (1 + m % if n - 1 > 1 then n - 1 else 1) ≤ 10 ^ 110 := by
    have h1 := Int.emod_lt_of_pos m hmd
    have h2 : (if n - 1 > 1 then n - 1 else 1) ≤ n := by split <;> omega
    omega
  generalize (1 + m % if n - 1 > 1 then n - 1 else 1) = g at *
  refine ⟨IvF H [some (.int n), some (.ref pr), some (.int dp), some (.int m)], ?_, ?_⟩
  · k_data
    refine ⟨Bd.of (by omega) (by omega), ite2 (fun c => ?_) fun c => ⟨Same.refl _, g, g0, rfl⟩⟩
    refine ⟨by show 2 ≤ sizeLine; decide, fun p1 hp1 => ⟨Bd.of (by omega) (by omega), ?_⟩⟩
    have s1 := same_upd (o := .lst [V.int 1, V.int (n - 1)]) hp1
    refine ix_two (lo := 0) (hi := 10 ^ 110) upd_same (by omega) (by omega) ⟨by omega, by omega⟩ ⟨by omega, by omega⟩ fun g' h1 h2 => ⟨s1, g', by omega, rfl⟩
  rintro σ' H1 ⟨s1, g, g0, rfl⟩
  simp only [List.cons_append, List.nil_append]
  k_data
  refine ⟨IvF H [some (.int n), some (.ref pr), some (.int dp), some (.int m)], ?_, ?_⟩
  · k_data
    refine ⟨Bd.of (by omega) (by omega), ite2 (fun c => ?_) fun c => ⟨s1, g, g0, rfl⟩⟩
    refine ⟨n, rfl, by omega, fun b hb => ⟨b, truV_bl.mpr rfl, ite2 (fun c2 => ?_) fun c2 => ⟨s1, g, g0, rfl⟩⟩⟩
    refine ⟨n, rfl, hb.mp c2, by omega, fun d v H2 hd s2 hv => ?_⟩
    obtain ⟨g', rs, e⟩ := hd.head
    have sm := pap_sm hd
    rw [e] at hv sm
    obtain ⟨pa, x1, x2, x3, rfl, hS, f1, f2, f3⟩ := dv3 hv
    cases f2
    simp only [smD, smDs] at sm
    exact ix_t hS at1 ⟨s1.trans s2, g', sm.2.1, rfl⟩
  rintro σ' H1 ⟨s1, g, g0, rfl⟩
  simp only [List.cons_append, List.nil_append]
  k_data
  refine ⟨by show 0 ≤ sizeLine; decide, fun pp hpp => ?_⟩
  have s1' := same_upd (o := .lst []) hpp
  have ep : upd H1 pp (.lst []) pp = some (.lst []) := upd_same
  have fp := free_of s1 hpp
  have S1 := s1.trans s1'
  generalize upd H1 pp _ = H1' at *
  refine ⟨Bd.of (by omega) (by omega), n - 1, m / 64, rfl, by omega, by omega, by omega, fun ps us p2 H2 okg pr' pl s2 f2 e2 d2 => ?_⟩
  have ul := d2.length
  rw [List.length_map] at ul
  have np : p2 ≠ pp := fun z => by rw [z, ep] at f2; cases f2
  have nr : pr ≠ pp := fun z => by rw [← z, hpr] at fp; cases fp
  have S2 := S1.trans s2
  refine ⟨p2, rfl, ⟨_, SqL.of e2⟩, ?_⟩
  refine loop_list (xs := us) (IvT K H2 pp [some (.int n), some (.ref pr), some (.int dp), some (.int m), some (.int g), some (.ref pp)] ps) ⟨fun _ _ _ h => h, none, none, [], [], rfl, s2 _ _ ep, rfl, rfl, fun _ z => (List.not_mem_nil z).elim, by show (0 : Int) ≤ _; rw [List.take_zero]; decide, rfl⟩ (fun i σ' H' _ h => SqL.of (h.1 _ _ np e2)) ?_ ?_
  · rintro i x σ' H3 hx ⟨s3, o6, o7, rs, vs, rfl, e3, d3, nl, hrs, hsz, rl⟩
    obtain ⟨r, hr', hvr⟩ := d2.get hx
    rw [List.getElem?_map] at hr'
    obtain ⟨pq, hpq, rfl⟩ := Option.map_eq_some_iff.mp hr'
    have il : i < us.length := (List.getElem?_eq_some_iff.mp hx).1
    have pm := List.mem_of_getElem? hpq
    have okq := okg pq pm
    have q9 : pq.1 ≤ n - 1 := by
      obtain ⟨l1, l2, el⟩ := List.append_of_mem pm
      have h1 := prod_cut l1 (pq :: l2)
      rw [← el, pr'] at h1
      have h2 := g_pos fun x hx => okg x (by rw [el]; exact List.mem_append_left _ hx)
      have h3 := g_pos (ps := l2) fun x hx => okg x (by rw [el]; exact List.mem_append_right _ (List.mem_cons_of_mem _ hx))
      have h4 := g_two okq
      have h5 : pq.1 ^ pq.2.toNat * 1 ≤ Num.prodP (pq :: l2) := Int.mul_le_mul_of_nonneg_left h3 (by omega)
      have h6 := Int.mul_le_mul_of_nonneg_right h2 (show 0 ≤ Num.prodP (pq :: l2) by omega)
      omega
    have tk : sumQ (ps.take (i + 1)) = sumQ (ps.take i) + pq.1 := by
      rw [List.take_add_one, hpq]
      exact sum_app _ _
    obtain ⟨t, rfl, hT⟩ := pl_dv (dv.but (s2 _ _ ep) s3 _ rfl hvr)
    have vl := d3.length
    have app : ∀ {H4 : Hp} {d : PyData} {v : V}, Same H3 H4 → Th pq.1 d → dv K H4 d v →
        [v, V.int pq.2].length ≤ sizeLine ∧ ∀ (p : Addr), H4 p = none → rAppend (.ref pp) [V.ref p] (upd H4 p (HO.tup [v, V.int pq.2])) fun x H1 => IvT K H2 pp [some (.int n), some (.ref pr), some (.int dp), some (.int m), some (.int g), some (.ref pp)] ps (i + 1) [some (.int n), some (.ref pr), some (.int dp), some (.int m), some (.int g), some (.ref pp), some (.int pq.1), some (.int pq.2)] H1 := by
      intro H4 d v s4 th hv
      refine ⟨by show 2 ≤ sizeLine; decide, fun p5 hp5 => ?_⟩
      have e4 := s4 _ _ e3
      have s5 := same_upd (o := .tup [v, V.int pq.2]) hp5
      have e5 : upd H4 p5 (.tup [v, V.int pq.2]) p5 = some (.tup [v, V.int pq.2]) := upd_same
      have n5 : p5 ≠ pp := fun z => by rw [z, e4] at hp5; cases hp5
      generalize upd H4 p5 _ = H5 at *
      have but : SameBut pp H5 (upd H5 pp (.lst (vs ++ [.ref p5]))) := fun b o ne h => by rw [upd_ne ne]; exact h
      refine ⟨pp, vs, .ref p5, rfl, rfl, s5 _ _ e4, Nat.lt_of_le_of_lt (show vs.length ≤ 29 by omega) (by decide), ?_⟩
      refine ⟨fun b o nb h => but b o nb (s5 _ _ (s4 _ _ (s3 b o nb h))), _, _, rs ++ [.tuple [d, .int pq.2]], vs ++ [.ref p5], rfl, upd_same, ?_, noLs_app nl (by simp only [noL, noLs, th.nl, Bool.and_true]), ?_, ?_, by rw [List.length_append, rl]; rfl⟩
      · refine dvs.append (dvs.but (s5 _ _ e4) but _ nl (dvs.same (s4.trans s5) _ d3)) (.one (d := .tuple [d, .int pq.2]) (dv.tup (xs := [v, V.int pq.2]) ?_ ⟨_, _, rfl, dv.but (s5 _ _ e4) but _ th.nl (dv.same s5 _ hv), .one rfl⟩))
        rw [upd_ne n5]
        exact e5
      · intro x hx
        rcases List.mem_append.mp hx with z | z
        · exact hrs x z
        · rw [List.mem_singleton.mp z]
          simp only [smD, smDs]
          exact ⟨th.sm, by omega, trivial⟩
      · rw [szDs_app, tk]
        have h1 : szDs [.tuple [d, .int pq.2]] = szD d + 2 := by
          simp only [szDs, szD]
          omega
        have := th.sz
        rw [h1]
        omega
    have ty3 : ∀ {H4 : Hp}, Same H3 H4 → tyV K "list" (.ref pp) H4 := fun s4 => .inl ⟨rfl, _, SqL.of (s4 _ _ e3)⟩
    refine ⟨t, _, rfl, hT, rfl, ?_⟩
    simp only [List.cons_append, List.nil_append]
    k_data
    have hpr3 : H3 pr = some (.lst (xs.map V.int)) := s3 pr _ nr (S2 _ _ hpr)
    have leaf : Th pq.1 (.tuple [.int pq.1, .int (pq.1 - 1), .tuple []]) := by
      refine ⟨?_, ?_, rfl⟩
      · simp only [smD, smDs]
        exact ⟨by omega, by omega, trivial, trivial⟩
      · simp only [szD, szDs]
        omega
    refine ite2 (fun c3 => ⟨Bd.of (by omega) (by omega), ite2 (fun c4 => ?_) fun c4 => ⟨pq.1, rfl, by omega, fun b hb => ⟨b, truV_bl.mpr rfl, ite2 (fun cb => ?_) fun cb => ⟨ty3 (Same.refl _), pq.1, rfl, hb.mp (by cases b; exact absurd rfl cb; rfl), by omega, fun d v H4 hd s4 hv => app s4 (pap_th hd) hv⟩⟩⟩⟩) fun c3 => ⟨pq.1, rfl, by omega, fun b hb => ⟨b, truV_bl.mpr rfl, ite2 (fun cb => ?_) fun cb => ⟨ty3 (Same.refl _), pq.1, rfl, hb.mp (by cases b; exact absurd rfl cb; rfl), by omega, fun d v H4 hd s4 hv => app s4 (pap_th hd) hv⟩⟩⟩
    · refine ite2 (fun cd => ⟨ty3 (Same.refl _), pq.1, dp + 1, pr, xs, rfl, okq.1, by omega, by omega, by omega, by omega, hpr3, xl, h60, fun g' rows v H4 th s4 hv => app s4 th hv⟩) fun cd => ⟨ty3 (Same.refl _), by show 0 ≤ sizeLine; decide, fun p5 hp5 => ⟨by show 3 ≤ sizeLine; decide, fun p6 hp6 => ?_⟩⟩
      have s5 := same_upd (o := .tup []) hp5
      have e5 : upd H3 p5 (.tup []) p5 = some (.tup []) := upd_same
      generalize upd H3 p5 _ = H5 at *
      have s6 := same_upd (o := .tup [V.int pq.1, V.int (pq.1 - 1), V.ref p5]) hp6
      have e6 : upd H5 p6 (.tup [V.int pq.1, V.int (pq.1 - 1), V.ref p5]) p6 = some (.tup [V.int pq.1, V.int (pq.1 - 1), V.ref p5]) := upd_same
      generalize upd H5 p6 _ = H6 at *
      exact app (s5.trans s6) leaf (dv.tup e6 ⟨_, _, rfl, rfl, _, _, rfl, rfl, .one (dv.tup (s6 _ _ e5) rfl)⟩)
    · refine ite2 (fun cd => ⟨ty3 (Same.refl _), pq.1, dp + 1, pr, xs, rfl, okq.1, by omega, by omega, by omega, by omega, hpr3, xl, h60, fun g' rows v H4 th s4 hv => app s4 th hv⟩) fun cd => ⟨ty3 (Same.refl _), by show 0 ≤ sizeLine; decide, fun p5 hp5 => ⟨by show 3 ≤ sizeLine; decide, fun p6 hp6 => ?_⟩⟩
      have s5 := same_upd (o := .tup []) hp5
      have e5 : upd H3 p5 (.tup []) p5 = some (.tup []) := upd_same
      generalize upd H3 p5 _ = H5 at *
      have s6 := same_upd (o := .tup [V.int pq.1, V.int (pq.1 - 1), V.ref p5]) hp6
      have e6 : upd H5 p6 (.tup [V.int pq.1, V.int (pq.1 - 1), V.ref p5]) p6 = some (.tup [V.int pq.1, V.int (pq.1 - 1), V.ref p5]) := upd_same
      generalize upd H5 p6 _ = H6 at *
      exact app (s5.trans s6) leaf (dv.tup e6 ⟨_, _, rfl, rfl, _, _, rfl, rfl, .one (dv.tup (s6 _ _ e5) rfl)⟩)
    · refine ite2 (fun cd => ⟨ty3 (Same.refl _), pq.1, dp + 1, pr, xs, rfl, okq.1, by omega, by omega, by omega, by omega, hpr3, xl, h60, fun g' rows v H4 th s4 hv => app s4 th hv⟩) fun cd => ⟨ty3 (Same.refl _), by show 0 ≤ sizeLine; decide, fun p5 hp5 => ⟨by show 3 ≤ sizeLine; decide, fun p6 hp6 => ?_⟩⟩
      have s5 := same_upd (o := .tup []) hp5
      have e5 : upd H3 p5 (.tup []) p5 = some (.tup []) := upd_same
      generalize upd H3 p5 _ = H5 at *
      have s6 := same_upd (o := .tup [V.int pq.1, V.int (pq.1 - 1), V.ref p5]) hp6
      have e6 : upd H5 p6 (.tup [V.int pq.1, V.int (pq.1 - 1), V.ref p5]) p6 = some (.tup [V.int pq.1, V.int (pq.1 - 1), V.ref p5]) := upd_same
      generalize upd H5 p6 _ = H6 at *
      exact app (s5.trans s6) leaf (dv.tup e6 ⟨_, _, rfl, rfl, _, _, rfl, rfl, .one (dv.tup (s6 _ _ e5) rfl)⟩)
  · rintro σ' H3 ⟨s3, o6, o7, rs, vs, rfl, e3, d3, nl, hrs, hsz, rl⟩
    simp only [List.cons_append, List.nil_append]
    k_data
    have S3 : Same H H3 := fun b o h => s3 b o (fun z => by rw [z, fp] at h; cases h) (S2 _ _ h)
    have st := sum_take okg us.length
    have sp := (sum_le okg).1
    refine ⟨vs, .inl ⟨SqL.of e3, fun l hl => ⟨by show 3 ≤ sizeLine; decide, fun p5 hp5 => ?_⟩⟩⟩
    have s4 := same_upd (o := .tup vs) hl
    have e4 : upd H3 l (.tup vs) l = some (.tup vs) := upd_same
    generalize upd H3 l _ = H4 at *
    have s5 := same_upd (o := .tup [V.int n, V.int g, V.ref l]) hp5
    refine q g rs _ _ ⟨?_, ?_, ?_⟩ ((S3.trans s4).trans s5) (dv.tup upd_same ⟨_, _, rfl, rfl, _, _, rfl, rfl, .one (dv.tup (s5 _ _ e4) (dvs.same (s4.trans s5) _ d3))⟩)
    · simp only [smD, smDs]
      exact ⟨by omega, g0, smDs_of hrs, trivial⟩
    · simp only [szD, szDs]
      omega
    · simp only [noL, noLs, nl, Bool.and_true, Bool.true_and]
theorem ok_thing (D : DefAt K mg "_law_thing" (top 38)) (c__law_is_prime : Callee P w K mg base CX0 1 "_law_is_prime" ["_law_n"] spIsPrime) (c_prime_paper : Callee P w K mg base (CXE P w) 67 "prime_paper" ["n"] (spPaperA K)) (c__law_groups : Callee P w K mg base CX0 4 "_law_groups" ["_law_n", "_law_number"] (spGroups K)) (n_max : mg "max" = none) (n_tuple : mg "tuple" = none) : ∀ L : Nat, Callee P w K mg base CX0 (L + 69) "_law_thing" [("_law_n" : Str), ("_law_numbers" : Str), ("_law_deep" : Str)] (spThing22 K L)
  | 0 => ok_thing0 D
  | L + 1 => (ok_thingS D (ok_thing D c__law_is_prime c_prime_paper c__law_groups n_max n_tuple L) c__law_is_prime c_prime_paper c__law_groups n_max n_tuple).mono (by omega)
def spAll (K : PySem.W.Frag) (L : Nat) : Sp := fun vs H Q _ => ∃ (p g : Int) (rows : List PyData) (v : V), vs = [v] ∧ dv K H (.tuple [.int p, .int g, .tuple rows]) v ∧ PP (.tuple [.int p, .int g, .tuple rows]) ∧ p ≤ 10 ^ 9 ∧ Num.Ht L p ∧ szDs rows ≤ 10 ^ 7 ∧ ∀ H', Same H H' → Q (.bl true) H'
theorem ct_dvd {w : Nat} : ∀ {rows : List PyData} {l t : Int}, CT w l t rows → ∀ r ∈ rows, qD r ∣ l
  | d :: ds, l, t, h, r, hr => by
    obtain ⟨l1, p, g, k, rs, more, rfl, e2, e3, e4, e5, r', hw, hc⟩ := h
    have r1 : 1 ≤ r' := by
      cases ds with
      | nil => have : r' = 1 := hc; omega
      | cons => exact hc.1
    rcases hw with ⟨_, z⟩ | ⟨_, z⟩
    · rcases List.mem_cons.mp hr with y | y
      · subst y
        rw [z]
        obtain ⟨k', hk⟩ : ∃ k', k.toNat = k' + 1 := ⟨k.toNat - 1, by omega⟩
        rw [hk, Int.pow_succ]
        exact ⟨p ^ k' * r', by show _ = p * _; grind⟩
      · rw [z]
        exact Int.dvd_trans (ct_dvd hc r y) ⟨p ^ k.toNat, by rw [Int.mul_comm]⟩
    · omega
theorem szDs_mem' : ∀ {ds : List PyData} {d : PyData}, d ∈ ds → szD d ≤ szDs ds
  | x :: r, d, h => by
    show szD d ≤ szD x + szDs r
    rcases List.mem_cons.mp h with z | z
    · rw [z]; omega
    · have := szDs_mem' z
      omega
theorem sc__law_all_primes : FnScope [("_law_thing_here" : Str)] [("_law_thing_here" : Str)] (defScope (top 39)) := ⟨rfl, rfl, rfl, by decide +kernel, rfl, by decide +kernel, by decide +kernel⟩
theorem ok_all0 (D : DefAt K mg "_law_all_primes" (top 39)) : Callee P w K mg base CX0 2 "_law_all_primes" [("_law_thing_here" : Str)] (spAll K 0) := by
  refine callee_of D (fun _ _ _ _ _ _ us hl => match us, hl with | [_], _ => rfl) sc__law_all_primes (fun vs H Q E h => by obtain ⟨_, _, _, _, rfl, _⟩ := h; rfl) (fun f cdv A outer s H vs Q E hr h => ?_)
  obtain ⟨p, g, rows, v, rfl, hv, hp, p9, ht, _⟩ := h
  exact ht.elim
theorem ok_allS {L : Nat} (D : DefAt K mg "_law_all_primes" (top 39)) (c__law_all_primes : Callee P w K mg base CX0 (L + 2) "_law_all_primes" ["_law_thing_here"] (spAll K L)) (c__law_is_prime : Callee P w K mg base CX0 1 "_law_is_prime" ["_law_n"] spIsPrime) (n_all : mg "all" = none) : Callee P w K mg base CX0 (L + 3) "_law_all_primes" [("_law_thing_here" : Str)] (spAll K (L + 1)) := by
  refine callee_of D (fun _ _ _ _ _ _ us hl => match us, hl with | [_], _ => rfl) sc__law_all_primes (fun vs H Q E h => by obtain ⟨_, _, _, _, rfl, _⟩ := h; rfl) (fun f cdv A outer s H vs Q E hr h => ?_)
  obtain ⟨p, g, rows, v, rfl, hv, hp, p9, ht, sz, q⟩ := h
  have nd := sc__law_all_primes.nd
  refine ⟨_, (pss_cons (ps_if (pt_not (pt_truth (pe_callC c__law_is_prime (hr.mono (by omega)) rfl pass0 (pa_cons (pe_ix ix_tup (pv 0) pe_int (fun _ _ => rfl)) pa_nil)) (fun _ => rfl))) (pss_one (ps_ret pe_bl)) pss_nil) (pss_one (ps_ret (pe_callB (call_all rfl) rfl n_all L2.boot_all (pa_cons (pe_lc rfl (compOk (N' := ["_law_part"]) (js := [none]) rfl rfl (by decide +kernel) (by decide +kernel) (by repeat (first | exact True.intro | refine ⟨rfl, ?_⟩)) (by repeat (first | exact True.intro | refine ⟨rfl, ?_⟩ | refine ⟨True.intro, ?_⟩)) (by repeat (first | exact True.intro | refine ⟨⟨rfl, rfl, .inl rfl, .inl rfl⟩, ?_⟩))) (pi_tup (pe_ix ix_tup (pv 0) pe_int (fun _ _ => rfl))) (fun _ _ _ _ => (pg_name (i := 0) (show List.Nodup [("_law_part" : Str)] from by decide +kernel) rfl (Or.inl rfl) (.inr rfl))) (fun _ _ _ _ => pifs_nil) (fun _ _ _ _ => (pe_callC c__law_all_primes (hr.mono (by omega)) rfl pass0 (pa_cons (pe_ix (ix_tupK K rfl) (pv 0) pe_int (fun _ _ => rfl)) pa_nil)))) pa_nil))))), ?_⟩
  show tSeq _ _ _ [some v] H
  obtain ⟨pa, x1, x2, x3, rfl, hS, f1, f2, f3⟩ := dv3 hv
  cases f1
  cases f2
  obtain ⟨pt, xs, rfl, hT, dd⟩ := f3
  have pm := pp_pm hp
  cases hp with
  | mk _ _ _ hra hrows =>
  obtain ⟨p', g', rows', e, p2, g1, g2, c, l⟩ := hra
  cases e
  k_data
  refine ix_t hS at0 ⟨p, rfl, by omega, fun b hb => ⟨b, truV_bl.mpr rfl, ?_⟩⟩
  have bt : b = true := hb.mpr pm
  subst bt
  rw [if_neg (by simp)]
  have e2 : atI [V.int p, V.int g, V.ref pt] 2 = some (.ref pt) := rfl
  refine ix_t hS e2 ⟨pt, rfl, ⟨_, hT⟩, ?_⟩
  have rl := szDs_len rows
  have xl := dd.length
  refine cloop_tup (xs := xs) (fun i zs H3 => Same H H3 ∧ zs = (List.replicate i true).map V.bl) ⟨Same.refl _, rfl⟩ (Nat.le_trans (show xs.length ≤ 10 ^ 7 by omega) (by decide)) (fun i zs H3 hi ⟨z1, z2⟩ => ⟨hT.same z1, by rw [z2, List.length_map, List.length_replicate]; exact Nat.le_refl _⟩) ?_ ?_
  · rintro i x zs H3 hx ⟨s3, rfl⟩
    obtain ⟨r, hr', hvr⟩ := dd.get hx
    have rm := List.mem_of_getElem? hr'
    have hd := ct_dvd c r rm
    have hpr := hrows r rm
    obtain ⟨q', g', k, rs, more, rfl, q2, k1, ml⟩ := ct_rows c r rm
    have hq' : q' ∣ p - 1 := hd
    have hpq : PP (.tuple [.int q', .int g', .tuple rs]) := hpr
    have pmq := pp_pm hpq
    have qp := Int.le_of_dvd (by omega) hq'
    obtain ⟨pu, ws, rfl, hW, y1, r1, rfl, d1, _⟩ := hvr
    show gName 0 _ [none] _ _
    k_data
    have szr : szDs rs ≤ szDs rows := by
      have h1 : szD (.tuple (.tuple [.int q', .int g', .tuple rs] :: .int k :: more)) ≤ szDs rows := szDs_mem' rm
      simp only [szD, szDs] at h1
      omega
    refine ⟨True.intro, ix_t (hW.same s3) (show atI (y1 :: r1) 0 = some y1 from atI_nat (i := 0) rfl) ⟨q', g', rs, _, rfl, dv.same s3 _ d1, hpq, by omega, ht q' pmq hq', by omega, fun H4 s4 => ⟨s3.trans s4, ?_⟩⟩⟩
    rw [List.replicate_succ', List.map_append]
    rfl
  · rintro zs H3 p3 ⟨s3, rfl⟩ hp3
    refine ⟨p3, List.replicate xs.length true, rfl, SqL.of upd_same, ?_⟩
    have e : (List.replicate xs.length true).all id = true := by simp
    rw [e]
    exact q _ (s3.trans (same_upd hp3))
theorem ok_all (D : DefAt K mg "_law_all_primes" (top 39)) (c__law_is_prime : Callee P w K mg base CX0 1 "_law_is_prime" ["_law_n"] spIsPrime) (n_all : mg "all" = none) : ∀ L : Nat, Callee P w K mg base CX0 (L + 2) "_law_all_primes" [("_law_thing_here" : Str)] (spAll K L)
  | 0 => ok_all0 D
  | L + 1 => (ok_allS D (ok_all D c__law_is_prime n_all L) c__law_is_prime n_all).mono (by omega)
end
end K
set_option Elab.async false
set_option linter.all false
set_option maxRecDepth 100000
set_option maxHeartbeats 8000000
namespace K
open PySem PySem.Spec PyProof.Rows L2
section
variable {P : Program} {w : World} {K : PySem.W.Frag} {mg : Str → Option Value} {base : Heap}
def IvN (H : Hp) (s0 : List (Option V)) (σ : List (Option V)) (H' : Hp) : Prop := Same H H' ∧ ∃ n : Int, 2 ≤ n ∧ n ≤ 32400 ∧ ∃ s1, σ = s0 ++ [some (.int n)] ++ s1 ∧ s1.length = 3
def IvM (H : Hp) (s0 : List (Option V)) (σ : List (Option V)) (H' : Hp) : Prop := Same H H' ∧ ∃ o, σ = s0 ++ [o]
theorem three {α : Type} {l : List α} (h : l.length = 3) : ∃ a b c, l = [a, b, c] := by
  match l, h with
  | [a, b, c], _ => exact ⟨a, b, c, rfl⟩
theorem sc_law : FnScope [("_law_script" : Str), ("_law_cell" : Str), ("_law_row" : Str), ("_law_n" : Str), ("_law_thing_here" : Str), ("_law_found" : Str), ("_law_full" : Str)] [("_law_script" : Str)] (defScope (top 40)) := ⟨rfl, rfl, rfl, by decide +kernel, rfl, by decide +kernel, by decide +kernel⟩
theorem ok_law {fl : Addr} {fdl : FuncData} (F : Fun K "law" "law" (top 40) fl fdl) (c__law_draws : Callee P w K mg base CX0 1 "_law_draws" ["_law_cell", "_law_many"] spDraws) (c__law_thing : Callee P w K mg base CX0 73 "_law_thing" ["_law_n", "_law_numbers", "_law_deep"] (spThing22 K 4)) (c_is_prime_paper : Callee P w K mg base CX0 8 "is_prime_paper" ["thing"] (spPP K)) (c__law_all_primes : Callee P w K mg base CX0 32 "_law_all_primes" ["_law_thing_here"] (spAll K 30)) (c__law_is_prime : Callee P w K mg base CX0 1 "_law_is_prime" ["_law_n"] spIsPrime) (n_range : mg "range" = none) (n_min : mg "min" = none) (n_isinstance : mg "isinstance" = none) (n_bool : mg "bool" = none) : FnOk P w K mg base CX0 74 fl fdl [("_law_script" : Str)] (spLaw K) := by
  refine fnOk_of F sc_law (fun vs H Q E h => by obtain ⟨a, b, rfl, _⟩ := h; rfl) (fun cdv A outer s H vs Q E hr h => ?_)
  obtain ⟨a, ns, rfl, hS, h63, q⟩ := h
  have nd := sc_law.nd
  obtain ⟨e, j1, j2, j3, j4, p1, p2, p3, p4, p5, p6, p7, p8, p9, p10, p11, p12, eb, el⟩ : ∃ (e : Expr) (j1 j2 j3 j4 : Nat) (p1 p2 p3 p4 p5 p6 p7 p8 p9 p10 p11 p12 : Pos), defBody (top 40) = (defBody (top 40)).take 1 ++ [.Return (some (.BoolOp .And [.UnaryOp .Not (.Call (.Name "is_prime_paper" p1) [e] [] p2) p3, .UnaryOp .Not (.Call (.Name "is_prime_paper" p6) [.Tuple [.Constant (.int 1) j1 p7, .Constant (.int 1) j2 p8, .Tuple [] j3 p9] j4 p10] [] p11) p12] p4)) p5] ∧ litE 20 e = some (tTup (tCons (tC (.int 4)) (tCons (tC (.int 3)) (tCons (tTup (tCons (tTup (tCons (tTup (tCons (tC (.int 3)) (tCons (tC (.int 2)) (tCons (tTup (tCons (tTup (tCons (tTup (tCons (tC (.int 2)) (tCons (tC (.int 1)) (tCons (tTup tNil) tNil)))) (tCons (tC (.int 1)) tNil))) tNil)) tNil)))) (tCons (tC (.int 1)) tNil))) tNil)) tNil)))) := ⟨_, _, _, _, _, _, _, _, _, _, _, _, _, _, _, _, _, rfl, rfl⟩
  rw [eb]
  refine ⟨_, (pss_cons (ps_for PassesOwn.never rfl (pi_list (pe_slice sl_list (pv 0) po_none (po_some pe_int))) (pg_name (i := 1) nd rfl (Or.inl rfl) (.inr rfl)) (pss_cons (ps_set (i := 2) nd rfl (Or.inl rfl) (pe_callC c__law_draws (hr.mono (by decide)) rfl pass0 (pa_cons (pv 1) (pa_cons pe_int pa_nil)))) (pss_cons (ps_set (i := 3) nd rfl (Or.inl rfl) (pe_op op_add pe_int (pe_op op_mod (pe_ix ix_list (pv 2) pe_int (fun _ _ => rfl)) pe_int))) (pss_cons (ps_cut (ps_if (pt_cmpR op_eq (pe_op op_mod (pe_ix ix_list (pv 2) pe_int (fun _ _ => rfl)) pe_int) pe_int (nomark _)) (pss_one (ps_set (i := 3) nd rfl (Or.inl rfl) (pe_op op_mulB (pe_op op_mulB (pe_op op_add pe_int (pe_op op_mod (pe_ix ix_list (pv 2) pe_int (fun _ _ => rfl)) pe_int)) (pe_op op_add pe_int (pe_op op_mod (pe_op op_divB (pe_ix ix_list (pv 2) pe_int (fun _ _ => rfl)) pe_int) pe_int))) (pe_op op_add pe_int (pe_op op_mod (pe_op op_divB (pe_ix ix_list (pv 2) pe_int (fun _ _ => rfl)) pe_int) pe_int))))) pss_nil)) (pss_cons (ps_cut (ps_if (pt_cmpR op_eq (pe_op op_mod (pe_ix ix_list (pv 2) pe_int (fun _ _ => rfl)) pe_int) pe_int (nomark _)) (pss_one (ps_set (i := 3) nd rfl (Or.inl rfl) (pe_ix ix_list (pe_lst (pa_cons pe_int (pa_cons pe_int (pa_cons pe_int (pa_cons pe_int (pa_cons pe_int pa_nil)))))) (pe_op op_mod (pe_ix ix_list (pv 2) pe_int (fun _ _ => rfl)) pe_int) (fun _ _ => rfl)))) pss_nil)) (pss_cons (ps_set (i := 4) nd rfl (Or.inl rfl) (pe_callC c__law_thing (hr.mono (by decide)) rfl pass0 (pa_cons (pv 3) (pa_cons (pv 2) (pa_cons pe_int pa_nil))))) (pss_cons (ps_set (i := 5) nd rfl (Or.inl rfl) (pe_callC c_is_prime_paper (hr.mono (by decide)) rfl pass0 (pa_cons (pv 4) pa_nil))) (pss_cons (ps_if (PW.pt (pw_or (pt_not (pt_truth (pe_callB call_isiD rfl n_isinstance PyProof.Rows.boot_isinstance (pa_cons (pv 5) (pa_cons (pe_bltn (v := .ty "bool") rfl n_bool L2.boot_bool rfl) pa_nil))) (fun _ => rfl))) (pw_or1 (PW.pt (pw_and (pt_truth (pv 5) (fun _ => rfl)) (pw_and1 (pt_not (pt_truth (pe_callC c__law_all_primes (hr.mono (by decide)) rfl pass0 (pa_cons (pv 4) pa_nil)) (fun _ => rfl))))))))) (pss_one (ps_ret pe_bl)) pss_nil) (pss_one (ps_for PassesOwn.never rfl (pi_range2 rfl n_range (pa_cons pe_int (pa_cons (pe_callB (call_min2 rfl) rfl n_min L2.boot_min (pa_cons (pv 3) (pa_cons pe_int pa_nil))) pa_nil))) (pg_name (i := 6) nd rfl (Or.inl rfl) (.inr rfl)) (pss_one (ps_if (PW.pt (pw_and (pt_truth (pe_callC c_is_prime_paper (hr.mono (by decide)) rfl pass0 (pa_cons (pe_tup (pa_cons (pv 3) (pa_cons (pv 6) (pa_cons (pe_ix ix_tup (pv 4) pe_int (fun _ _ => rfl)) pa_nil)))) pa_nil)) (fun _ => rfl)) (pw_and1 (pt_not (pt_truth (pe_callC c__law_is_prime (hr.mono (by decide)) rfl pass0 (pa_cons (pv 3) pa_nil)) (fun _ => rfl)))))) (pss_one (ps_ret pe_bl)) pss_nil)))))))))))) (pss_one (ps_ret (pe_and (pe_not (pe_callC c_is_prime_paper (hr.mono (by decide)) rfl pass0 (pa_cons (pe_lit 20 el) pa_nil (lit_star el)) (he := lit_star el))) (pe_one (pe_not (pe_callC c_is_prime_paper (hr.mono (by decide)) rfl pass0 (pa_cons (pe_tup (pa_cons pe_int (pa_cons pe_int (pa_cons (pe_tup pa_nil) pa_nil)))) pa_nil)))))))), ?_⟩
  show tSeq _ _ _ [some (.ref a), none, none, none, none, none, none] H
  k_data
  refine ⟨a, _, rfl, hS, fun p0 hp0 => ?_⟩
  k_data
  refine ⟨⟨_, SqL.of upd_same⟩, ?_⟩
  refine loop_list (xs := cutV (ns.map V.int) none (some 6)) (fun i σ' H' => (∃ o1 o2 o3 o4 o5 o6, σ' = [some (.ref a), o1, o2, o3, o4, o5, o6]) ∧ H' p0 = some (.lst (cutV (ns.map V.int) none (some 6)))) ⟨⟨_, _, _, _, _, _, rfl⟩, upd_same⟩ (fun i σ' H' _ h => SqL.of h.2) ?_ ?_
  · rintro i x σ' H1 hx ⟨⟨o1, o2, o3, o4, o5, o6, rfl⟩, h0⟩
    obtain ⟨c, rfl⟩ := cut_ints (List.mem_of_getElem? hx)
    k_data
    refine ⟨c, 7, rfl, by decide, fun xs pr H2 hl hxs s2 h2 => ?_⟩
    k_data
    have row : ∀ (k : Int) {H'} {Q : VK}, 0 ≤ k → k < 7 → Same H2 H' → (∀ v, 0 ≤ v → Q (.int v) H') → rIxL K (.ref pr) (.int k) H' Q := fun k {H' Q} h0 h1 s q => ix_ints (s _ _ h2) h0 (by rw [hl]; omega) fun v hv => q v (hxs v hv).1
    refine row 4 (by decide) (by decide) (Same.refl _) fun v4 b4 => ⟨v4, rfl, ?_⟩
    refine ⟨IvN H2 [some (.ref a), some (.int c), some (.ref pr)], ?_, ?_⟩
    · k_data
      refine row 5 (by decide) (by decide) (Same.refl _) fun v5 b5 => ⟨v5, rfl, ?_⟩
      refine ite2 (fun c5 => ?_) fun c5 => ⟨Same.refl _, _, by omega, by omega, [o4, o5, o6], rfl, rfl⟩
      refine row 4 (by decide) (by decide) (Same.refl _) fun i4 b4 => ⟨i4, rfl, row 4 (by decide) (by decide) (Same.refl _) fun j4 _ => ⟨j4, rfl, Bd.of (by omega) (by omega), Bd.of (by omega) (by omega), Bd.of (by omega) (by omega), row 4 (by decide) (by decide) (Same.refl _) fun k4 _ => ⟨k4, rfl, Bd.of (by omega) (by omega), ?_⟩⟩⟩
      obtain ⟨A, hA, A1, A2⟩ : ∃ A, 2 + i4 % 59 = A ∧ 2 ≤ A ∧ A ≤ 60 := ⟨_, rfl, by omega, by omega⟩
      obtain ⟨B, hB, B1, B2⟩ : ∃ B, 2 + j4 / 59 % 59 = B ∧ 2 ≤ B ∧ B ≤ 60 := ⟨_, rfl, by omega, by omega⟩
      obtain ⟨C, hC, C1, C2⟩ : ∃ C, 1 + k4 / 3481 % 9 = C ∧ 1 ≤ C ∧ C ≤ 9 := ⟨_, rfl, by omega, by omega⟩
      rw [hA, hB, hC]
      have h1 := Int.mul_le_mul A1 B1 (by decide) (by omega)
      have h2 := Int.mul_le_mul A2 B2 (by omega) (by decide)
      have h3 := Int.mul_le_mul h1 C1 (by decide) (by omega)
      have h4 := Int.mul_le_mul h2 C2 (by omega) (by decide)
      exact ⟨Bd.of (by omega) (by omega), Bd.of (by omega) (by omega), Same.refl _, _, by omega, by omega, [o4, o5, o6], rfl, rfl⟩
    rintro σ' H3 ⟨s3, n, n2, n9, s1, rfl, l1⟩
    obtain ⟨o4, o5, o6, rfl⟩ := three l1
    simp only [List.cons_append, List.nil_append]
    k_data
    refine ⟨IvN H2 [some (.ref a), some (.int c), some (.ref pr)], ?_, ?_⟩
    · k_data
      refine row 5 (by decide) (by decide) s3 fun v5 b5 => ⟨v5, rfl, ?_⟩
      refine ite2 (fun c5 => ⟨by show 5 ≤ sizeLine; decide, fun p1 hp1 => ?_⟩) fun c5 => ⟨s3, _, n2, n9, [o4, o5, o6], rfl, rfl⟩
      have s4 := s3.trans (same_upd (o := .lst [V.int 341, V.int 561, V.int 1105, V.int 1729, V.int 2047]) hp1)
      refine row 4 (by decide) (by decide) s4 fun i4 b4 => ⟨i4, rfl, ?_⟩
      refine ix_some (SqL.of upd_same) (by omega) (by show _ < (5 : Int); omega) fun v hv => ?_
      simp only [List.mem_cons, List.not_mem_nil, or_false] at hv
      rcases hv with rfl | rfl | rfl | rfl | rfl <;> exact ⟨s4, _, by omega, by omega, [o4, o5, o6], rfl, rfl⟩
    rintro σ' H4 ⟨s4, n, n2, n9, s1, rfl, l1⟩
    obtain ⟨o4, o5, o6, rfl⟩ := three l1
    simp only [List.cons_append, List.nil_append]
    k_data
    refine ⟨n, 0, pr, xs, rfl, n2, by omega, by decide, by decide, by decide, s4 _ _ h2, hl, hxs, fun g rows v H5 th s5 hv => ?_⟩
    have th1 := th.sm
    have th2 := th.sz
    refine ⟨_, v, rfl, hv, th1, by omega, fun b H6 hb s6 => ?_⟩
    refine isd_bool (d := .bool b) rfl ?_
    k_data
    rw [if_neg (by simp [isB])]
    have h05 := s5 _ _ (s4 _ _ (s2 _ _ h0))
    cases b with
    | false =>
      rw [if_neg (by simp)]
      have s8 := s6
      generalize H6 = H8 at *
      have mn1 : 2 ≤ (if 40 < n then 40 else n) ∧ (if 40 < n then 40 else n) ≤ 40 := by split <;> omega
      refine ⟨by omega, by omega, ?_⟩
      refine loop_range (fun _ => IvM H8 [some (.ref a), some (.int c), some (.ref pr), some (.int n), some v, some (.bl false)]) ⟨Same.refl _, _, rfl⟩ ?_ ?_
      · rintro i' σ' H9 hi' ⟨s9, o, rfl⟩
        simp only [List.cons_append, List.nil_append]
        k_data
        obtain ⟨pa, x1, x2, x3, rfl, hS', f1, f2, f3⟩ := dv3 (dv.same (s8.trans s9) _ hv)
        have e2 : atI [x1, x2, x3] 2 = some x3 := rfl
        refine ix_t hS' e2 ⟨by show 3 ≤ sizeLine; decide, fun p10 hp10 => ?_⟩
        have s10 := same_upd (o := .tup [V.int n, V.int (1 + (i' : Int)), x3]) hp10
        have th1 := th.sm
        have th2 := th.sz
        simp only [smD, smDs] at th1
        simp only [szD, szDs] at th2
        refine ⟨.tuple [.int n, .int (1 + (i' : Int)), .tuple rows], _, rfl, dv.tup upd_same ⟨_, _, rfl, rfl, _, _, rfl, rfl, .one (dv.same s10 _ f3)⟩, ?_, ?_, fun b2 H11 hb2 s11 => ⟨b2, truV_bl.mpr rfl, ite2 (fun cb => ?_) fun cb => ⟨(s9.trans s10).trans s11, _, rfl⟩⟩⟩
        · simp only [smD, smDs]
          exact ⟨by omega, by omega, th1.2.2⟩
        · simp only [szD, szDs]
          omega
        · have pm := pp_pm (hb2.mp cb)
          refine ⟨n, rfl, by omega, fun b3 hb3 => ⟨b3, truV_bl.mpr rfl, ?_⟩⟩
          have b3t : b3 = true := hb3.mpr pm
          subst b3t
          rw [if_neg (by simp)]
          exact ⟨(s9.trans s10).trans s11, _, rfl⟩
      · rintro σ' H9 ⟨s9, o, rfl⟩
        exact ⟨⟨_, _, _, _, _, _, rfl⟩, s9 _ _ (s8 _ _ h05)⟩
    | true =>
      rw [if_pos rfl]
      have hpp := hb.mp rfl
      have szr : szDs rows ≤ 10 ^ 7 := by
        simp only [szD, szDs] at th2
        omega
      refine ⟨n, g, rows, v, rfl, dv.same s6 _ hv, hpp, by omega, Num.ht_all (pp_pm hpp) (by omega), szr, fun H8 s8' => ⟨true, truV_bl.mpr rfl, ?_⟩⟩
      have s8 := s6.trans s8'
      rw [if_neg (by simp)]
      have mn1 : 2 ≤ (if 40 < n then 40 else n) ∧ (if 40 < n then 40 else n) ≤ 40 := by split <;> omega
      refine ⟨by omega, by omega, ?_⟩
      refine loop_range (fun _ => IvM H8 [some (.ref a), some (.int c), some (.ref pr), some (.int n), some v, some (.bl true)]) ⟨Same.refl _, _, rfl⟩ ?_ ?_
      · rintro i' σ' H9 hi' ⟨s9, o, rfl⟩
        simp only [List.cons_append, List.nil_append]
        k_data
        obtain ⟨pa, x1, x2, x3, rfl, hS', f1, f2, f3⟩ := dv3 (dv.same (s8.trans s9) _ hv)
        have e2 : atI [x1, x2, x3] 2 = some x3 := rfl
        refine ix_t hS' e2 ⟨by show 3 ≤ sizeLine; decide, fun p10 hp10 => ?_⟩
        have s10 := same_upd (o := .tup [V.int n, V.int (1 + (i' : Int)), x3]) hp10
        have th1 := th.sm
        have th2 := th.sz
        simp only [smD, smDs] at th1
        simp only [szD, szDs] at th2
        refine ⟨.tuple [.int n, .int (1 + (i' : Int)), .tuple rows], _, rfl, dv.tup upd_same ⟨_, _, rfl, rfl, _, _, rfl, rfl, .one (dv.same s10 _ f3)⟩, ?_, ?_, fun b2 H11 hb2 s11 => ⟨b2, truV_bl.mpr rfl, ite2 (fun cb => ?_) fun cb => ⟨(s9.trans s10).trans s11, _, rfl⟩⟩⟩
        · simp only [smD, smDs]
          exact ⟨by omega, by omega, th1.2.2⟩
        · simp only [szD, szDs]
          omega
        · have pm := pp_pm (hb2.mp cb)
          refine ⟨n, rfl, by omega, fun b3 hb3 => ⟨b3, truV_bl.mpr rfl, ?_⟩⟩
          have b3t : b3 = true := hb3.mpr pm
          subst b3t
          rw [if_neg (by simp)]
          exact ⟨(s9.trans s10).trans s11, _, rfl⟩
      · rintro σ' H9 ⟨s9, o, rfl⟩
        exact ⟨⟨_, _, _, _, _, _, rfl⟩, s9 _ _ (s8 _ _ h05)⟩
  · rintro σ' H1 ⟨⟨o1, o2, o3, o4, o5, o6, rfl⟩, h0⟩
    k_data
    refine ⟨by show 0 ≤ sizeLine; decide, fun c1 hc1 => ?_⟩
    have r1 := same_upd (o := .tup []) hc1
    have f1 : upd H1 c1 (.tup []) c1 = some (.tup []) := upd_same
    generalize upd H1 c1 _ = G1 at *
    refine ⟨by show 3 ≤ sizeLine; decide, fun c2 hc2 => ?_⟩
    have r2 := same_upd (o := .tup [V.int 2, V.int 1, V.ref c1]) hc2
    have f2 : upd G1 c2 (.tup [V.int 2, V.int 1, V.ref c1]) c2 = some (.tup [V.int 2, V.int 1, V.ref c1]) := upd_same
    generalize upd G1 c2 _ = G2 at *
    refine ⟨by show 2 ≤ sizeLine; decide, fun c3 hc3 => ?_⟩
    have r3 := same_upd (o := .tup [V.ref c2, V.int 1]) hc3
    have f3 : upd G2 c3 (.tup [V.ref c2, V.int 1]) c3 = some (.tup [V.ref c2, V.int 1]) := upd_same
    generalize upd G2 c3 _ = G3 at *
    refine ⟨by show 1 ≤ sizeLine; decide, fun c4 hc4 => ?_⟩
    have r4 := same_upd (o := .tup [V.ref c3]) hc4
    have f4 : upd G3 c4 (.tup [V.ref c3]) c4 = some (.tup [V.ref c3]) := upd_same
    generalize upd G3 c4 _ = G4 at *
    refine ⟨by show 3 ≤ sizeLine; decide, fun c5 hc5 => ?_⟩
    have r5 := same_upd (o := .tup [V.int 3, V.int 2, V.ref c4]) hc5
    have f5 : upd G4 c5 (.tup [V.int 3, V.int 2, V.ref c4]) c5 = some (.tup [V.int 3, V.int 2, V.ref c4]) := upd_same
    generalize upd G4 c5 _ = G5 at *
    refine ⟨by show 2 ≤ sizeLine; decide, fun c6 hc6 => ?_⟩
    have r6 := same_upd (o := .tup [V.ref c5, V.int 1]) hc6
    have f6 : upd G5 c6 (.tup [V.ref c5, V.int 1]) c6 = some (.tup [V.ref c5, V.int 1]) := upd_same
    generalize upd G5 c6 _ = G6 at *
    refine ⟨by show 1 ≤ sizeLine; decide, fun c7 hc7 => ?_⟩
    have r7 := same_upd (o := .tup [V.ref c6]) hc7
    have f7 : upd G6 c7 (.tup [V.ref c6]) c7 = some (.tup [V.ref c6]) := upd_same
    generalize upd G6 c7 _ = G7 at *
    refine ⟨by show 3 ≤ sizeLine; decide, fun c8 hc8 => ?_⟩
    have r8 := same_upd (o := .tup [V.int 4, V.int 3, V.ref c7]) hc8
    have f8 : upd G7 c8 (.tup [V.int 4, V.int 3, V.ref c7]) c8 = some (.tup [V.int 4, V.int 3, V.ref c7]) := upd_same
    generalize upd G7 c8 _ = G8 at *
    have w1 : dv K G1 (.tuple []) (.ref c1) := dv.tup f1 rfl
    have w2 : dv K G2 (.tuple [.int 2, .int 1, .tuple []]) (.ref c2) := dv.tup f2 ⟨_, _, rfl, rfl, ⟨_, _, rfl, rfl, .one ((dv.same r2 _ w1))⟩⟩
    have w3 : dv K G3 (.tuple [.tuple [.int 2, .int 1, .tuple []], .int 1]) (.ref c3) := dv.tup f3 ⟨_, _, rfl, (dv.same r3 _ w2), .one (rfl)⟩
    have w4 : dv K G4 (.tuple [.tuple [.tuple [.int 2, .int 1, .tuple []], .int 1]]) (.ref c4) := dv.tup f4 (.one ((dv.same r4 _ w3)))
    have w5 : dv K G5 (.tuple [.int 3, .int 2, .tuple [.tuple [.tuple [.int 2, .int 1, .tuple []], .int 1]]]) (.ref c5) := dv.tup f5 ⟨_, _, rfl, rfl, ⟨_, _, rfl, rfl, .one ((dv.same r5 _ w4))⟩⟩
    have w6 : dv K G6 (.tuple [.tuple [.int 3, .int 2, .tuple [.tuple [.tuple [.int 2, .int 1, .tuple []], .int 1]]], .int 1]) (.ref c6) := dv.tup f6 ⟨_, _, rfl, (dv.same r6 _ w5), .one (rfl)⟩
    have w7 : dv K G7 (.tuple [.tuple [.tuple [.int 3, .int 2, .tuple [.tuple [.tuple [.int 2, .int 1, .tuple []], .int 1]]], .int 1]]) (.ref c7) := dv.tup f7 (.one ((dv.same r7 _ w6)))
    have w8 : dv K G8 (.tuple [.int 4, .int 3, .tuple [.tuple [.tuple [.int 3, .int 2, .tuple [.tuple [.tuple [.int 2, .int 1, .tuple []], .int 1]]], .int 1]]]) (.ref c8) := dv.tup f8 ⟨_, _, rfl, rfl, ⟨_, _, rfl, rfl, .one ((dv.same r8 _ w7))⟩⟩
    refine ⟨_, _, rfl, w8, ?_, ?_, fun b H2 hb s2 => ?_⟩
    · simp only [smD, smDs]; decide
    · simp only [szD, szDs]; decide
    have b0 : b = false := by
      cases b with
      | false => rfl
      | true =>
        have := pp_pm (hb.mp rfl)
        exact absurd (show (2 : Int) ∣ 4 by decide) (this.no 2 (by decide) (by decide))
    subst b0
    refine ⟨false, rfl, ?_⟩
    rw [if_pos rfl]
    refine ⟨by show 0 ≤ sizeLine; decide, fun p5 hp5 => ⟨by show 3 ≤ sizeLine; decide, fun p6 hp6 => ?_⟩⟩
    have s5 := same_upd (o := .tup []) hp5
    have e5 : upd H2 p5 (.tup []) p5 = some (.tup []) := upd_same
    generalize upd H2 p5 _ = H5 at *
    have s6 := same_upd (o := .tup [V.int 1, V.int 1, V.ref p5]) hp6
    refine ⟨.tuple [.int 1, .int 1, .tuple []], _, rfl, dv.tup upd_same ⟨_, _, rfl, rfl, _, _, rfl, rfl, .one (dv.tup (s6 _ _ e5) rfl)⟩, ?_, ?_, fun b H7 hb s7 => ⟨b, rfl, ?_⟩⟩
    · simp only [smD, smDs]; decide
    · simp only [szD, szDs]; decide
    have b0 : b = false := by
      cases b with
      | false => rfl
      | true =>
        have := (pp_pm (hb.mp rfl)).two
        exact absurd this (by decide)
    subst b0
    exact q _
end
end K
set_option Elab.async false
set_option linter.all false
set_option maxRecDepth 100000
set_option maxHeartbeats 8000000
namespace PySem.W.Fast
theorem tw8635596419059133494:True:=⟨⟩
theorem tw10274527955699138592:True:=⟨⟩
theorem tw4670708820476827904:True:=⟨⟩
theorem tw2799249895432444448:True:=⟨⟩
theorem tw2710277941418855040:True:=⟨⟩
theorem tw12971270952043926400:True:=⟨⟩
theorem tw15759298031176969217:True:=⟨⟩
theorem tw17364201526139562049:True:=⟨⟩
theorem tw3010336280790418689:True:=⟨⟩
theorem tw13237054492428416385:True:=⟨⟩
theorem tw6856653202292243041:True:=⟨⟩
theorem tw9107252834558543681:True:=⟨⟩
theorem tw7633318035225721697:True:=⟨⟩
theorem tw16750782885888326722:True:=⟨⟩
theorem tw17855203681086779490:True:=⟨⟩
theorem tw18329905957282880002:True:=⟨⟩
theorem tw3040855809058417186:True:=⟨⟩
theorem tw4628804767103816290:True:=⟨⟩
theorem tw5408232437650142818:True:=⟨⟩
theorem tw1438417440221893250:True:=⟨⟩
theorem tw3252102092516767875:True:=⟨⟩
theorem tw58485797885803203:True:=⟨⟩
theorem tw4997239731501284099:True:=⟨⟩
theorem tw8440584177001270372:True:=⟨⟩
theorem tw15408604982354400708:True:=⟨⟩
theorem tw10467440732031220228:True:=⟨⟩
theorem tw4940739158787384357:True:=⟨⟩
theorem tw12983040537212938277:True:=⟨⟩
theorem tw10356600293628713029:True:=⟨⟩
theorem tw4463277222141831429:True:=⟨⟩
theorem tw2295941566866058597:True:=⟨⟩
theorem tw15889410279176117733:True:=⟨⟩
theorem tw16521626021997963302:True:=⟨⟩
theorem tw14035565049395448070:True:=⟨⟩
theorem tw542146422767853158:True:=⟨⟩
theorem tw3692875328691102374:True:=⟨⟩
theorem tw12140752298027359942:True:=⟨⟩
theorem tw9785382510357558118:True:=⟨⟩
theorem tw6929883066188723110:True:=⟨⟩
theorem tw2849610063553542311:True:=⟨⟩
theorem tw15562606769456401735:True:=⟨⟩
theorem tw1468274665778128231:True:=⟨⟩
theorem tw9991613179657131399:True:=⟨⟩
theorem tw13153686684008546791:True:=⟨⟩
theorem tw2340616676775355879:True:=⟨⟩
theorem tw10757600977365236199:True:=⟨⟩
theorem tw4753991544982091431:True:=⟨⟩
theorem tw11149639117822817352:True:=⟨⟩
theorem tw13583174263354986664:True:=⟨⟩
theorem tw12948993978682156360:True:=⟨⟩
theorem tw17374709067283805896:True:=⟨⟩
theorem tw16310698883348526153:True:=⟨⟩
theorem tw1773876344115319433:True:=⟨⟩
theorem tw3318484249375898313:True:=⟨⟩
theorem tw16164408852763725545:True:=⟨⟩
theorem tw8200278132771576906:True:=⟨⟩
theorem tw1334204393198662794:True:=⟨⟩
theorem tw17652312400192937194:True:=⟨⟩
theorem tw10626492653370434250:True:=⟨⟩
theorem tw10497864806304831851:True:=⟨⟩
theorem tw17928517195567885931:True:=⟨⟩
theorem tw5132123370080429548:True:=⟨⟩
theorem tw13357451255984349996:True:=⟨⟩
theorem tw7673525063963710701:True:=⟨⟩
theorem tw1508165725048681997:True:=⟨⟩
theorem tw13262241840791384749:True:=⟨⟩
theorem tw4252024858123260717:True:=⟨⟩
theorem tw13621062681911105453:True:=⟨⟩
theorem tw2159674002623509646:True:=⟨⟩
theorem tw18049889264448913934:True:=⟨⟩
theorem tw15354049948442065422:True:=⟨⟩
theorem tw15981788645395403502:True:=⟨⟩
theorem tw10116664384315377390:True:=⟨⟩
theorem tw1329248535711359886:True:=⟨⟩
theorem tw4067925520398926959:True:=⟨⟩
theorem tw10265753330050597039:True:=⟨⟩
theorem tw12410703432588422447:True:=⟨⟩
theorem tw7613007078113856975:True:=⟨⟩
theorem tw17171711957018034767:True:=⟨⟩
theorem tw8878964818373523151:True:=⟨⟩
theorem tw6412407096336581487:True:=⟨⟩
theorem tw14206610980898701328:True:=⟨⟩
theorem tw12134976478489352240:True:=⟨⟩
theorem tw11456962559129982064:True:=⟨⟩
theorem tw109565416559202640:True:=⟨⟩
theorem tw8705905475200423312:True:=⟨⟩
theorem tw9802247082920595216:True:=⟨⟩
theorem tw13496047928709745488:True:=⟨⟩
theorem tw2851588398428221553:True:=⟨⟩
theorem tw13105612205265890481:True:=⟨⟩
theorem tw8306596191312522705:True:=⟨⟩
theorem tw4388578673832423953:True:=⟨⟩
theorem tw17249618911878980177:True:=⟨⟩
theorem tw4807496607718967346:True:=⟨⟩
theorem tw12944941254115134738:True:=⟨⟩
theorem tw626330230344237618:True:=⟨⟩
theorem tw13081798357041926771:True:=⟨⟩
theorem tw12633346960914160563:True:=⟨⟩
theorem tw305752558595317876:True:=⟨⟩
theorem tw17982677786876157300:True:=⟨⟩
theorem tw11769752866201582004:True:=⟨⟩
theorem tw13404281529447277396:True:=⟨⟩
theorem tw290174723067127700:True:=⟨⟩
theorem tw6976808163843269588:True:=⟨⟩
theorem tw9173852320756255732:True:=⟨⟩
theorem tw14311770695374300245:True:=⟨⟩
theorem tw11897359206231117045:True:=⟨⟩
theorem tw15480113380618509589:True:=⟨⟩
theorem tw1739007479338694261:True:=⟨⟩
theorem tw16743622906718145301:True:=⟨⟩
theorem tw15051759343643269013:True:=⟨⟩
theorem tw11884315935640629334:True:=⟨⟩
theorem tw13415066654618268854:True:=⟨⟩
theorem tw16685028232160916726:True:=⟨⟩
theorem tw10294424210785612118:True:=⟨⟩
theorem tw11759323360244534966:True:=⟨⟩
theorem tw5688545010560341271:True:=⟨⟩
theorem tw10459994705696801143:True:=⟨⟩
theorem tw9712332651628283255:True:=⟨⟩
theorem tw1336628512429015320:True:=⟨⟩
theorem tw9903851986740887832:True:=⟨⟩
theorem tw11708713667545740888:True:=⟨⟩
theorem tw9082547163608321784:True:=⟨⟩
theorem tw2064409496519084984:True:=⟨⟩
theorem tw144328387813369816:True:=⟨⟩
theorem tw11824073105082012793:True:=⟨⟩
theorem tw11837976643607327001:True:=⟨⟩
theorem tw2595417224494777753:True:=⟨⟩
theorem tw6374965510668202777:True:=⟨⟩
theorem tw3082566603821561753:True:=⟨⟩
theorem tw7612320049581049753:True:=⟨⟩
theorem tw9179109055097734170:True:=⟨⟩
theorem tw910287313155880026:True:=⟨⟩
theorem tw15510807348009486682:True:=⟨⟩
theorem tw10522264623924782778:True:=⟨⟩
theorem tw15325503428731113370:True:=⟨⟩
theorem tw14817898787857099706:True:=⟨⟩
theorem tw13808239429366866043:True:=⟨⟩
theorem tw12624470791690316187:True:=⟨⟩
theorem tw12879420763499552187:True:=⟨⟩
theorem tw9288840583990759035:True:=⟨⟩
theorem tw6390829669111440091:True:=⟨⟩
theorem tw3899077000927222555:True:=⟨⟩
theorem tw16598124045091513115:True:=⟨⟩
theorem tw4468873860070005788:True:=⟨⟩
theorem tw15544764972902641948:True:=⟨⟩
theorem tw16799490311774310844:True:=⟨⟩
theorem tw10757314413813221916:True:=⟨⟩
theorem tw7619191596211909244:True:=⟨⟩
theorem tw10707624996197386076:True:=⟨⟩
theorem tw4981033255439274908:True:=⟨⟩
theorem tw7891970452629090461:True:=⟨⟩
theorem tw16020803889034062045:True:=⟨⟩
theorem tw13887345306925556157:True:=⟨⟩
theorem tw11118766107633284541:True:=⟨⟩
theorem tw17510570869687367293:True:=⟨⟩
theorem tw7278910365478287037:True:=⟨⟩
theorem tw11553276655874957342:True:=⟨⟩
theorem tw11869541923566380126:True:=⟨⟩
theorem tw8008501719803107710:True:=⟨⟩
theorem tw12707312866001576414:True:=⟨⟩
theorem tw3465022748252676606:True:=⟨⟩
theorem tw1974795593316178558:True:=⟨⟩
theorem tw67520410358374078:True:=⟨⟩
theorem tw1586073938197343006:True:=⟨⟩
theorem tw359146005996376287:True:=⟨⟩
theorem tw1641055365541223807:True:=⟨⟩
theorem tw12140738967857800607:True:=⟨⟩
theorem tw5967997123192851039:True:=⟨⟩
theorem tw18258745945264759615:True:=⟨⟩
theorem tw11920417783717238719:True:=⟨⟩
theorem tw4326439990714508223:True:=⟨⟩
theorem tw5865306215180876735:True:=⟨⟩
end PySem.W.Fast
namespace K
open PySem PySem.Spec PyProof.Rows L2
theorem in_TooFar : InitSt "TooFar.__init__" "part" "part" (inClass (top 3) 0) := ⟨⟨rfl, rfl, rfl, by decide +kernel, rfl, by decide +kernel, by decide +kernel⟩, ⟨_, _, _, _, rfl, fun _ => rfl, fun _ => rfl⟩, rfl, rfl, by decide, by decide, fun _ _ _ _ _ _ us hl => match us, hl with | [_, _], _ => rfl⟩
theorem in_NoPrime : InitSt "NoPrime.__init__" "divisor" "divisor" (inClass (top 4) 0) := ⟨⟨rfl, rfl, rfl, by decide +kernel, rfl, by decide +kernel, by decide +kernel⟩, ⟨_, _, _, _, rfl, fun _ => rfl, fun _ => rfl⟩, rfl, rfl, by decide, by decide, fun _ _ _ _ _ _ us hl => match us, hl with | [_, _], _ => rfl⟩
theorem in_NoInverse : InitSt "NoInverse.__init__" "divisor" "divisor" (inClass (top 5) 0) := ⟨⟨rfl, rfl, rfl, by decide +kernel, rfl, by decide +kernel, by decide +kernel⟩, ⟨_, _, _, _, rfl, fun _ => rfl, fun _ => rfl⟩, rfl, rfl, by decide, by decide, fun _ _ _ _ _ _ us hl => match us, hl with | [_, _], _ => rfl⟩
end K
open PySem PySem.W PyProof.Rows L2
set_option maxHeartbeats 0 in
theorem PySem.Challenge.cw_rootprime_k22_whole_only_primes_have_pap_holds : PySem.Challenge.rw_rootprime_k22_whole_only_primes_have_pap.Holds := by
  w_on; o_law; k_head; (case hw => w_witness2)
  k_fill
  refine L2.walk_ofK (l := PySem.Challenge.rw_rootprime_k22_whole_only_primes_have_pap) (n := 63) (k := 74) (x := "_law_script") (CX := L2.CX0) (sp := K.spLaw) rfl (by decide) rfl ⟨rfl, by decide, by decide⟩ (fun w h Y => PySem.W.kIn_of Y) ?F ?S ?C
  case F =>
    intro w mg fa h KX G hmg
    have d_divisor : L2.DefAt (L2.KOf KX) mg "divisor" (K.top 7) := by
      dsimp only [L2.KOf]
      refine' L2.defAt_mk KX G ?a ?l ?c ?k
      (case a => k_is); (case l => k_is); (case c => k_is); (case k => k_is)
    have d_inverse : L2.DefAt (L2.KOf KX) mg "inverse" (K.top 8) := by
      dsimp only [L2.KOf]
      refine' L2.defAt_mk KX G ?a ?l ?c ?k
      (case a => k_is); (case l => k_is); (case c => k_is); (case k => k_is)
    have d_is_whole : L2.DefAt (L2.KOf KX) mg "is_whole" (K.top 10) := by
      dsimp only [L2.KOf]
      refine' L2.defAt_mk KX G ?a ?l ?c ?k
      (case a => k_is); (case l => k_is); (case c => k_is); (case k => k_is)
    have d_is_tuple_of : L2.DefAt (L2.KOf KX) mg "is_tuple_of" (K.top 11) := by
      dsimp only [L2.KOf]
      refine' L2.defAt_mk KX G ?a ?l ?c ?k
      (case a => k_is); (case l => k_is); (case c => k_is); (case k => k_is)
    have d_primes_in : L2.DefAt (L2.KOf KX) mg "primes_in" (K.top 12) := by
      dsimp only [L2.KOf]
      refine' L2.defAt_mk KX G ?a ?l ?c ?k
      (case a => k_is); (case l => k_is); (case c => k_is); (case k => k_is)
    have d_power : L2.DefAt (L2.KOf KX) mg "power" (K.top 14) := by
      dsimp only [L2.KOf]
      refine' L2.defAt_mk KX G ?a ?l ?c ?k
      (case a => k_is); (case l => k_is); (case c => k_is); (case k => k_is)
    have d_is_least : L2.DefAt (L2.KOf KX) mg "is_least" (K.top 15) := by
      dsimp only [L2.KOf]
      refine' L2.defAt_mk KX G ?a ?l ?c ?k
      (case a => k_is); (case l => k_is); (case c => k_is); (case k => k_is)
    have d_is_prime_paper : L2.DefAt (L2.KOf KX) mg "is_prime_paper" (K.top 17) := by
      dsimp only [L2.KOf]
      refine' L2.defAt_mk KX G ?a ?l ?c ?k
      (case a => k_is); (case l => k_is); (case c => k_is); (case k => k_is)
    have d_are_prime_papers : L2.DefAt (L2.KOf KX) mg "are_prime_papers" (K.top 18) := by
      dsimp only [L2.KOf]
      refine' L2.defAt_mk KX G ?a ?l ?c ?k
      (case a => k_is); (case l => k_is); (case c => k_is); (case k => k_is)
    have d_is_right_above : L2.DefAt (L2.KOf KX) mg "is_right_above" (K.top 19) := by
      dsimp only [L2.KOf]
      refine' L2.defAt_mk KX G ?a ?l ?c ?k
      (case a => k_is); (case l => k_is); (case c => k_is); (case k => k_is)
    have d_is_paper_form : L2.DefAt (L2.KOf KX) mg "is_paper_form" (K.top 20) := by
      dsimp only [L2.KOf]
      refine' L2.defAt_mk KX G ?a ?l ?c ?k
      (case a => k_is); (case l => k_is); (case c => k_is); (case k => k_is)
    have d_come_to : L2.DefAt (L2.KOf KX) mg "come_to" (K.top 21) := by
      dsimp only [L2.KOf]
      refine' L2.defAt_mk KX G ?a ?l ?c ?k
      (case a => k_is); (case l => k_is); (case c => k_is); (case k => k_is)
    have d_is_row_form : L2.DefAt (L2.KOf KX) mg "is_row_form" (K.top 22) := by
      dsimp only [L2.KOf]
      refine' L2.defAt_mk KX G ?a ?l ?c ?k
      (case a => k_is); (case l => k_is); (case c => k_is); (case k => k_is)
    have d_without : L2.DefAt (L2.KOf KX) mg "without" (K.top 23) := by
      dsimp only [L2.KOf]
      refine' L2.defAt_mk KX G ?a ?l ?c ?k
      (case a => k_is); (case l => k_is); (case c => k_is); (case k => k_is)
    have d_least_divisor : L2.DefAt (L2.KOf KX) mg "least_divisor" (K.top 26) := by
      dsimp only [L2.KOf]
      refine' L2.defAt_mk KX G ?a ?l ?c ?k
      (case a => k_is); (case l => k_is); (case c => k_is); (case k => k_is)
    have d_least_divisor_from : L2.DefAt (L2.KOf KX) mg "least_divisor_from" (K.top 27) := by
      dsimp only [L2.KOf]
      refine' L2.defAt_mk KX G ?a ?l ?c ?k
      (case a => k_is); (case l => k_is); (case c => k_is); (case k => k_is)
    have d_parted : L2.DefAt (L2.KOf KX) mg "parted" (K.top 28) := by
      dsimp only [L2.KOf]
      refine' L2.defAt_mk KX G ?a ?l ?c ?k
      (case a => k_is); (case l => k_is); (case c => k_is); (case k => k_is)
    have d_prime_paper : L2.DefAt (L2.KOf KX) mg "prime_paper" (K.top 30) := by
      dsimp only [L2.KOf]
      refine' L2.defAt_mk KX G ?a ?l ?c ?k
      (case a => k_is); (case l => k_is); (case c => k_is); (case k => k_is)
    have d_parting_paper : L2.DefAt (L2.KOf KX) mg "parting_paper" (K.top 31) := by
      dsimp only [L2.KOf]
      refine' L2.defAt_mk KX G ?a ?l ?c ?k
      (case a => k_is); (case l => k_is); (case c => k_is); (case k => k_is)
    have d_least_full : L2.DefAt (L2.KOf KX) mg "least_full" (K.top 32) := by
      dsimp only [L2.KOf]
      refine' L2.defAt_mk KX G ?a ?l ?c ?k
      (case a => k_is); (case l => k_is); (case c => k_is); (case k => k_is)
    have d__law_draws : L2.DefAt (L2.KOf KX) mg "_law_draws" (K.top 34) := by
      dsimp only [L2.KOf]
      refine' L2.defAt_mk KX G ?a ?l ?c ?k
      (case a => k_is); (case l => k_is); (case c => k_is); (case k => k_is)
    have d__law_is_prime : L2.DefAt (L2.KOf KX) mg "_law_is_prime" (K.top 35) := by
      dsimp only [L2.KOf]
      refine' L2.defAt_mk KX G ?a ?l ?c ?k
      (case a => k_is); (case l => k_is); (case c => k_is); (case k => k_is)
    have d__law_taken : L2.DefAt (L2.KOf KX) mg "_law_taken" (K.top 36) := by
      dsimp only [L2.KOf]
      refine' L2.defAt_mk KX G ?a ?l ?c ?k
      (case a => k_is); (case l => k_is); (case c => k_is); (case k => k_is)
    have d__law_groups : L2.DefAt (L2.KOf KX) mg "_law_groups" (K.top 37) := by
      dsimp only [L2.KOf]
      refine' L2.defAt_mk KX G ?a ?l ?c ?k
      (case a => k_is); (case l => k_is); (case c => k_is); (case k => k_is)
    have d__law_thing : L2.DefAt (L2.KOf KX) mg "_law_thing" (K.top 38) := by
      dsimp only [L2.KOf]
      refine' L2.defAt_mk KX G ?a ?l ?c ?k
      (case a => k_is); (case l => k_is); (case c => k_is); (case k => k_is)
    have d__law_all_primes : L2.DefAt (L2.KOf KX) mg "_law_all_primes" (K.top 39) := by
      dsimp only [L2.KOf]
      refine' L2.defAt_mk KX G ?a ?l ?c ?k
      (case a => k_is); (case l => k_is); (case c => k_is); (case k => k_is)
    have d_law : L2.DefAt (L2.KOf KX) mg "law" (K.top 40) := by
      dsimp only [L2.KOf]
      refine' L2.defAt_mk KX G ?a ?l ?c ?k
      (case a => k_is); (case l => k_is); (case c => k_is); (case k => k_is)
    have n_abs : mg "abs" = none := PySem.W.mg_none_of KX G (by k_is)
    have n_isinstance : mg "isinstance" = none := PySem.W.mg_none_of KX G (by k_is)
    have n_bool : mg "bool" = none := PySem.W.mg_none_of KX G (by k_is)
    have n_int : mg "int" = none := PySem.W.mg_none_of KX G (by k_is)
    have n_range : mg "range" = none := PySem.W.mg_none_of KX G (by k_is)
    have n_tuple : mg "tuple" = none := PySem.W.mg_none_of KX G (by k_is)
    have n_all : mg "all" = none := PySem.W.mg_none_of KX G (by k_is)
    have n_list : mg "list" = none := PySem.W.mg_none_of KX G (by k_is)
    have n_len : mg "len" = none := PySem.W.mg_none_of KX G (by k_is)
    have n_sorted : mg "sorted" = none := PySem.W.mg_none_of KX G (by k_is)
    have n_min : mg "min" = none := PySem.W.mg_none_of KX G (by k_is)
    have n_max : mg "max" = none := PySem.W.mg_none_of KX G (by k_is)
    refine' L2.cutx (PySem.W.mg_of (n := "PrimeError") KX G ?xa) (fun a_PrimeError => ?g1)
    (case xa => k_is)
    refine' L2.cutx (L2.xcls_at KX a_PrimeError ?l ?c2 ?c3 ?e1 ?e2 ?e3 ?e4 ?e5 ?e6 ?ob ?kp) (fun c_PrimeError => ?g2)
    (case l => k_is); (case c2 => rfl); (case c3 => rfl); (case e1 => k_is); (case e2 => k_is); (case e3 => k_is); (case e4 => k_is); (case e5 => k_is); (case e6 => k_is); (case ob => exact ⟨_, _, _, _, _, _, _, _, _, _, _, _, _, _, _, _, rfl, rfl, rfl, rfl⟩); (case kp => k_is)
    refine' L2.cutx (L2.xcl0_mk a_PrimeError c_PrimeError.2 c_PrimeError.1 ?i) (fun x_PrimeError => ?g3)
    (case i => k_is)
    refine' L2.cutx (PySem.W.mg_of (n := "NoNumber") KX G ?xa) (fun a_NoNumber => ?g4)
    (case xa => k_is)
    refine' L2.cutx (L2.xcls_at KX a_NoNumber ?l ?c2 ?c3 ?e1 ?e2 ?e3 ?e4 ?e5 ?e6 ?ob ?kp) (fun c_NoNumber => ?g5)
    (case l => k_is); (case c2 => rfl); (case c3 => rfl); (case e1 => k_is); (case e2 => k_is); (case e3 => k_is); (case e4 => k_is); (case e5 => k_is); (case e6 => k_is); (case ob => exact ⟨_, _, _, _, _, _, _, _, _, _, _, _, _, _, _, _, rfl, rfl, rfl, rfl⟩); (case kp => k_is)
    refine' L2.cutx (L2.xcl0_mk a_NoNumber c_NoNumber.2 c_NoNumber.1 ?i) (fun x_NoNumber => ?g6)
    (case i => k_is)
    refine' L2.cutx (PySem.W.mg_of (n := "TooFar") KX G ?xa) (fun a_TooFar => ?g7)
    (case xa => k_is)
    refine' L2.cutx (L2.xcls_at KX a_TooFar ?l ?c2 ?c3 ?e1 ?e2 ?e3 ?e4 ?e5 ?e6 ?ob ?kp) (fun c_TooFar => ?g8)
    (case l => k_is); (case c2 => rfl); (case c3 => rfl); (case e1 => k_is); (case e2 => k_is); (case e3 => k_is); (case e4 => k_is); (case e5 => k_is); (case e6 => k_is); (case ob => exact ⟨_, _, _, _, _, _, _, _, _, _, _, _, _, _, _, _, rfl, rfl, rfl, rfl⟩); (case kp => k_is)
    refine' L2.cutx (L2.xcl1_mk K.in_TooFar a_TooFar c_TooFar.2 c_TooFar.1 ?nf ?i ?fn ?l ?cc ?kk) (fun x_TooFar => ?g9)
    (case nf => k_is); (case i => k_is); (case fn => k_is); (case l => k_is); (case cc => k_is); (case kk => k_is)
    refine' L2.cutx (PySem.W.mg_of (n := "NoPrime") KX G ?xa) (fun a_NoPrime => ?g10)
    (case xa => k_is)
    refine' L2.cutx (L2.xcls_at KX a_NoPrime ?l ?c2 ?c3 ?e1 ?e2 ?e3 ?e4 ?e5 ?e6 ?ob ?kp) (fun c_NoPrime => ?g11)
    (case l => k_is); (case c2 => rfl); (case c3 => rfl); (case e1 => k_is); (case e2 => k_is); (case e3 => k_is); (case e4 => k_is); (case e5 => k_is); (case e6 => k_is); (case ob => exact ⟨_, _, _, _, _, _, _, _, _, _, _, _, _, _, _, _, rfl, rfl, rfl, rfl⟩); (case kp => k_is)
    refine' L2.cutx (L2.xcl1_mk K.in_NoPrime a_NoPrime c_NoPrime.2 c_NoPrime.1 ?nf ?i ?fn ?l ?cc ?kk) (fun x_NoPrime => ?g12)
    (case nf => k_is); (case i => k_is); (case fn => k_is); (case l => k_is); (case cc => k_is); (case kk => k_is)
    refine' L2.cutx (PySem.W.mg_of (n := "NoInverse") KX G ?xa) (fun a_NoInverse => ?g13)
    (case xa => k_is)
    refine' L2.cutx (L2.xcls_at KX a_NoInverse ?l ?c2 ?c3 ?e1 ?e2 ?e3 ?e4 ?e5 ?e6 ?ob ?kp) (fun c_NoInverse => ?g14)
    (case l => k_is); (case c2 => rfl); (case c3 => rfl); (case e1 => k_is); (case e2 => k_is); (case e3 => k_is); (case e4 => k_is); (case e5 => k_is); (case e6 => k_is); (case ob => exact ⟨_, _, _, _, _, _, _, _, _, _, _, _, _, _, _, _, rfl, rfl, rfl, rfl⟩); (case kp => k_is)
    refine' L2.cutx (L2.xcl1_mk K.in_NoInverse a_NoInverse c_NoInverse.2 c_NoInverse.1 ?nf ?i ?fn ?l ?cc ?kk) (fun x_NoInverse => ?g15)
    (case nf => k_is); (case i => k_is); (case fn => k_is); (case l => k_is); (case cc => k_is); (case kk => k_is)
    refine' L2.cutx (PySem.W.mg_of (n := "GREATEST") KX G ?xa) (fun g_GREATEST => ?g16)
    (case xa => k_is)
    refine L2.law_end hmg d_law (fun _ _ _ _ _ _ _ => rfl) fun base f fd kb F => ?_
    have inv := fun P w => K.ok_inverse (P := P) (w := w) (base := base) d_inverse (K.ok_divisor d_divisor n_abs) (x_NoInverse _ _ _)
    have pw := fun P w => K.ok_power (P := P) (w := w) (base := base) d_power (inv P w) n_abs
    have lt := fun P w => K.ok_isLeast (P := P) (w := w) (base := base) d_is_least (pw P w) n_all
    have fr := fun P w => K.ok_from (P := P) (w := w) (base := base) d_least_divisor_from
    have ls := fun P w => K.ok_least (P := P) (w := w) (base := base) d_least_divisor (fr P w) x_NoNumber (x_TooFar _ _ _) ⟨_, g_GREATEST⟩
    have pd := fun P w => K.ok_parted (P := P) (w := w) (base := base) d_parted (fr P w) x_NoNumber (x_TooFar _ _ _) ⟨_, g_GREATEST⟩
    have pi := fun P w => K.ok_primesIn (P := P) (w := w) (base := base) d_primes_in
    have ppb := fun P w => K.ok_papers (P := P) (w := w) (base := base) d_prime_paper d_parting_paper (ls P w) (pd P w) (K.ok_leastFull d_least_full (lt P w)) (pi P w) (x_NoPrime _ _ _) n_tuple 30
    have pp := fun P w => K.paperA (ppb P w).1
    have ww := fun P w => K.ok_w (P := P) (w := w) (base := base) d_is_whole n_isinstance n_int n_bool
    have tf := fun P w => K.ok_tof (P := P) (w := w) (base := base) d_is_tuple_of n_isinstance n_tuple n_len
    have pf := fun P w => K.ok_pf (P := P) (w := w) (base := base) d_is_paper_form (ww P w) (tf P w) n_isinstance n_tuple
    have ct := fun P w => K.ok_ct (P := P) (w := w) (base := base) d_come_to (K.ok_rf d_is_row_form (ww P w) (tf P w) (pf P w)) (K.ok_wo d_without)
    have ra := fun P w => K.ok_ra (P := P) (w := w) (base := base) d_is_right_above (pf P w) (ct P w) (lt P w) (pi P w)
    have pps := fun P w => K.ok_pps (P := P) (w := w) (base := base) d_are_prime_papers (ra P w) n_list
    have ipr := fun P w => K.ok_pp (P := P) (w := w) (base := base) d_is_prime_paper (pps P w)
    have lip := fun P w => K.ok_lprime (P := P) (w := w) (base := base) d__law_is_prime
    exact K.ok_law F (K.ok_draws d__law_draws n_abs n_range) (K.ok_thing d__law_thing (lip _ _) (pp _ _) (K.ok_groups d__law_groups (K.partedA (pd _ _)) (K.ok_taken d__law_taken n_range) n_len n_sorted) n_max n_tuple 4) (ipr _ _) (K.ok_all d__law_all_primes (lip _ _) n_all 30) (lip _ _) n_range n_min n_isinstance n_bool
  case S => exact fun K H a ns hl hO hS => ⟨a, ns, rfl, hS, hl, fun _ => rfl⟩
  case C => exact fun _ _ _ _ z => z
