import PyProof.Rows.All
import Wide.All
import OpenK.AllK
import Wide.FinOn
import Lean
import PyProof.EqAt
import PyProof.EqKinds
import PyProof.TupleCall
import PyProof.NeKinds
import PyProof.NeData
import PyProof.P3In
import PyProof.ZipIter
import PyProof.Draws
import PyProof.StrWalks
import PyProof.IsiPairs
import PyProof.IsiSeqPairs
import PyProof.ConsumeWalk
import PyProof.ListStr
import PyProof.IsiHeapPairs
import PyProof.Rows.Range3
import PyProof.IsiNone
import KE.KRevIter
import KE.KRevSl
import PyProof.Conv_int_bool
import PyProof.ListRange
import PyProof.TupleOfSeq
import PyProof.MinMaxWalk
import PyProof.WalkInts
import PyProof.SeqI3
import PySem.Challenge.RW_fewfind_k94_whole_back_and_twins
set_option Elab.async false
set_option linter.all false
set_option maxRecDepth 100000
namespace L2
open PySem PySem.Spec PyProof.Rows
abbrev Key := Sum Int Str
def keyIs : Key → Value → Bool
 | .inl k, v => Value.isInt k v
 | .inr x, v => Value.isStrOf x v
def keyH (w : World) : Key → Int
 | .inl k => hashInt k
 | .inr x => hashStr w x
theorem zj1 : ∀ {k : Key} {v : Value}, keyIs k v = true → (∃ i t, k = Sum.inl i ∧ v = Value.int i t) ∨ (∃ x t, k = Sum.inr x ∧ v = Value.str x t)
 | .inl i, v, h => by
  obtain ⟨t, e⟩ := Value.isInt_shape (k := i) (v := v) h
  exact .inl ⟨i, t, rfl, e⟩
 | .inr x, v, h => by
  obtain ⟨t, e⟩ := Value.isStrOf_shape (x := x) (v := v) h
  exact .inr ⟨x, t, rfl, e⟩
theorem key_ll (a b : Int) : decide ((Sum.inl a : Key) = Sum.inl b) = (a == b) := by
 by_cases e : a = b
 ·subst e; simp
 ·have h : ¬ (Sum.inl a : Key) = Sum.inl b := fun q => e (Sum.inl.inj q)
  rw [decide_eq_false h]
  exact (beq_eq_false_iff_ne.mpr e).symm
theorem key_rr (a b : Str) : decide ((Sum.inr a : Key) = Sum.inr b) = decide (a = b) := by
 by_cases e : a = b
 ·subst e; simp
 ·have h : ¬ (Sum.inr a : Key) = Sum.inr b := fun q => e (Sum.inr.inj q)
  rw [decide_eq_false h, decide_eq_false e]
theorem key_lr (a : Int) (b : Str) : decide ((Sum.inl a : Key) = Sum.inr b) = false := decide_eq_false (fun q => nomatch q)
theorem key_rl (a : Str) (b : Int) : decide ((Sum.inr a : Key) = Sum.inl b) = false := decide_eq_false (fun q => nomatch q)
def zY1 (prog : Program) (w : World) : PySem.KeyKind prog w Key where
 is := keyIs
 hash := keyH w
 inj := fun v a b ha hb => by
  rcases zj1 ha with ⟨i, t, rfl, rfl⟩ | ⟨x, t, rfl, rfl⟩
  ·rcases zj1 hb with ⟨j, u, rfl, e⟩ | ⟨y, u, rfl, e⟩
   ·injection e with e1 _; rw [e1]
   ·exact nomatch e
  ·rcases zj1 hb with ⟨j, u, rfl, e⟩ | ⟨y, u, rfl, e⟩
   ·exact nomatch e
   ·injection e with e1 _; rw [e1]
 byValue := fun k v h => by
  rcases zj1 h with ⟨i, t, rfl, rfl⟩ | ⟨x, t, rfl, rfl⟩ <;> rfl
 pyHash := fun hv h => by
  rcases zj1 hv with ⟨i, t, rfl, rfl⟩ | ⟨x, t, rfl, rfl⟩
  ·exact wpAny_pyHash_int h
  ·exact wpAny_pyHash_str h
 eqBool := fun hu hv h => by
  rcases zj1 hu with ⟨i, t, rfl, rfl⟩ | ⟨x, t, rfl, rfl⟩
  ·rcases zj1 hv with ⟨j, u, rfl, rfl⟩ | ⟨y, u, rfl, rfl⟩
   ·rw [key_ll] at h; exact wpAny_eqBool_int h
   ·rw [key_lr] at h; exact SeqAt.EqAt.int_str i t y u _ _ _ _ h
  ·rcases zj1 hv with ⟨j, u, rfl, rfl⟩ | ⟨y, u, rfl, rfl⟩
   ·rw [key_rl] at h; exact SeqAt.EqAt.str_int x t j u _ _ _ _ h
   ·rw [key_rr] at h; exact wpAny_eqBool_str h
 «strs» := fun k x t v h => by
  rcases zj1 h with ⟨i, u, rfl, e⟩ | ⟨y, u, rfl, e⟩
  ·exact nomatch e
  ·injection e with e1 _
   subst e1
   cases v <;> rfl
inductive V where
 | non | bl (b : Bool) | int (i : Int) | str (x : Str) | byt (b : Array UInt8) | flt (b : UInt64) | ref (a : Addr) | ty (n : String)
 deriving DecidableEq
def RelV : V → Value → Prop
 | .non, u => u = Value.none
 | .bl b, u => u = Value.bool b
 | .int i, u => ∃ t, u = Value.int i t
 | .str x, u => ∃ t, u = Value.str x t
 | .byt b, u => ∃ t, u = Value.bytes b t
 | .flt b, u => ∃ t, u = Value.float b t
 | .ref a, u => u = Value.ref a
 | .ty n, u => u = Value.type n
abbrev Vals : List V → List Value → Prop := Paired RelV
theorem Vals.length {xs : List V} {us : List Value} (r : Vals xs us) : xs.length = us.length := Paired.length r
theorem Vals.get : ∀ {xs : List V} {us : List Value} {i : Nat} {x : V}, Vals xs us → xs[i]? = some x → ∃ u, us[i]? = some u ∧ RelV x u
 | _, _, _, _, .nil, e => by simp at e
 | _, _, 0, _, .cons r _, e => by simp at e; subst e; exact ⟨_, rfl, r⟩
 | _, _, i + 1, x, .cons _ t, e => by
  obtain ⟨u, h1, h2⟩ := Vals.get (i := i) (x := x) t (by simpa using e)
  exact ⟨u, by simpa using h1, h2⟩
theorem Vals.set {x : V} {u : Value} (r : RelV x u) : ∀ {xs : List V} {us : List Value} (i : Nat), Vals xs us → Vals (xs.set i x) (us.set i u)
 | _, _, _, .nil => .nil
 | _, _, 0, .cons _ t => .cons r t
 | _, _, i + 1, .cons q t => .cons q (Vals.set r i t)
theorem Vals.append : ∀ {xs ys : List V} {us ws : List Value}, Vals xs us → Vals ys ws → Vals (xs ++ ys) (us ++ ws)
 | _, _, _, _, .nil, s => s
 | _, _, _, _, .cons r t, s => .cons r (Vals.append t s)
theorem Vals.take : ∀ {xs : List V} {us : List Value} (n : Nat), Vals xs us → Vals (xs.take n) (us.take n)
 | _, _, 0, _ => .nil
 | _, _, _ + 1, .nil => .nil
 | _, _, n + 1, .cons r t => .cons r (Vals.take n t)
theorem Vals.drop : ∀ {xs : List V} {us : List Value} (n : Nat), Vals xs us → Vals (xs.drop n) (us.drop n)
 | _, _, 0, r => r
 | _, _, _ + 1, .nil => .nil
 | _, _, n + 1, .cons _ t => Vals.drop n t
theorem Vals.none_of : ∀ {xs : List V} {us : List Value} {i : Nat}, Vals xs us → xs[i]? = none → us[i]? = none := fun {xs us i} r e => by
 have h1 := r.length
 have h2 : xs.length ≤ i := List.getElem?_eq_none_iff.mp e
 exact List.getElem?_eq_none_iff.mpr (by omega)
def RelO : Option V → Option Value → Prop
 | some v, some u => RelV v u
 | none, none => True
 | _, _ => False
def KV {κ : Type} : List (κ × V) → List (κ × Value) → Prop := Paired fun (p : κ × V) (q : κ × Value) => p.1 = q.1 ∧ RelV p.2 q.2
def kV : Key → V
 | .inl i => .int i
 | .inr x => .str x
inductive HO where
 | lst (xs : List V)
 | tup (xs : List V)
 | dK (kvs : List (Key × V)) | dT (kvs : List (List Key × V))
 | set (S : Int → Bool) (n : Nat)
 | ins (C dx : Addr) (fs : List (Str × V))
 | own (x : Addr)
 | xd (fs : List (Str × V))
 | met (f x : Addr)
 | rng (lo hi : Int)
 | frz (o : Obj) (u : HO)
 | tbl (ps : Array Value)
 | ext (φ : Heap → Prop)
abbrev Hp := Addr → Option HO
def upd (H : Hp) (a : Addr) (o : HO) : Hp := fun b => if b = a then some o else H b
theorem zb2 {H : Hp} {a : Addr} {o : HO} : upd H a o a = some o := by unfold upd; rw [if_pos rfl]
theorem zb3 {H : Hp} {a b : Addr} {o : HO} (h : b ≠ a) : upd H a o b = H b := by unfold upd; rw [if_neg h]
theorem zc7 {H : Hp} {a b : Addr} {o : HO} (h : H a = some o) (h' : H b = none) : a ≠ b := by
 intro e; subst e; rw [h] at h'; cases h'
section
variable (P : Program) (w : World)
def ObjOk (H : Hp) (h : Heap) (a : Addr) : HO → Prop
 | .lst xs => xs.length ≤ sizeLine ∧ ∃ (its : List Value) (n : Nat), Vals xs its ∧ h.get? a = some { cls := .type "list", data := .seq its.toArray n }
 | .tup xs => xs.length ≤ sizeLine ∧ ∃ its : List Value, Vals xs its ∧ IsTup h a its.toArray
 | .dK kvs => kvs.length ≤ sizeLine ∧ (a == sysModules) = false ∧ ∃ vs, KV kvs vs ∧ h.DictOf (zY1 P w) a vs
 | .dT kvs => kvs.length ≤ sizeLine ∧ (a == sysModules) = false ∧ ∃ xs : List (List Key × Addr × Value),
   Paired (fun (p : List Key × V) (q : List Key × Addr × Value) => p.1 = q.1 ∧ H q.2.1 = some (.tup (p.1.map kV)) ∧ RelV p.2 q.2.2) kvs xs ∧
   ∃ o es ep, h.get? a = some o ∧ o.ExactDict ∧ o.data = .dict es ep ∧ es.toList = xs.map (entryOfKey (tupleKind (zY1 P w))) ∧ (xs.map (·.1)).Nodup
 | .set S n => h.SetOf (intKind P w) a S n
 | .ins C dx fs => H dx = some (.own a) ∧ fs.length ≤ 1000 ∧ dx ≠ a ∧ h.get? a = some (PySem.W.instObj C dx) ∧
   ∃ mA, h.Ns1 dx mA ∧ (∀ f, RelO (fs.lookup f) (mA f)) ∧ PySem.Within mA (fs.map (·.1))
 | .own _ => ∃ o, h.get? a = some o
 | .xd fs => ∃ mA, h.Ns1 a mA ∧ ∀ f, RelO (fs.lookup f) (mA f)
 | .rng lo hi => ∃ t u v, h.get? a = some { cls := .type "range", data := .fields #[.int lo t, .int hi u, .int 1 v] }
 | .frz o u => h.get? a = some o ∧ ObjOk H h a u
 | .tbl ps => h.get? a = some { cls := .none, data := .fields ps }
 | .met f x => h.get? a = some (PySem.W.methodObj (.ref f) (.ref x))
 | .ext φ => φ h ∧ (∃ o, h.get? a = some o) ∧ ∀ h1 h2 : Heap, φ h1 → (∀ o, h1.get? a = some o → h2.get? a = some o) → φ h2
def HOk (H : Hp) (h : Heap) : Prop := ∀ a o, H a = some o → ObjOk P w H h a o
end
section
variable {P : Program} {w : World} {H H' : Hp} {h h' : Heap} {a : Addr} {o : HO}
theorem ObjOk.lt (x : ObjOk P w H h a o) : a < h.objs.size := by
 cases o with
 | lst xs => obtain ⟨_, _, _, _, e⟩ := x; exact Heap.lt_size e
 | tup xs => obtain ⟨_, _, _, p⟩ := x; exact p.lt
 | dK kvs => obtain ⟨_, _, _, _, o, _, _, e, _⟩ := x; exact Heap.lt_size e
 | dT kvs => obtain ⟨_, _, _, _, o, _, _, e, _⟩ := x; exact Heap.lt_size e
 | set S n => obtain ⟨o, _, _, _, e, _⟩ := x; exact Heap.lt_size e
 | ins C dx fs => obtain ⟨_, _, _, e, _⟩ := x; exact Heap.lt_size e
 | own y => obtain ⟨_, e⟩ := x; exact Heap.lt_size e
 | xd fs => obtain ⟨_, ⟨_, _, _, e, _⟩, _⟩ := x; exact Heap.lt_size e
 | rng lo hi => obtain ⟨_, _, _, e⟩ := x; exact Heap.lt_size e
 | frz ob u => obtain ⟨e, _⟩ := x; exact Heap.lt_size e
 | tbl ps => exact Heap.lt_size (show h.get? a = some _ from x)
 | met f y => exact Heap.lt_size (show h.get? a = some _ from x)
 | ext φ => obtain ⟨_, ⟨_, e⟩, _⟩ := x; exact Heap.lt_size e
theorem Paired.mapP {α β : Type} {F G : α → β → Prop} : ∀ {l₁ : List α} {l₂ : List β}, Paired F l₁ l₂ → (∀ a b, F a b → G a b) → Paired G l₁ l₂
 | _, _, .nil, _ => .nil
 | _, _, .cons r t, f => .cons (f _ _ r) (Paired.mapP t f)
theorem ObjOk.stay (x : ObjOk P w H h a o) (k : ∀ b u, (b = a ∨ H b = some (.own a)) → h.get? b = some u → h'.get? b = some u)
  (ho : ∀ b, H b = some (.own a) → H' b = some (.own a)) (ht : ∀ b xs, H b = some (.tup xs) → H' b = some (.tup xs)) : ObjOk P w H' h' a o := by
 induction o with
 | lst xs => obtain ⟨z, its, n, r, e⟩ := x; exact ⟨z, its, n, r, k _ _ (.inl rfl) e⟩
 | tup xs => obtain ⟨z, its, r, ob, e, c⟩ := x; exact ⟨z, its, r, ob, k _ _ (.inl rfl) e, c⟩
 | dK kvs => obtain ⟨z, y, vs, r, ob, es, ep, e, c⟩ := x; exact ⟨z, y, vs, r, ob, es, ep, k _ _ (.inl rfl) e, c⟩
 | dT kvs =>
  obtain ⟨z, y, xs, r, ob, es, ep, e, c⟩ := x
  exact ⟨z, y, xs, Paired.mapP r fun p q z => ⟨z.1, ht _ _ z.2.1, z.2.2⟩, ob, es, ep, k _ _ (.inl rfl) e, c⟩
 | set S n => obtain ⟨ob, es, ep, t, e, c⟩ := x; exact ⟨ob, es, ep, t, k _ _ (.inl rfl) e, c⟩
 | ins C dx fs =>
  obtain ⟨d, z, ne, e, mA, ⟨od, es, ep, e2, c⟩, r⟩ := x
  exact ⟨ho _ d, z, ne, k _ _ (.inl rfl) e, mA, ⟨od, es, ep, k _ _ (.inr d) e2, c⟩, r⟩
 | own y => obtain ⟨ob, e⟩ := x; exact ⟨ob, k _ _ (.inl rfl) e⟩
 | xd fs => obtain ⟨mA, ⟨od, es, ep, e, c⟩, r⟩ := x; exact ⟨mA, ⟨od, es, ep, k _ _ (.inl rfl) e, c⟩, r⟩
 | rng lo hi => obtain ⟨t, u, v, e⟩ := x; exact ⟨t, u, v, k _ _ (.inl rfl) e⟩
 | frz ob u ih => obtain ⟨e, q⟩ := x; exact ⟨k _ _ (.inl rfl) e, ih q⟩
 | tbl ps =>
  have e : h.get? a = some { cls := .none, data := .fields ps } := x
  show h'.get? a = some { cls := .none, data := .fields ps }
  exact k a _ (.inl rfl) e
 | met f y =>
  have e : h.get? a = some (PySem.W.methodObj (.ref f) (.ref y)) := x
  show h'.get? a = some (PySem.W.methodObj (.ref f) (.ref y))
  exact k a _ (.inl rfl) e
 | ext φ => obtain ⟨p, ⟨o, e⟩, st⟩ := x; exact ⟨st _ _ p fun o q => k _ _ (.inl rfl) q, ⟨o, k _ _ (.inl rfl) e⟩, st⟩
theorem HOk.lt (x : HOk P w H h) (e : H a = some o) : a < h.objs.size := (x a o e).lt
theorem HOk.fresh (x : HOk P w H h) (e : h.objs.size ≤ a) : H a = none := by
 cases q : H a with
 | none => rfl
 | some u => exact absurd (Nat.lt_of_lt_of_le (x.lt q) e) (Nat.lt_irrefl _)
theorem HOk.kept (x : HOk P w H h) (k : ∀ b u, h.get? b = some u → h'.get? b = some u) : HOk P w H h' := fun a o e =>
 (x a o e).stay (fun b u _ q => k b u q) (fun _ q => q) fun _ _ q => q
theorem HOk.laid (x : HOk P w H h) (k : ∀ b u, h.get? b = some u → h'.get? b = some u) (hp : h.objs.size ≤ a) (new : ObjOk P w (upd H a o) h' a o) : HOk P w (upd H a o) h' := fun b u e => by
 have hn := x.fresh hp
 by_cases hb : b = a
 ·subst hb; rw [zb2] at e; cases e; exact new
 ·rw [zb3 hb] at e
  exact (x b u e).stay (fun c v _ q => k c v q) (fun c q => by rw [zb3 (zc7 q hn)]; exact q) fun c xs q => by rw [zb3 (zc7 q hn)]; exact q
end
def Rd (H : Hp) (a : Addr) (u : HO) : Prop := H a = some u ∨ ∃ o, H a = some (.frz o u)
theorem Rd.of {H : Hp} {a : Addr} {u : HO} (h : H a = some u) : Rd H a u := .inl h
theorem Rd.ok {P : Program} {w : World} {H : Hp} {h : Heap} {a : Addr} {u : HO} (r : Rd H a u) (x : HOk P w H h) : ObjOk P w H h a u := by
 rcases r with r | ⟨o, r⟩
 ·exact x a u r
 ·obtain ⟨_, q⟩ := x a _ r
  exact q
def Mut : Option HO → Prop
 | some (.lst _) => True
 | some (.dK _) => True
 | some (.dT _) => True
 | some (.set _ _) => True
 | some (.ins _ _ _) => True
 | some (.ext _) => True
 | _ => False
section
variable {P : Program} {w : World} {H : Hp} {h h' : Heap} {x e : Addr} {o' : HO}
theorem HOk.write (ok : HOk P w H h) (mu : Mut (H x)) (he : e = x ∨ H e = some (.own x)) (k : ∀ b u, b ≠ e → h.get? b = some u → h'.get? b = some u) (heo : ∃ u, h'.get? e = some u)
  (new : ObjOk P w (upd H x o') h' x o') : HOk P w (upd H x o') h' := fun b u q => by
 have nown : ∀ c y, H c = some (.own y) → c ≠ x := fun c y r z => by subst z; rw [r] at mu; exact mu
 have ntup : ∀ c xs, H c = some (.tup xs) → c ≠ x := fun c xs r z => by subst z; rw [r] at mu; exact mu
 by_cases hb : b = x
 ·subst hb; rw [zb2] at q; cases q; exact new
 ·rw [zb3 hb] at q
  by_cases hbe : b = e
  ·have q' : H b = some (.own x) := by
    rcases he with z | z
    ·exact absurd (hbe.trans z) hb
    ·rw [hbe]; exact z
   rw [q] at q'; cases q'
   obtain ⟨v, hv⟩ := heo
   exact ⟨v, by rw [hbe]; exact hv⟩
  ·refine (ok b u q).stay (fun c v hc r => k c v ?_ r) (fun c r => by rw [zb3 (nown c b r)]; exact r) fun c xs r => by rw [zb3 (ntup c xs r)]; exact r
   rcases hc with rfl | hc
   ·exact hbe
   ·rintro rfl
    rcases he with z | z
    ·exact nown c b hc z
    ·rw [hc] at z; cases z; exact hb rfl
end
structure Un (fs ex : List Addr) (H H' : Hp) (h h' : Heap) : Prop where
 keep : ∀ b o, h.get? b = some o → H b = none → b ∉ fs → b ∉ ex → h'.get? b = some o
 slot : ∀ b o, h.get? b = some o → H b = none → b ∈ fs → b ∉ ex → ∃ sl, h'.get? b = some { o with slots := sl }
 free : ∀ b o, h.get? b = some o → H b = none → b ∉ ex → H' b = none
 there : ∀ b o, h.get? b = some o → b ∉ ex → ∃ o', h'.get? b = some o'
 tups : ∀ b xs, H b = some (.tup xs) → H' b = some (.tup xs)
 frzs : ∀ b o u, H b = some (.frz o u) → H' b = some (.frz o u)
 tbls : ∀ b ps, H b = some (.tbl ps) → ∃ more, H' b = some (.tbl (ps ++ more))
section
variable {fs fs' ex ex' : List Addr} {H H1 H2 : Hp} {h h1 h2 h' : Heap} {a x e : Addr} {o : HO}
theorem Un.any (u : Un fs ex H H1 h h1) {b : Addr} {ob : Obj} (q : h.get? b = some ob) (n : H b = none) (hx : b ∉ ex) : ∃ sl, h1.get? b = some { ob with slots := sl } := by
 by_cases hb : b ∈ fs
 ·exact u.slot b ob q n hb hx
 ·exact ⟨ob.slots, u.keep b ob q n hb hx⟩
theorem Un.trans (a : Un fs ex H H1 h h1) (b : Un fs ex H1 H2 h1 h2) : Un fs ex H H2 h h2 where
 keep := fun c ob q n hc hx => b.keep c ob (a.keep c ob q n hc hx) (a.free c ob q n hx) hc hx
 slot := fun c ob q n hc hx => by
  obtain ⟨sl, e1⟩ := a.slot c ob q n hc hx
  obtain ⟨sl', e2⟩ := b.slot c _ e1 (a.free c ob q n hx) hc hx
  exact ⟨sl', e2⟩
 free := fun c ob q n hx => by
  obtain ⟨o', e1⟩ := a.there c ob q hx
  exact b.free c o' e1 (a.free c ob q n hx) hx
 there := fun c ob q hx => by
  obtain ⟨o', e1⟩ := a.there c ob q hx
  exact b.there c o' e1 hx
 tups := fun c xs q => b.tups c xs (a.tups c xs q)
 frzs := fun c ob xs q => b.frzs c ob xs (a.frzs c ob xs q)
 tbls := fun c ps q => by
  obtain ⟨m1, e1⟩ := a.tbls c ps q
  obtain ⟨m2, e2⟩ := b.tbls c _ e1
  exact ⟨m1 ++ m2, by rw [e2, Array.append_assoc]⟩
theorem Un.kept (k : ∀ b u, h.get? b = some u → h'.get? b = some u) : Un fs ex H H h h' :=
 ⟨fun b ob q _ _ _ => k b ob q, fun b ob q _ _ _ => ⟨ob.slots, k b ob q⟩, fun _ _ _ n _ => n, fun b ob q _ => ⟨ob, k b ob q⟩, fun _ _ q => q, fun _ _ _ q => q, fun _ ps q => ⟨#[], by rw [q]; simp⟩⟩
theorem Un.refl : Un fs ex H H h h := Un.kept fun _ _ q => q
theorem Un.laid (k : ∀ b u, h.get? b = some u → h'.get? b = some u) (hp : h.objs.size ≤ a) (hn : H a = none) : Un fs ex H (upd H a o) h h' where
 keep := fun b u q _ _ _ => k b u q
 slot := fun b u q _ _ _ => ⟨u.slots, k b u q⟩
 free := fun b u q n _ => by rw [zb3 (Nat.ne_of_lt (Nat.lt_of_lt_of_le (Heap.lt_size q) hp))]; exact n
 there := fun b u q _ => ⟨u, k b u q⟩
 tups := fun b xs q => by rw [zb3 (zc7 q hn)]; exact q
 frzs := fun b u xs q => by rw [zb3 (zc7 q hn)]; exact q
 tbls := fun b ps q => ⟨#[], by rw [zb3 (zc7 q hn), q]; simp⟩
theorem Un.write (mu : Mut (H x)) (he : e = x ∨ H e = some (.own x)) (k : ∀ b u, b ≠ e → h.get? b = some u → h'.get? b = some u) (heo : ∃ u, h'.get? e = some u) : Un fs ex H (upd H x o) h h' := by
 have hx : ∀ b, H b = none → b ≠ x := fun b n z => by subst z; rw [n] at mu; exact mu
 have hb : ∀ b, H b = none → b ≠ e := fun b n z => by
  subst z
  rcases he with r | r
  ·exact hx b n r
  ·rw [n] at r; cases r
 have hm : ∀ b u, H b = some u → ¬ Mut (some u) → b ≠ x := fun b u q nm z => by subst z; rw [q] at mu; exact nm mu
 refine ⟨fun b u q n _ _ => k b u (hb b n) q, fun b u q n _ _ => ⟨u.slots, k b u (hb b n) q⟩, fun b u q n _ => by rw [zb3 (hx b n)]; exact n, fun b u q _ => ?_,
  fun b xs q => by rw [zb3 (hm b _ q fun z => z)]; exact q, fun b u xs q => by rw [zb3 (hm b _ q fun z => z)]; exact q, fun b ps q => ⟨#[], by rw [zb3 (hm b _ q fun z => z), q]; simp⟩⟩
 by_cases hbe : b = e
 ·subst hbe; exact heo
 ·exact ⟨u, k b u hbe q⟩
theorem Un.mono (u : Un fs ex H H1 h h1) (hs : ∀ b ∈ fs, b ∈ fs') (hx : ∀ b ∈ ex, b ∈ ex') : Un fs' ex' H H1 h h1 :=
 ⟨fun b ob q n hb he => u.keep b ob q n (fun z => hb (hs b z)) fun z => he (hx b z), fun _ _ q n _ he => u.any q n fun z => he (hx _ z), fun b ob q n he => u.free b ob q n fun z => he (hx b z), fun b ob q he => u.there b ob q fun z => he (hx b z), u.tups, u.frzs, u.tbls⟩
end
def trk (h : Heap) (H : Hp) : List Addr := (List.range h.objs.size).filter fun a => (H a).isSome
def hidT (h : Heap) (H : Hp) : Heap := PySem.W.hideAll h (trk h H)
theorem zU9 (h : Heap) (H : Hp) : (hidT h H).objs.size = h.objs.size := PySem.W.hideAll_size _ _
theorem yc7 {h : Heap} {H : Hp} {b : Addr} {o : Obj} (e : h.get? b = some o) (n : H b = none) : (hidT h H).get? b = some o :=
 PySem.W.hideAll_get _ e fun hm => by
  have q : (H b).isSome = true := (List.mem_filter.mp hm).2
  rw [n] at q; simp at q
theorem yk3 {h : Heap} {H : Hp} {b : Addr} {o : Obj} (e : (hidT h H).get? b = some o) : h.get? b = some o ∧ H b = none := by
 have e' : h.get? b = some o := PySem.W.of_hideAll (trk h H) e
 refine ⟨e', ?_⟩
 cases q : H b with
 | none => rfl
 | some x =>
  have hm : b ∈ trk h H := List.mem_filter.mpr ⟨List.mem_range.mpr (Heap.lt_size e'), by simp [q]⟩
  have z : (hidT h H).get? b = none := PySem.W.hideAll_none (trk h H) hm
  rw [z] at e; cases e
def allNews (g h : Heap) (L : Addr) : List (Addr × Obj) := (List.range h.objs.size).filterMap fun a => if a = L ∨ (g.get? a).isSome = true then none else (h.get? a).map fun o => (a, o)
def rest (g h : Heap) (L d : Addr) : List (Addr × Obj) := (allNews g h L).filter fun p => decide (p.1 ≠ d)
structure Mod (K : PySem.W.Frag) (mg : Str → Option Value) (base : Heap) : Prop where
 kin : K.In base
 glob : base.Ns mainGlobals mg
 blt : ∃ mb, base.Ns builtinsNs mb ∧ ∀ x : Str, x ≠ "__name__" → mb x = bootBuiltins x
 nolimit : base.NoLimit
structure Cx where
 prog : Program
 w : World
 K : PySem.W.Frag
 mg : Str → Option Value
 base : Heap
 A : Around
 N : List Str
 s₀ : Shared
 H₀ : Hp
 env : Env
 outer : List Env
 stack : List Env
 ex : List Addr
 fn : Str → Bool
 calm : Bool
 pn : List (Addr × Obj)
 xe : Value → Shared → Prop
def frs (l : List Env) : List Addr := l.filterMap (·.frame)
abbrev Cx.fs (X : Cx) : List Addr := frs X.outer
def Vis (sc : Scope) (x : Str) : Prop := sc.names.lookup x = some .local ∨ sc.names.lookup x = some .cell ∨ sc.names.lookup x = some .free
def Loc (sc : Scope) (x : Str) : Prop := sc.names.lookup x = some .local ∨ sc.names.lookup x = some .cell
def Look (env : Env) (h : Heap) (m : Str → Option Value) (x : Str) (u : Value) : Prop :=
 (env.kindOf x = some .local ∧ m x = some u) ∨ ((env.kindOf x = some .cell ∨ env.kindOf x = some .free) ∧ ∃ c, env.cells.lookup x = some c ∧ h.IsCell c (some u))
structure Cx.Ok (X : Cx) : Prop where
 mod : Mod X.K X.mg X.base
 kind : X.env.scope.kind = .function
 glob : X.env.globals = mainGlobals
 blt : X.env.builtins = builtinsNs
 above : X.s₀.heap.objs.size ≤ X.env.locals
 inj : ∀ x y c, X.env.cells.lookup x = some c → X.env.cells.lookup y = some c → x = y
 has : ∀ x, (X.env.kindOf x = some .cell ∨ X.env.kindOf x = some .free) → ∃ c, X.env.cells.lookup x = some c
 cab : ∀ x c, X.fn x = true → X.env.cells.lookup x = some c → X.s₀.heap.objs.size ≤ c
 hd : X.calm = true → X.A.handled = none
 frames : X.A.frames = some X.stack
 stk : X.stack = X.outer ∨ (X.stack = X.env :: X.outer ∧ X.env.frame = some X.env.locals)
 exf : ∀ b ∈ X.ex, b ≠ X.env.locals ∧ ∀ x c, X.env.cells.lookup x = some c → c ≠ b
 bs : ∀ b o, X.base.get? b = some o → X.s₀.heap.get? b = some o ∧ X.H₀ b = none
 bsz : X.base.objs.size ≤ X.s₀.heap.objs.size
 noex : ∀ b o, X.base.get? b = some o → b ∉ X.ex
 exfs : ∀ b ∈ X.ex, b ∉ X.fs
 funs : X.s₀.heap.FunFrames X.base X.outer
 frf : ∀ b ∈ X.fs, X.H₀ b = none
structure Inv (X : Cx) (pins : List (Addr × Obj)) (σ : List (Option V)) (H : Hp) (s : Shared) : Prop where
 ok : X.Ok
 os : s.os = X.s₀.os
 bare : AllBare s.gens
 base : Un X.fs X.ex X.H₀ H X.s₀.heap s.heap
 loc : ∃ m, s.heap.Ns X.env.locals m ∧ ∀ (i : Nat) (x : Str) (v : V), X.N[i]? = some x → σ[i]? = some (some v) → Vis X.env.scope x → ∃ u, RelV v u ∧ Look X.env s.heap m x u
 cell : ∀ x c, X.env.cells.lookup x = some c → ∃ v, s.heap.IsCell c v
 free : H X.env.locals = none
 freeC : ∀ x c, X.env.cells.lookup x = some c → H c = none
 pin : ∀ p ∈ X.pn ++ pins, s.heap.get? p.1 = some p.2 ∧ H p.1 = none ∧ p.1 ≠ X.env.locals ∧ p.1 ∉ X.fs ∧ ∀ v, p.2.data ≠ .cell v
 hok : HOk X.prog X.w H s.heap
 len : σ.length = X.N.length
section
variable {X : Cx} {pins : List (Addr × Obj)} {σ : List (Option V)} {H H' : Hp} {s : Shared} {h' : Heap}
theorem Cx.Ok.nofr (ok : X.Ok) {b : Addr} {o : Obj} (e : X.base.get? b = some o) : b ∉ X.fs := fun hb => by
 have := (ok.funs.mem hb).1
 rw [e] at this; cases this
theorem Inv.bs (I : Inv X pins σ H s) : ∀ b o, X.base.get? b = some o → s.heap.get? b = some o ∧ H b = none := fun b o e =>
 ⟨I.base.keep b o (I.ok.bs b o e).1 (I.ok.bs b o e).2 (I.ok.nofr e) (I.ok.noex b o e), I.base.free b o (I.ok.bs b o e).1 (I.ok.bs b o e).2 (I.ok.noex b o e)⟩
theorem Inv.bk (I : Inv X pins σ H s) : ∀ b o, X.base.get? b = some o → s.heap.get? b = some o := fun b o e => (I.bs b o e).1
theorem Inv.mod (I : Inv X pins σ H s) : Mod X.K X.mg X.base := I.ok.mod
theorem Inv.kIn (I : Inv X pins σ H s) : X.K.In s.heap := I.ok.mod.kin.keeps I.bk
theorem Inv.nolimit (I : Inv X pins σ H s) : s.heap.NoLimit := I.ok.mod.nolimit.keeps I.bk
theorem Inv.fr (I : Inv X pins σ H s) : ∃ m, Fr X.base X.env.locals s.heap m :=
 let ⟨m, hn, _⟩ := I.loc
 ⟨m, hn, I.bk, Nat.le_trans I.ok.bsz I.ok.above⟩
theorem Inv.lt (I : Inv X pins σ H s) : X.env.locals < s.heap.objs.size := let ⟨_, hn, _⟩ := I.loc; hn.lt
theorem Inv.sz (I : Inv X pins σ H s) : X.s₀.heap.objs.size ≤ s.heap.objs.size := Nat.le_trans I.ok.above (Nat.le_of_lt I.lt)
theorem Inv.nofs (I : Inv X pins σ H s) {a : Addr} (h : s.heap.objs.size ≤ a) : a ∉ X.fs := fun hb => by
 obtain ⟨_, o, ho, _⟩ := I.ok.funs.mem hb
 exact absurd (Nat.lt_of_lt_of_le (Heap.lt_size ho) (Nat.le_trans I.sz h)) (Nat.lt_irrefl _)
theorem Inv.cne (I : Inv X pins σ H s) : ∀ x c, X.env.cells.lookup x = some c → c ≠ X.env.locals := fun x c e z => by
 obtain ⟨v, o, ho, hd⟩ := I.cell x c e
 obtain ⟨m, ⟨o', es, ep, ho', hd', _⟩, _⟩ := I.loc
 rw [z, ho'] at ho; cases ho; rw [hd'] at hd; cases hd
theorem Inv.funs (I : Inv X pins σ H s) : s.heap.FunFrames X.base X.outer := by
 have all : ∀ (l : List Env), (∀ b ∈ frs l, b ∈ X.fs) → X.s₀.heap.FunFrames X.base l → s.heap.FunFrames X.base l := by
  intro l
  induction l with
  | nil => intro _ _; trivial
  | cons env r ih =>
   intro hs hl
   obtain ⟨hk, ⟨L, o, hf, hn, ho, hd⟩, hr⟩ := hl
   have hL : L ∈ X.fs := hs L (by unfold frs; rw [List.filterMap_cons, hf]; exact List.mem_cons_self)
   obtain ⟨sl, e⟩ := I.base.slot L o ho (I.ok.frf L hL) hL fun z => I.ok.exfs L z hL
   exact ⟨hk, ⟨L, _, hf, hn, e, hd⟩, ih (fun b hb => hs b (by unfold frs; rw [List.filterMap_cons, hf]; exact List.mem_cons_of_mem _ hb)) hr⟩
 exact all X.outer (fun _ hb => hb) I.ok.funs
theorem Inv.stack (I : Inv X pins σ H s) : s.heap.FunFrames X.base X.stack := by
 rcases I.ok.stk with e | ⟨e, hf⟩
 ·rw [e]; exact I.funs
 ·rw [e]
  obtain ⟨m, hn, _⟩ := I.loc
  refine .cons (by rw [I.ok.kind]; decide) hf hn ?_ I.funs
  exact Heap.get?_none_of_le (Nat.le_trans I.ok.bsz I.ok.above)
theorem Inv.stkSub (I : Inv X pins σ H s) : ∀ b ∈ frs X.stack, b ∈ X.env.locals :: X.fs := fun b hb => by
 rcases I.ok.stk with e | ⟨e, hf⟩
 ·rw [e] at hb; exact List.mem_cons_of_mem _ hb
 ·rw [e] at hb
  unfold frs at hb
  rw [List.filterMap_cons, hf] at hb
  exact hb
theorem Inv.stkFree (I : Inv X pins σ H s) : ∀ b ∈ frs X.stack, H b = none := fun b hb => by
 rcases List.mem_cons.mp (I.stkSub b hb) with e | hb
 ·rw [e]; exact I.free
 ·obtain ⟨_, o, ho, _⟩ := I.ok.funs.mem hb
  exact I.base.free b o ho (I.ok.frf b hb) fun z => I.ok.exfs b z hb
theorem Inv.step {g' : Array GenState} {t' : Nat} {d' : Drawn} {ch : List Addr} (I : Inv X pins σ H s)
  (hch : ∀ b ∈ ch, (b ∈ X.ex ∨ X.s₀.heap.objs.size ≤ b) ∧ b ≠ X.env.locals ∧ (∀ x c, X.env.cells.lookup x = some c → c ≠ b) ∧ ∀ p ∈ X.pn ++ pins, p.1 ≠ b)
  (keep : ∀ b o, b ≠ X.env.locals → b ∉ X.fs → b ∉ ch → s.heap.get? b = some o → H b = none → h'.get? b = some o)
  (slot : ∀ b o, b ≠ X.env.locals → b ∈ X.fs → b ∉ ch → s.heap.get? b = some o → H b = none → ∃ sl, h'.get? b = some { o with slots := sl }) (free : ∀ b o, b ∉ ch → s.heap.get? b = some o → H b = none → H' b = none)
  (there : ∀ b o, b ∉ ch → s.heap.get? b = some o → ∃ o', h'.get? b = some o')
  (tups : ∀ b xs, H b = some (.tup xs) → H' b = some (.tup xs)) (frzs : ∀ b o u, H b = some (.frz o u) → H' b = some (.frz o u)) (tbls : ∀ b ps, H b = some (.tbl ps) → ∃ more, H' b = some (.tbl (ps ++ more)))
  (ns : ∀ m, s.heap.Ns X.env.locals m → h'.Ns X.env.locals m) (hok : HOk X.prog X.w H' h') (hg : AllBare g') :
  Inv X pins σ H' { s with heap := h', gens := g', drawn := d', toks := t' } := by
 have neL : ∀ b o, X.s₀.heap.get? b = some o → b ≠ X.env.locals := fun b o e => Nat.ne_of_lt (Nat.lt_of_lt_of_le (Heap.lt_size e) I.ok.above)
 have neC : ∀ b o, X.s₀.heap.get? b = some o → b ∉ X.ex → b ∉ ch := fun b o e hx hb => by
  rcases (hch b hb).1 with z | z
  ·exact hx z
  ·exact absurd (Nat.lt_of_lt_of_le (Heap.lt_size e) z) (Nat.lt_irrefl _)
 have cellK : ∀ x c, X.env.cells.lookup x = some c → ∀ v, s.heap.IsCell c v → h'.IsCell c v := fun x c e v ⟨o, ho, hd⟩ => by
  have nch : c ∉ ch := fun z => (hch c z).2.2.1 x c e rfl
  by_cases hc : c ∈ X.fs
  ·obtain ⟨sl, q⟩ := slot c o (I.cne x c e) hc nch ho (I.freeC x c e)
   exact ⟨_, q, hd⟩
  ·exact ⟨o, keep c o (I.cne x c e) hc nch ho (I.freeC x c e), hd⟩
 refine ⟨I.ok, I.os, hg, ⟨fun b o e n hb hx => ?_, fun b o e n hb hx => ?_, fun b o e n hx => ?_, fun b o e hx => ?_, fun b xs e => tups b xs (I.base.tups b xs e), fun b o xs e => frzs b o xs (I.base.frzs b o xs e), fun b ps e => ?_⟩, ?_, fun x c e => ?_, ?_, fun x c e => ?_, fun p hp => ?_, hok, I.len⟩
 ·exact keep b o (neL b o e) hb (neC b o e hx) (I.base.keep b o e n hb hx) (I.base.free b o e n hx)
 ·obtain ⟨sl, e1⟩ := I.base.slot b o e n hb hx
  obtain ⟨sl', e2⟩ := slot b _ (neL b o e) hb (neC b o e hx) e1 (I.base.free b o e n hx)
  exact ⟨sl', e2⟩
 ·obtain ⟨o', e1⟩ := I.base.there b o e hx
  exact free b o' (neC b o e hx) e1 (I.base.free b o e n hx)
 ·obtain ⟨o', e1⟩ := I.base.there b o e hx
  exact there b o' (neC b o e hx) e1
 ·obtain ⟨m1, e1⟩ := I.base.tbls b ps e
  obtain ⟨m2, e2⟩ := tbls b _ e1
  exact ⟨m1 ++ m2, by rw [e2, Array.append_assoc]⟩
 ·obtain ⟨m, hn, hl⟩ := I.loc
  refine ⟨m, ns m hn, fun i x v e1 e2 e3 => ?_⟩
  obtain ⟨u, r, l⟩ := hl i x v e1 e2 e3
  refine ⟨u, r, ?_⟩
  rcases l with l | ⟨k, c, e, z⟩
  ·exact .inl l
  ·exact .inr ⟨k, c, e, cellK x c e _ z⟩
 ·obtain ⟨v, z⟩ := I.cell x c e
  exact ⟨v, cellK x c e v z⟩
 ·obtain ⟨m, ⟨o, _, _, ho, _⟩, _⟩ := I.loc
  exact free _ o (fun z => (hch _ z).2.1 rfl) ho I.free
 ·obtain ⟨v, o, ho, hd⟩ := I.cell x c e
  exact free c o (fun z => (hch c z).2.2.1 x c e rfl) ho (I.freeC x c e)
 ·obtain ⟨e, n, ne, nf, d⟩ := I.pin p hp
  have nch : p.1 ∉ ch := fun z => (hch p.1 z).2.2.2 p hp rfl
  exact ⟨keep p.1 p.2 ne nf nch e n, free p.1 p.2 nch e n, ne, nf, d⟩
theorem Inv.un {t' : Nat} (I : Inv X pins σ H s) (u : Un X.fs [] H H' s.heap h') (hok : HOk X.prog X.w H' h') : Inv X pins σ H' { s with heap := h', toks := t' } := by
 obtain ⟨m, ⟨o, es, ep, ho, r⟩, _⟩ := id I.loc
 obtain ⟨sl, hL⟩ := u.any ho I.free (by simp)
 exact I.step (g' := s.gens) (d' := s.drawn) (ch := []) (fun _ z => nomatch z) (fun b o _ hb _ e n => u.keep b o e n hb (by simp)) (fun b o _ hb _ e n => u.slot b o e n hb (by simp)) (fun b o _ e n => u.free b o e n (by simp)) (fun b o _ e => u.there b o e (by simp)) u.tups u.frzs u.tbls (fun m' hm => by
  obtain ⟨o', es', ep', ho', r'⟩ := hm
  rw [ho] at ho'; cases ho'
  exact ⟨_, es', ep', hL, r'⟩) hok I.bare
theorem Inv.call {g' : Array GenState} {t' : Nat} {d' : Drawn} {ch : List Addr} (I : Inv X pins σ H s) (u : Un (frs X.stack) ch H H' s.heap h') (hok : HOk X.prog X.w H' h') (hg : AllBare g')
  (hch : ∀ b ∈ ch, (b ∈ X.ex ∨ X.s₀.heap.objs.size ≤ b) ∧ b ≠ X.env.locals ∧ (∀ x c, X.env.cells.lookup x = some c → c ≠ b) ∧ ∀ p ∈ X.pn ++ pins, p.1 ≠ b) :
  Inv X pins σ H' { s with heap := h', gens := g', drawn := d', toks := t' } := by
 obtain ⟨m, ⟨o, es, ep, ho, r⟩, _⟩ := id I.loc
 obtain ⟨sl, hL⟩ := u.any ho I.free fun z => (hch _ z).2.1 rfl
 exact I.step (ch := ch) hch (fun b o hL hb hc e n => u.keep b o e n (fun z => (List.mem_cons.mp (I.stkSub b z)).elim hL hb) hc) (fun b o _ _ hc e n => u.any e n hc) (fun b o hc e n => u.free b o e n hc) (fun b o hc e => u.there b o e hc) u.tups u.frzs u.tbls (fun m' hm => by
  obtain ⟨o', es', ep', ho', r'⟩ := hm
  rw [ho] at ho'; cases ho'
  exact ⟨_, es', ep', hL, r'⟩) hok hg
theorem Inv.turned {t' : Nat} {it : Addr} (I : Inv X pins σ H s) (k : ∀ b o, b ≠ it → s.heap.get? b = some o → h'.get? b = some o) (hn : H it = none) (hL : it ≠ X.env.locals)
  (h1 : it ∈ X.ex ∨ X.s₀.heap.objs.size ≤ it) (h2 : ∀ x c, X.env.cells.lookup x = some c → c ≠ it) (h3 : ∀ p ∈ X.pn ++ pins, p.1 ≠ it) : Inv X pins σ H { s with heap := h', toks := t' } := by
 have nit : ∀ b u, H b = some u → b ≠ it := fun b u e z => by rw [z, hn] at e; cases e
 refine I.step (g' := s.gens) (d' := s.drawn) (ch := [it]) (fun b hb => ?_) (fun b o _ _ hc e _ => k b o (fun z => hc (by simp [z])) e) (fun b o _ _ hc e _ => ⟨o.slots, k b o (fun z => hc (by simp [z])) e⟩) (fun _ _ _ _ n => n)
  (fun b o hc e => ⟨o, k b o (fun z => hc (by simp [z])) e⟩) (fun _ _ e => e) (fun _ _ _ e => e) (fun b ps e => ⟨#[], by rw [e]; simp⟩) (fun m hm => ?_) (fun b u e => ?_) I.bare
 ·have e : b = it := by simpa using hb
  subst e
  exact ⟨h1, hL, h2, h3⟩
 ·obtain ⟨o, es, ep, ho, r⟩ := hm
  exact ⟨o, es, ep, k _ o (Ne.symm hL) ho, r⟩
 ·refine (I.hok b u e).stay (fun c v hc q => k c v ?_ q) (fun _ q => q) fun _ _ q => q
  rcases hc with z | z
  ·rw [z]; exact nit b u e
  ·exact nit c _ z
theorem Inv.tok (I : Inv X pins σ H s) (t : Nat) : Inv X pins σ H { s with toks := t } := I.un (h' := s.heap) (t' := t) Un.refl I.hok
theorem Inv.kept {t' : Nat} (I : Inv X pins σ H s) (k : ∀ b u, s.heap.get? b = some u → h'.get? b = some u) : Inv X pins σ H { s with heap := h', toks := t' } := I.un (Un.kept k) (I.hok.kept k)
theorem Inv.laid {a : Addr} {o : HO} {t' : Nat} (I : Inv X pins σ H s) (k : ∀ b u, s.heap.get? b = some u → h'.get? b = some u) (hp : s.heap.objs.size ≤ a) (new : ObjOk X.prog X.w (upd H a o) h' a o) :
  Inv X pins σ (upd H a o) { s with heap := h', toks := t' } := I.un (Un.laid k hp (I.hok.fresh hp)) (I.hok.laid k hp new)
theorem Inv.write {x e : Addr} {o : HO} {t' : Nat} (I : Inv X pins σ H s) (mu : Mut (H x)) (he : e = x ∨ H e = some (.own x)) (k : ∀ b u, b ≠ e → s.heap.get? b = some u → h'.get? b = some u) (heo : ∃ u, h'.get? e = some u)
  (new : ObjOk X.prog X.w (upd H x o) h' x o) : Inv X pins σ (upd H x o) { s with heap := h', toks := t' } := I.un (Un.write mu he k heo) (I.hok.write mu he k heo new)
theorem Inv.pins_of {pins' : List (Addr × Obj)} (I : Inv X pins σ H s) (h : ∀ p ∈ pins', s.heap.get? p.1 = some p.2 ∧ H p.1 = none ∧ p.1 ≠ X.env.locals ∧ p.1 ∉ X.fs ∧ ∀ v, p.2.data ≠ .cell v) : Inv X pins' σ H s :=
 ⟨I.ok, I.os, I.bare, I.base, I.loc, I.cell, I.free, I.freeC, fun p hp => (List.mem_append.mp hp).elim (fun z => I.pin p (List.mem_append_left _ z)) (h p), I.hok, I.len⟩
theorem yb5 {N : List Str} (hN : N.Nodup) {i j : Nat} {x : Str} (a : N[i]? = some x) (b : N[j]? = some x) : i = j := by
 obtain ⟨h1, e1⟩ := List.getElem?_eq_some_iff.mp a
 obtain ⟨h2, e2⟩ := List.getElem?_eq_some_iff.mp b
 exact (List.getElem_inj hN).mp (e1.trans e2.symm)
theorem zS2 {M : Model} {A : Around} {E : Value → Shared → Prop} {i : Nat} {x : Str} {v : V} {u : Value} {Q : Unit → Shared → Prop} (I : Inv X pins σ H s) (hN : X.N.Nodup) (hi : X.N[i]? = some x) (hx : Loc X.env.scope x) (r : RelV v u)
  (h : ∀ s', Inv X pins (σ.set i (some v)) H s' → (∃ a, Heap.SameBut a s.heap s'.heap ∧ (a = X.env.locals ∨ X.env.cells.lookup x = some a)) → Q () s') (hf : X.fn x = true ∨ X.env.scope.names.lookup x = some .local := by first | exact .inl rfl | exact .inr rfl | assumption) : wpAny M A (storeName X.env x u) Q E s := by
 obtain ⟨m, hn, hl⟩ := id I.loc
 have hcls : (X.env.scope.kind == .class || (X.env.scope.kind == .module && X.env.locals != X.env.globals)) = false := by rw [I.ok.kind]; rfl
 have hiσ : i < σ.length := by rw [I.len]; exact (List.getElem?_eq_some_iff.mp hi).1
 have cne := I.cne
 have tracked : ∀ {a : Addr} {h' : Heap}, (∃ o, s.heap.get? a = some o ∧ H a = none) → Heap.SameBut a s.heap h' → HOk X.prog X.w H h' := fun {a h'} ha hs b ob e => by
  obtain ⟨_, _, hfree⟩ := ha
  refine (I.hok b ob e).stay (fun c w' hc q => (hs.2 c ?_).trans q) (fun _ q => q) fun _ _ q => q
  rintro rfl
  rcases hc with rfl | hc
  ·rw [hfree] at e; cases e
  ·rw [hfree] at hc; cases hc
 rcases hx with hk | hk
 ·refine wpAny_storeName_local hk hn (fun h' hn' hs => ?_) hcls
  obtain ⟨oL, _, _, hoL, _⟩ := id hn
  refine h _ ⟨I.ok, I.os, I.bare, ⟨fun b o e n hb hx => ?_, fun b o e n hb hx => ?_, I.base.free, fun b o e hx => ?_, I.base.tups, I.base.frzs, I.base.tbls⟩, ⟨_, hn', fun j y v' e1 e2 e3 => ?_⟩, fun y c e => ?_, I.free, I.freeC, fun p hp => ?_, tracked ⟨oL, hoL, I.free⟩ hs, by simpa using I.len⟩ ⟨_, hs, .inl rfl⟩
  ·exact (hs.2 b (Nat.ne_of_lt (Nat.lt_of_lt_of_le (Heap.lt_size e) I.ok.above))).trans (I.base.keep b o e n hb hx)
  ·obtain ⟨sl, e1⟩ := I.base.slot b o e n hb hx
   exact ⟨sl, (hs.2 b (Nat.ne_of_lt (Nat.lt_of_lt_of_le (Heap.lt_size e) I.ok.above))).trans e1⟩
  ·obtain ⟨o', e1⟩ := I.base.there b o e hx
   exact ⟨o', (hs.2 b (Nat.ne_of_lt (Nat.lt_of_lt_of_le (Heap.lt_size e) I.ok.above))).trans e1⟩
  ·by_cases hj : j = i
   ·subst hj
    rw [hi] at e1; cases e1
    rw [List.getElem?_set_self hiσ] at e2
    cases e2
    exact ⟨u, r, .inl ⟨hk, by simp⟩⟩
   ·rw [List.getElem?_set_ne (Ne.symm hj)] at e2
    obtain ⟨u', r', q⟩ := hl j y v' e1 e2 e3
    refine ⟨u', r', ?_⟩
    rcases q with ⟨k, e⟩ | ⟨k, c, e, z⟩
    ·refine .inl ⟨k, ?_⟩
     have : y ≠ x := fun e => hj (yb5 hN e1 (e ▸ hi))
     simp [this, e]
    ·exact .inr ⟨k, c, e, z.sameBut hs (cne y c e)⟩
  ·obtain ⟨w', z⟩ := I.cell y c e
   exact ⟨w', z.sameBut hs (cne y c e)⟩
  ·obtain ⟨e, n, ne, nf, d⟩ := I.pin p hp
   exact ⟨(hs.2 p.1 ne).trans e, n, ne, nf, d⟩
 ·have hfn : X.fn x = true := by
   rcases hf with z | z
   ·exact z
   ·rw [z] at hk; cases hk
  obtain ⟨c, hc⟩ := I.ok.has x (.inl hk)
  obtain ⟨w', z⟩ := I.cell x c hc
  refine wpAny_storeName_cell I.ok.kind hk hc z (fun h' hc' hs => ?_)
  obtain ⟨oc, hoc, hocd⟩ := id z
  refine h { s with heap := h' } ⟨I.ok, I.os, I.bare, ⟨fun b o e n hb hx => ?_, fun b o e n hb hx => ?_, I.base.free, fun b o e hx => ?_, I.base.tups, I.base.frzs, I.base.tbls⟩, ⟨m, hn.sameBut hs (Ne.symm (cne x c hc)), fun j y v' e1 e2 e3 => ?_⟩, fun y c' e => ?_, I.free, I.freeC, fun p hp => ?_, tracked ⟨oc, hoc, I.freeC x c hc⟩ hs, by simpa using I.len⟩ ⟨c, hs, .inr hc⟩
  ·exact (hs.2 b (Nat.ne_of_lt (Nat.lt_of_lt_of_le (Heap.lt_size e) (I.ok.cab x c hfn hc)))).trans (I.base.keep b o e n hb hx)
  ·obtain ⟨sl, e1⟩ := I.base.slot b o e n hb hx
   exact ⟨sl, (hs.2 b (Nat.ne_of_lt (Nat.lt_of_lt_of_le (Heap.lt_size e) (I.ok.cab x c hfn hc)))).trans e1⟩
  ·obtain ⟨o', e1⟩ := I.base.there b o e hx
   exact ⟨o', (hs.2 b (Nat.ne_of_lt (Nat.lt_of_lt_of_le (Heap.lt_size e) (I.ok.cab x c hfn hc)))).trans e1⟩
  ·by_cases hj : j = i
   ·subst hj
    rw [hi] at e1; cases e1
    rw [List.getElem?_set_self hiσ] at e2
    cases e2
    exact ⟨u, r, .inr ⟨.inl hk, c, hc, hc'⟩⟩
   ·rw [List.getElem?_set_ne (Ne.symm hj)] at e2
    obtain ⟨u', r', q⟩ := hl j y v' e1 e2 e3
    refine ⟨u', r', ?_⟩
    rcases q with q | ⟨k, c', e, z'⟩
    ·exact .inl q
    ·refine .inr ⟨k, c', e, z'.sameBut hs ?_⟩
     rintro rfl
     exact hj (yb5 hN e1 (I.ok.inj _ _ _ e hc ▸ hi))
  ·by_cases hcc : c' = c
   ·subst hcc; exact ⟨_, hc'⟩
   ·obtain ⟨w2, z2⟩ := I.cell y c' e
    exact ⟨w2, z2.sameBut hs hcc⟩
  ·obtain ⟨e, n, ne, nf, d⟩ := I.pin p hp
   refine ⟨(hs.2 p.1 ?_).trans e, n, ne, nf, d⟩
   intro q
   rw [q, hoc] at e
   have q' : oc = p.2 := Option.some.inj e
   exact d w' (by rw [← q']; exact hocd)
theorem ya0 {M : Model} {A : Around} {E : Value → Shared → Prop} {i : Nat} {x : Str} {v : V} {u : Value} {Q : Unit → Shared → Prop} (I : Inv X pins σ H s) (hN : X.N.Nodup) (hi : X.N[i]? = some x) (hx : Loc X.env.scope x) (r : RelV v u)
  (h : ∀ s', Inv X pins (σ.set i (some v)) H s' → Q () s') (hf : X.fn x = true ∨ X.env.scope.names.lookup x = some .local := by first | exact .inl rfl | exact .inr rfl | assumption) : wpAny M A (storeName X.env x u) Q E s :=
 zS2 I hN hi hx r (fun s' I' _ => h s' I') hf
theorem Inv.call' {s' : Shared} {ch : List Addr} (I : Inv X pins σ H s) (ho : s'.os = s.os) (u : Un (frs X.stack) ch H H' s.heap s'.heap) (hok : HOk X.prog X.w H' s'.heap) (hg : AllBare s'.gens)
  (hch : ∀ b ∈ ch, (b ∈ X.ex ∨ X.s₀.heap.objs.size ≤ b) ∧ b ≠ X.env.locals ∧ (∀ x c, X.env.cells.lookup x = some c → c ≠ b) ∧ ∀ p ∈ X.pn ++ pins, p.1 ≠ b) : Inv X pins σ H' s' := by
 obtain ⟨h', g', d', t', o'⟩ := s'
 have e : o' = s.os := ho
 subst e
 exact I.call (g' := g') (t' := t') (d' := d') u hok hg hch
end
abbrev XK := Value → Option Addr → Hp → Prop
abbrev St := List (Option V)
abbrev VK := V → Hp → Prop
abbrev TE := St → Hp → VK → Prop
abbrev TT := St → Hp → (Bool → Hp → Prop) → Prop
abbrev TA := St → Hp → (List V → Hp → Prop) → Prop
structure Ends where
 nx : St → Hp → Prop
 rt : VK
 bk : St → Hp → Prop := fun _ _ => False
 ct : St → Hp → Prop := fun _ _ => False
abbrev TS := Ends → St → Hp → Prop
def EP (X : Cx) (pins : List (Addr × Obj)) (σ : St) (Q : VK) (u : Value) (s' : Shared) : Prop := ∃ v H', Inv X pins σ H' s' ∧ RelV v u ∧ Q v H'
def TP (X : Cx) (pins : List (Addr × Obj)) (σ : St) (Q : Bool → Hp → Prop) (b : Bool) (s' : Shared) : Prop := ∃ H', Inv X pins σ H' s' ∧ Q b H'
def AP (X : Cx) (pins : List (Addr × Obj)) (σ : St) (Q : List V → Hp → Prop) (us : List Value) (s' : Shared) : Prop := ∃ vs H', Inv X pins σ H' s' ∧ Vals vs us ∧ Q vs H'
def SP (X : Cx) (pins : List (Addr × Obj)) (D : Ends) (f : Flow) (s' : Shared) : Prop :=
 match f with
 | .next => ∃ σ' H', Inv X pins σ' H' s' ∧ D.nx σ' H'
 | .brk => ∃ σ' H', Inv X pins σ' H' s' ∧ D.bk σ' H'
 | .cont => ∃ σ' H', Inv X pins σ' H' s' ∧ D.ct σ' H'
 | .ret u => ∃ v σ' H', Inv X pins σ' H' s' ∧ RelV v u ∧ D.rt v H'
def PE (X : Cx) (e : Expr) (t : TE) : Prop :=
 ∀ (pins : List (Addr × Obj)) (s : Shared) (σ : St) (H : Hp) (Q : VK), Inv X pins σ H s → t σ H Q → wpAny (model X.prog X.w) X.A (eval e X.env) (EP X pins σ Q) X.xe s
def PT (X : Cx) (e : Expr) (t : TT) : Prop :=
 ∀ (pins : List (Addr × Obj)) (s : Shared) (σ : St) (H : Hp) (Q : Bool → Hp → Prop), Inv X pins σ H s → t σ H Q → wpAny (model X.prog X.w) X.A (isTrue e X.env (eval e X.env)) (TP X pins σ Q) X.xe s
def PW (X : Cx) (e : Expr) (t : TT) : Prop :=
 ∀ (whole : Sem Value) (pins : List (Addr × Obj)) (s : Shared) (σ : St) (H : Hp) (Q : Bool → Hp → Prop), Inv X pins σ H s → t σ H Q → wpAny (model X.prog X.w) X.A (isTrue e X.env whole) (TP X pins σ Q) X.xe s
theorem PW.pt {X : Cx} {e : Expr} {t : TT} (h : PW X e t) : PT X e t := h _
def PA (X : Cx) (es : List Expr) (t : TA) : Prop :=
 ∀ (pos : Pos) (pins : List (Addr × Obj)) (s : Shared) (σ : St) (H : Hp) (Q : List V → Hp → Prop), Inv X pins σ H s → t σ H Q → wpAny (model X.prog X.w) X.A (spliced (backTo pos (starEach es X.env))) (AP X pins σ Q) X.xe s
def PS (X : Cx) (st : Stmt) (t : TS) : Prop :=
 ∀ (pins : List (Addr × Obj)) (s : Shared) (σ : St) (H : Hp) (D : Ends), Inv X pins σ H s → t D σ H → wpAny (model X.prog X.w) X.A (exec st X.env) (SP X pins D) X.xe s
def PSs (X : Cx) (st : List Stmt) (t : TS) : Prop :=
 ∀ (pins : List (Addr × Obj)) (s : Shared) (σ : St) (H : Hp) (D : Ends), Inv X pins σ H s → t D σ H → wpAny (model X.prog X.w) X.A (execs st X.env) (SP X pins D) X.xe s
theorem thn {α : Type} {t : Sem α} {Q Q' : α → Shared → Prop} {M : Model} {A : Around} {E : Value → Shared → Prop} {s : Shared} (h : wpAny M A t Q E s) (hQ : ∀ a s, Q a s → Q' a s) : wpAny M A t Q' E s := wpAny_mono h hQ fun _ _ x => x
section
variable {X : Cx}
def tVar (i : Nat) : TE := fun σ H Q => ∃ v, σ[i]? = some (some v) ∧ Q v H
def tC (v : V) : TE := fun _ H Q => Q v H
theorem pe_var {i : Nat} {x : Str} {pos : Pos} (hN : X.N[i]? = some x) (hv : Vis X.env.scope x) (hd : (x == ("__debug__" : Str)) = false := by decide) (hcd : (x == ("__classdict__" : Str)) = false := by decide) : PE X (.Name x pos) (tVar i) := by
 intro pins s σ H Q I h
 obtain ⟨v, e, h⟩ := h
 obtain ⟨m, hn, hl⟩ := I.loc
 obtain ⟨u, r, l⟩ := hl i x v hN e hv
 have fin : EP X pins σ Q u s := ⟨v, H, I, r, h⟩
 rcases l with ⟨hk, hm⟩ | ⟨hk, c, hc, hcell⟩
 ·exact wpAny_Name (wpAny_loadName_local I.ok.kind hk hn hm fin) hd
 ·rcases hk with hk | hk
  ·exact wpAny_Name (wpAny_loadName_cell I.ok.kind hk hc hcell fin) hd
  ·exact wpAny_Name (wpAny_loadName_free I.ok.kind hk hc hcell fin hcd) hd
theorem pe_int {i j pos} : PE X (.Constant (.int i) j pos) (tC (.int i)) := fun _ _ _ H _ I h => wpAny_Constant_int ⟨.int i, H, I.tok _, ⟨_, rfl⟩, h⟩
theorem pe_bl {b j pos} : PE X (.Constant (.bool b) j pos) (tC (.bl b)) := fun _ _ _ H _ I h => Constant_bool ⟨.bl b, H, I, rfl, h⟩
theorem pe_non {j pos} : PE X (.Constant .none j pos) (tC .non) := fun _ _ _ H _ I h => Constant_none ⟨.non, H, I, rfl, h⟩
theorem pe_str {x j pos} : PE X (.Constant (.str x) j pos) (tC (.str x)) := fun _ _ _ H _ I h => Calls.Constant_str ⟨.str x, H, I.tok _, ⟨_, rfl⟩, h⟩
def Gl (X : Cx) (x : Str) : Prop := X.env.kindOf x = some .globalImplicit
theorem zY3 {E : Value → Shared → Prop} {pins : List (Addr × Obj)} {s : Shared} {σ : St} {H : Hp} {x : Str} {u : Value} {pos : Pos} {Q : Value → Shared → Prop} (I : Inv X pins σ H s) (hg : Gl X x) (hm : X.mg x = some u) (h : Q u s)
  (hd : (x == ("__debug__" : Str)) = false := by decide) : wpAny (model X.prog X.w) X.A (eval (.Name x pos) X.env) Q E s :=
 Calls.Name_function_global I.ok.kind hg (Calls.loadGlobal_global (by rw [I.ok.glob]; exact I.mod.glob.keeps I.bk) hm h) hd
theorem zC8 {E : Value → Shared → Prop} {pins : List (Addr × Obj)} {s : Shared} {σ : St} {H : Hp} {x : Str} {u : Value} {pos : Pos} {Q : Value → Shared → Prop} (I : Inv X pins σ H s) (hg : Gl X x) (hm : X.mg x = none) (hv : bootBuiltins x = some u) (h : Q u s)
  (hn : x ≠ "__name__" := by decide) (hd : (x == ("__debug__" : Str)) = false := by decide) : wpAny (model X.prog X.w) X.A (eval (.Name x pos) X.env) Q E s := by
 obtain ⟨mb, h1, h2⟩ := I.mod.blt
 exact Calls.Name_function_global I.ok.kind hg (Calls.loadGlobal_builtin (by rw [I.ok.glob]; exact I.mod.glob.keeps I.bk) hm (by rw [I.ok.blt]; exact h1.keeps I.bk) ((h2 x hn).trans hv) h) hd
theorem pe_glob {x : Str} {v : V} {u : Value} {pos : Pos} (hg : Gl X x) (hm : X.mg x = some u) (r : RelV v u) (hd : (x == ("__debug__" : Str)) = false := by decide) : PE X (.Name x pos) (tC v) :=
 fun _ _ _ H _ I h => zY3 I hg hm ⟨v, H, I, r, h⟩ hd
variable {a b : Expr} {ta tb : TE} {pos : Pos}
def tB (t : TE) : TT := fun σ H Q => t σ H fun x H1 => ∃ c, x = .bl c ∧ Q c H1
theorem pt_val {e : Expr} {t : TE} (h : PE X e t) (he : ∀ whole, isTrue e X.env whole = (do let v ← whole; standAt e.pos; holding [v] (truthy v)) := by intro _; rfl) : PT X e (tB t) := by
 intro pins s σ H Q I hw
 refine isTrue_plain (thn (h pins s σ H _ I hw) fun v s1 ⟨x, H1, I1, r1, q1⟩ => ?_) (he _)
 obtain ⟨d, rfl, q⟩ := q1
 cases r1
 exact wpAny_truthy_bool ⟨H1, I1, q⟩
variable {tA tB' : TT} {rest : List Expr}
def tAnd (t u : TT) : TT := fun σ H Q => t σ H fun c H1 => if c = true then u σ H1 Q else Q false H1
def tOr (t u : TT) : TT := fun σ H Q => t σ H fun c H1 => if c = true then Q true H1 else u σ H1 Q
def tNot (t : TT) : TT := fun σ H Q => t σ H fun c H1 => Q (!c) H1
theorem pw_and1 (ha : PT X a tA) : PW X (.BoolOp .And [a] pos) tA := by
 intro wh pins s σ H Q I h
 refine isTrue_and (thn (ha pins s σ H Q I h) fun c s1 e => ?_)
 cases c with
 | true => exact isTrue_and_nil e
 | false => exact e
theorem pw_or1 (ha : PT X a tA) : PW X (.BoolOp .Or [a] pos) tA := by
 intro wh pins s σ H Q I h
 refine isTrue_or (thn (ha pins s σ H Q I h) fun c s1 e => ?_)
 cases c with
 | false => exact isTrue_or_nil e
 | true => exact e
theorem pw_and (ha : PT X a tA) (hb : PW X (.BoolOp .And (b :: rest) pos) tB') : PW X (.BoolOp .And (a :: b :: rest) pos) (tAnd tA tB') := by
 intro wh pins s σ H Q I h
 refine isTrue_and (thn (ha pins s σ H _ I h) fun c s1 ⟨H1, I1, q1⟩ => ?_)
 cases c with
 | true => exact hb wh pins s1 σ H1 Q I1 q1
 | false => exact ⟨H1, I1, q1⟩
theorem pw_or (ha : PT X a tA) (hb : PW X (.BoolOp .Or (b :: rest) pos) tB') : PW X (.BoolOp .Or (a :: b :: rest) pos) (tOr tA tB') := by
 intro wh pins s σ H Q I h
 refine isTrue_or (thn (ha pins s σ H _ I h) fun c s1 ⟨H1, I1, q1⟩ => ?_)
 cases c with
 | true => exact ⟨H1, I1, q1⟩
 | false => exact hb wh pins s1 σ H1 Q I1 q1
theorem pt_not (ha : PT X a tA) : PT X (.UnaryOp .Not a pos) (tNot tA) := by
 intro pins s σ H Q I h
 exact isTrue_not (ha pins s σ H (fun c H1 => Q (!c) H1) I h)
theorem pe_one {op} {t : TE} (h : PE X a t) : PE X (.BoolOp op [a] pos) t := fun pins s σ H Q I hw => BoolOp_one (h pins s σ H Q I hw)
def tIf (t : TT) (ta tb : TE) : TE := fun σ H Q => t σ H fun c H1 => if c = true then ta σ H1 Q else tb σ H1 Q
theorem pe_ifExp {c : Expr} (hc : PT X c tA) (ha : PE X a ta) (hb : PE X b tb) : PE X (.IfExp c a b pos) (tIf tA ta tb) := by
 intro pins s σ H Q I h
 refine wpAny_IfExp (thn (hc pins s σ H _ I h) fun d s1 ⟨H1, I1, q1⟩ => ?_)
 cases d with
 | true => exact ha pins s1 σ H1 Q I1 q1
 | false => exact hb pins s1 σ H1 Q I1 q1
end
def SqL (K : PySem.W.Frag) (H : Hp) (a : Addr) (xs : List V) : Prop :=
 Rd H a (.lst xs) ∨
  ∃ (o : Obj) (its : Array Value) (n : Nat), K.lookup a = some o ∧ o.cls = .type "list" ∧ o.dict = none ∧ o.data = .seq its n ∧ its.size ≤ sizeLine ∧ Vals xs its.toList
def SqT (K : PySem.W.Frag) (H : Hp) (a : Addr) (xs : List V) : Prop :=
 Rd H a (.tup xs) ∨
  ∃ (o : Obj) (its : Array Value) (n : Nat), K.lookup a = some o ∧ o.cls = .type "tuple" ∧ o.data = .seq its n ∧ its.size ≤ sizeLine ∧ Vals xs its.toList
def absV : Value → Option V
 | .none => some .non
 | .bool b => some (.bl b)
 | .int i _ => some (.int i)
 | .str x _ => some (.str x)
 | .bytes b _ => some (.byt b)
 | .float b _ => some (.flt b)
 | .ref a => some (.ref a)
 | .type n => some (.ty n)
 | _ => none
theorem RelV.abs {x : V} {u : Value} (r : RelV x u) : absV u = some x := by
 cases x with
 | non => cases r; rfl
 | bl _ => cases r; rfl
 | int _ => obtain ⟨t, rfl⟩ := r; rfl
 | str _ => obtain ⟨t, rfl⟩ := r; rfl
 | byt _ => obtain ⟨t, rfl⟩ := r; rfl
 | flt _ => obtain ⟨t, rfl⟩ := r; rfl
 | ref _ => cases r; rfl
 | ty _ => cases r; rfl
theorem RelV.inj {x y : V} {u : Value} (r : RelV x u) (q : RelV y u) : x = y := Option.some.inj (r.abs.symm.trans q.abs)
theorem Vals.inj : ∀ {xs ys : List V} {us : List Value}, Vals xs us → Vals ys us → xs = ys
 | _, _, _, .nil, .nil => rfl
 | _, _, _, .cons r t, .cons r' t' => by rw [r.inj r', Vals.inj t t']
section
variable {X : Cx} {pins : List (Addr × Obj)} {σ : St} {H : Hp} {s : Shared} {a : Addr} {xs ys : List V}
theorem SqL.of {K : PySem.W.Frag} (h : H a = some (.lst xs)) : SqL K H a xs := .inl (.inl h)
theorem SqT.of {K : PySem.W.Frag} (h : H a = some (.tup xs)) : SqT K H a xs := .inl (.inl h)
theorem Inv.list (I : Inv X pins σ H s) (h : SqL X.K H a xs) : ∃ its : List Value, Vals xs its ∧ PlainL s.heap a its.toArray ∧ xs.length ≤ sizeLine := by
 rcases h with h | ⟨o, its, n, hk, hc, hd, hs, hz, r⟩
 ·obtain ⟨z, its, n, r, e⟩ := h.ok I.hok
  exact ⟨its, r, ⟨_, n, e, rfl, rfl, rfl⟩, z⟩
 ·refine ⟨its.toList, r, ⟨o, n, I.kIn a o hk, hc, hd, by simpa using hs⟩, ?_⟩
  have e := r.length
  simp only [Array.length_toList] at e
  omega
theorem Inv.tuple (I : Inv X pins σ H s) (h : SqT X.K H a xs) : ∃ its : List Value, Vals xs its ∧ IsTup s.heap a its.toArray ∧ xs.length ≤ sizeLine := by
 rcases h with h | ⟨o, its, n, hk, hc, hs, hz, r⟩
 ·obtain ⟨z, its, r, p⟩ := h.ok I.hok
  exact ⟨its, r, p, z⟩
 ·refine ⟨its.toList, r, ⟨o, I.kIn a o hk, hc, n, by simpa using hs⟩, ?_⟩
  have e := r.length
  simp only [Array.length_toList] at e
  omega
theorem Inv.list_inj (I : Inv X pins σ H s) (h : SqL X.K H a xs) (h' : SqL X.K H a ys) : xs = ys := by
 obtain ⟨its, r, ⟨o, n, e, _, _, d⟩, _⟩ := I.list h
 obtain ⟨its', r', ⟨o', n', e', _, _, d'⟩, _⟩ := I.list h'
 rw [e] at e'; cases e'
 rw [d] at d'
 injection d' with d1 _
 have : its = its' := by simpa using congrArg Array.toList d1
 subst this
 exact r.inj r'
theorem Inv.tuple_inj (I : Inv X pins σ H s) (h : SqT X.K H a xs) (h' : SqT X.K H a ys) : xs = ys := by
 obtain ⟨its, r, ⟨o, e, _, n, d⟩, _⟩ := I.tuple h
 obtain ⟨its', r', ⟨o', e', _, n', d'⟩, _⟩ := I.tuple h'
 rw [e] at e'; cases e'
 rw [d] at d'
 injection d' with d1 _
 have : its = its' := by simpa using congrArg Array.toList d1
 subst this
 exact r.inj r'
end
abbrev Cx.wish (X : Cx) (E : Value → Shared → Prop) : Cx := { X with xe := E }
abbrev Cx.nox (X : Cx) : Cx := X.wish fun _ _ => False
theorem Cx.Ok.wish {X : Cx} (ok : X.Ok) (E : Value → Shared → Prop) : (X.wish E).Ok :=
 ⟨ok.mod, ok.kind, ok.glob, ok.blt, ok.above, ok.inj, ok.has, ok.cab, ok.hd, ok.frames, ok.stk, ok.exf, ok.bs, ok.bsz, ok.noex, ok.exfs, ok.funs, ok.frf⟩
theorem Cx.Ok.unwish {X : Cx} {E : Value → Shared → Prop} (ok : (X.wish E).Ok) : X.Ok :=
 ⟨ok.mod, ok.kind, ok.glob, ok.blt, ok.above, ok.inj, ok.has, ok.cab, ok.hd, ok.frames, ok.stk, ok.exf, ok.bs, ok.bsz, ok.noex, ok.exfs, ok.funs, ok.frf⟩
section
variable {X : Cx} {pins : List (Addr × Obj)} {σ : St} {H : Hp} {s : Shared} {E : Value → Shared → Prop}
theorem Inv.wish (I : Inv X pins σ H s) (E : Value → Shared → Prop) : Inv (X.wish E) pins σ H s := ⟨I.ok.wish E, I.os, I.bare, I.base, I.loc, I.cell, I.free, I.freeC, I.pin, I.hok, I.len⟩
theorem Inv.unwish (I : Inv (X.wish E) pins σ H s) : Inv X pins σ H s := ⟨I.ok.unwish, I.os, I.bare, I.base, I.loc, I.cell, I.free, I.freeC, I.pin, I.hok, I.len⟩
theorem SP.unwish {D : Ends} {f : Flow} {s' : Shared} (h : SP (X.wish E) pins D f s') : SP X pins D f s' := by
 cases f with
 | next => obtain ⟨σ', H', I, q⟩ := h; exact ⟨σ', H', I.unwish, q⟩
 | brk => obtain ⟨σ', H', I, q⟩ := h; exact ⟨σ', H', I.unwish, q⟩
 | cont => obtain ⟨σ', H', I, q⟩ := h; exact ⟨σ', H', I.unwish, q⟩
 | ret u => obtain ⟨v, σ', H', I, r, q⟩ := h; exact ⟨v, σ', H', I.unwish, r, q⟩
theorem PE.nox {e : Expr} {t : TE} (h : PE X.nox e t) : PE X e t := fun pins s σ H Q I hw =>
 wpAny_mono (h pins s σ H Q (I.wish _) hw) (fun _ _ ⟨v, H', I', r, q⟩ => ⟨v, H', I'.unwish, r, q⟩) fun _ _ z => False.elim z
theorem PT.nox {e : Expr} {t : TT} (h : PT X.nox e t) : PT X e t := fun pins s σ H Q I hw =>
 wpAny_mono (h pins s σ H Q (I.wish _) hw) (fun _ _ ⟨H', I', q⟩ => ⟨H', I'.unwish, q⟩) fun _ _ z => False.elim z
theorem PSs.nox {st : List Stmt} {t : TS} (h : PSs X.nox st t) : PSs X st t := fun pins s σ H D I hw =>
 wpAny_mono (h pins s σ H D (I.wish _) hw) (fun _ _ q => q.unwish) fun _ _ z => False.elim z
end
section
variable {X : Cx} {st : Stmt} {rest : List Stmt} {t u : TS} {e : Expr} {te : TE} {pos : Pos}
def tNext : TS := fun D σ H => D.nx σ H
def tSeq (t u : TS) : TS := fun D σ H => t { D with nx := u D } σ H
theorem pss_nil : PSs X [] tNext := fun _ _ σ H _ I h => wpAny_execs_nil ⟨σ, H, I, h⟩
theorem pss_cons (h1 : PS X st t) (h2 : PSs X rest u) : PSs X (st :: rest) (tSeq t u) := by
 intro pins s σ H D I h
 refine wpAny_execs_cons (thn (h1 pins s σ H { D with nx := u D } I h) fun f s1 q => ?_)
 cases f with
 | next =>
  obtain ⟨σ', H', I', q⟩ := q
  exact h2 pins s1 σ' H' D I' q
 | ret v => exact q
 | brk => exact q
 | cont => exact q
theorem pss_one (h1 : PS X st t) : PSs X [st] t := by
 intro pins s σ H D I h
 refine wpAny_execs_cons (thn (h1 pins s σ H D I h) fun f s1 q => ?_)
 cases f with
 | next => exact wpAny_execs_nil q
 | ret v => exact q
 | brk => exact q
 | cont => exact q
theorem Inv.quiet {pins : List (Addr × Obj)} {σ : St} {H : Hp} {s : Shared} (I : Inv X pins σ H s) : interactive X.env = false := by simp [interactive, I.ok.kind]
def tDrop (te : TE) : TS := fun D σ H => te σ H fun _ H1 => D.nx σ H1
theorem zN2 (he : PE X e te) (hs : swapsWith e none pos.line X.env = pure false := by rfl) : PS X (.Expr e pos) (tDrop te) := by
 intro pins s σ H D I h
 exact wpAny_Expr_any (thn (he pins s σ H _ I h) fun v s1 ⟨x, H1, I1, r1, q1⟩ => ⟨σ, H1, I1, q1⟩) I.quiet hs
def tRet (te : TE) : TS := fun D σ H => te σ H D.rt
theorem ya5 (he : PE X e te) : PS X (.Return (some e) pos) (tRet te) := by
 intro pins s σ H D I h
 exact wpAny_Return_some (thn (he pins s σ H _ I h) fun v s1 ⟨x, H1, I1, r1, q1⟩ => ⟨x, σ, H1, I1, r1, q1⟩)
def tIfS (c : TT) (t u : TS) : TS := fun D σ H => c σ H fun b H1 => if b = true then t D σ H1 else u D σ H1
theorem ps_if {c : Expr} {a b : List Stmt} {tc : TT} (hc : PT X c tc) (ha : PSs X a t) (hb : PSs X b u) : PS X (.If c a b pos) (tIfS tc t u) := by
 intro pins s σ H D I h
 refine wpAny_If (thn (hc pins s σ H _ I h) fun d s1 ⟨H1, I1, q1⟩ => ?_)
 cases d with
 | true => exact ha pins s1 σ H1 D I1 q1
 | false => exact hb pins s1 σ H1 D I1 q1
def tNever : TS := fun _ _ _ => False
theorem ps_never : PS X st tNever := fun _ _ _ _ _ _ h => h.elim
end
abbrev TG := V → St → Hp → (St → Hp → Prop) → Prop
abbrev TGs := List V → St → Hp → (St → Hp → Prop) → Prop
def PG (X : Cx) (target : Expr) (t : TG) : Prop :=
 ∀ (pins : List (Addr × Obj)) (s : Shared) (σ : St) (H : Hp) (v : V) (u : Value) (Q : St → Hp → Prop), Inv X pins σ H s → RelV v u → t v σ H Q →
  wpAny (model X.prog X.w) X.A (assign target X.env u) (fun _ s' => ∃ σ' H', Inv X pins σ' H' s' ∧ Q σ' H') X.xe s
def PGs (X : Cx) (ts : List Expr) (t : TGs) : Prop :=
 ∀ (pins : List (Addr × Obj)) (s : Shared) (σ : St) (H : Hp) (vs : List V) (us : List Value) (Q : St → Hp → Prop), Inv X pins σ H s → Vals vs us → t vs σ H Q →
  wpAny (model X.prog X.w) X.A (assignInOrder ((assignEach ts X.env).map (·.2)) us) (fun _ s' => ∃ σ' H', Inv X pins σ' H' s' ∧ Q σ' H') X.xe s
abbrev TSet := V → V → V → Hp → (Hp → Prop) → Prop
def PSet (X : Cx) (t : TSet) : Prop :=
 ∀ (pins : List (Addr × Obj)) (s : Shared) (σ : St) (H : Hp) (o i v : V) (ov iv u : Value) (Q : Hp → Prop), Inv X pins σ H s → RelV o ov → RelV i iv → RelV v u → t o i v H Q →
  wpAny (model X.prog X.w) X.A (setItem ov iv u) (fun _ s' => ∃ H', Inv X pins σ H' s' ∧ Q H') X.xe s
section
variable {X : Cx} {pos : Pos}
def gName (i : Nat) : TG := fun v σ H Q => Q (σ.set i (some v)) H
theorem zX2 {i : Nat} {x : Str} (hN : X.N.Nodup) (hi : X.N[i]? = some x) (hx : Loc X.env.scope x) (hf : X.fn x = true ∨ X.env.scope.names.lookup x = some .local := by first | exact .inl rfl | exact .inr rfl | assumption) : PG X (.Name x pos) (gName i) := by
 intro pins s σ H v u Q I r h
 exact wpAny_assign_Name (ya0 I hN hi hx r (fun s' I' => ⟨_, H, I', h⟩) hf)
def gNil : TGs := fun vs σ H Q => vs = [] ∧ Q σ H
def gCons (t : TG) (u : TGs) : TGs := fun vs σ H Q => ∃ v r, vs = v :: r ∧ t v σ H fun σ' H' => u r σ' H' Q
theorem pgs_nil : PGs X [] gNil := by
 intro pins s σ H vs us Q I r h
 obtain ⟨e, h⟩ := h
 subst e
 cases r
 exact assignInOrder_nil ⟨σ, H, I, h⟩
theorem ya6 {e : Expr} {es : List Expr} {t : TG} {u : TGs} (h1 : PG X e t) (h2 : PGs X es u)
  (hs : (assignEach (e :: es) X.env).map (·.2) = assign e X.env :: (assignEach es X.env).map (·.2) := by rfl) : PGs X (e :: es) (gCons t u) := by
 intro pins s σ H vs us Q I r h
 obtain ⟨v, vr, e1, h⟩ := h
 subst e1
 cases r with
 | cons r rr =>
  rw [hs]
  refine assignInOrder_cons (thn (h1 pins s σ H _ _ _ I r h) fun _ s1 ⟨σ1, H1, I1, q1⟩ => ?_)
  exact h2 pins s1 σ1 H1 _ _ Q I1 rr q1
def gTup (K : PySem.W.Frag) (n : Nat) (t : TGs) : TG := fun v σ H Q => ∃ a xs, v = .ref a ∧ SqT K H a xs ∧ xs.length = n ∧ t xs σ H Q
theorem pg_tup {es : List Expr} {k : Nat} {t : TGs} {n : Nat} (hc : X.calm = true) (h : PGs X es t)
  (hn : (assignEach es X.env).length = n := by rfl) (hst : (assignEach es X.env).findIdx? (·.1) = none := by rfl) : PG X (.Tuple es k pos) (gTup X.K n t) := by
 intro pins s σ H v u Q I r hw
 obtain ⟨a, xs, e1, hq, hl, hw⟩ := hw
 subst e1
 cases r
 obtain ⟨its, rv, ht, hz⟩ := I.tuple hq
 refine assign_Tuple_tuple (I.ok.hd hc) ht (by simp [hn, ← hl, rv.length]) hst fun h' hx => ?_
 have I1 : Inv X pins σ H { s with heap := h' } := I.kept (t' := s.toks) fun b o e => hx b o (Nat.ne_of_lt (Heap.lt_size e)) e
 exact h pins _ σ H xs _ Q I1 (by simpa using rv) hw
def gSub (to ti : TE) (t : TSet) : TG := fun v σ H Q => to σ H fun o H1 => ti σ H1 fun i H2 => t o i v H2 fun H3 => Q σ H3
theorem pg_sub {o i : Expr} {to ti : TE} {t : TSet} (ho : PE X o to) (hi : PE X i ti) (hs : PSet X t)
  (ha : ∀ v, assign (.Subscript o i pos) X.env v = (do
   let ov ← holding [v] (eval o X.env)
   let iv ← holding [v, ov] (eval i X.env)
   standAt pos
   holding [v, ov, iv] (setItem ov iv v)
   release [v, ov, iv] []) := by intro _; rfl) : PG X (.Subscript o i pos) (gSub to ti t) := by
 intro pins s σ H v u Q I r h
 rw [ha]
 refine wpAny_bind (wpAny_holding (thn (ho pins s σ H _ I h) fun ov s1 ⟨x, H1, I1, r1, q1⟩ => ?_))
 refine wpAny_bind (wpAny_holding (thn (hi pins s1 σ H1 _ I1 q1) fun iv s2 ⟨y, H2, I2, r2, q2⟩ => ?_))
 refine wpAny_bind (wpAny_standAt (wpAny_bind (wpAny_holding (thn (hs pins s2 σ H2 x y v ov iv u _ I2 r1 r2 r q2) fun _ s3 ⟨H3, I3, q3⟩ => ?_))))
 exact wpAny_release ⟨σ, H3, I3, q3⟩
def tAsg (te : TE) (g : TG) : TS := fun D σ H => te σ H fun x H1 => g x σ H1 D.nx
theorem ps_asg {tg e : Expr} {te : TE} {g : TG} (he : PE X e te) (hg : PG X tg g) (hs : swapsWithSole [tg] e pos.line X.env = pure false := by rfl) (hw : swappedStores [tg] e X.env = pure none := by rfl)
  (h1 : (assignEach [tg] X.env).map (·.2) = [assign tg X.env] := by rfl) : PS X (.Assign [tg] e pos) (tAsg te g) := by
 intro pins s σ H D I h
 refine wpAny_Assign_stores (thn (he pins s σ H _ I h) fun v s1 ⟨x, H1, I1, r1, q1⟩ => ?_) hs hw
 rw [h1]
 exact thn (hg pins s1 σ H1 x v _ I1 r1 q1) fun _ s2 q => q
theorem zT0 {i : Nat} {x : Str} {e : Expr} {te : TE} {pos' : Pos} (hN : X.N.Nodup) (hi : X.N[i]? = some x) (hx : Loc X.env.scope x) (he : PE X e te) (hs : swapsWith e (some (.Name x pos')) pos.line X.env = pure false := by rfl) (hf : X.fn x = true ∨ X.env.scope.names.lookup x = some .local := by first | exact .inl rfl | exact .inr rfl | assumption) :
  PS X (.Assign [.Name x pos'] e pos) (tAsg te (gName i)) := by
 intro pins s σ H D I h
 refine wpAny_Assign_Name (thn (he pins s σ H _ I h) fun v s1 ⟨y, H1, I1, r1, q1⟩ => ?_) hs
 exact ya0 I1 hN hi hx r1 (fun s2 I2 => ⟨_, H1, I2, q1⟩) hf
end
section
variable {X : Cx} {pos : Pos}
end
structure It where
 go : Nat → Hp → Prop
 yld : Nat → Hp → V → Hp → Prop
 stop : Nat → Hp → Prop
def FpOk (X : Cx) (pins : List (Addr × Obj)) (H : Hp) (b : Addr) : Prop :=
 H b = none ∧ b ≠ X.env.locals ∧ b ∉ X.fs ∧ (b ∈ X.ex ∨ X.s₀.heap.objs.size ≤ b) ∧ (∀ x c, X.env.cells.lookup x = some c → c ≠ b) ∧ ∀ p ∈ X.pn ++ pins, p.1 ≠ b
theorem Inv.fpOk {X : Cx} {pins : List (Addr × Obj)} {σ : St} {H H' : Hp} {s : Shared} {b : Addr} (I : Inv X pins σ H s) (hb : s.heap.objs.size ≤ b) (hn : H' b = none) : FpOk X pins H' b := by
 refine ⟨hn, Nat.ne_of_gt (Nat.lt_of_lt_of_le I.lt hb), I.nofs hb, .inr (Nat.le_trans I.sz hb), fun x c e z => ?_, fun p hp z => ?_⟩
 ·obtain ⟨v, q⟩ := I.cell x c e
  exact absurd (Nat.lt_of_lt_of_le q.lt (by rw [z]; exact hb)) (Nat.lt_irrefl _)
 ·exact absurd (Nat.lt_of_lt_of_le (Heap.lt_size (I.pin p hp).1) (by rw [z]; exact hb)) (Nat.lt_irrefl _)
structure Turn (P : Program) (w : World) (K : PySem.W.Frag) (tg : Expr) (J : It) (fp : List Addr) (it : Addr) (tn : Nat → Heap → Prop) : Prop where
 mem : it ∈ fp
 obj : ∀ i h, tn i h → ∀ b ∈ fp, ∃ o, h.get? b = some o ∧ ∀ v, o.data ≠ .cell v
 keep : ∀ i h h', tn i h → (∀ b ∈ fp, ∀ o, h.get? b = some o → h'.get? b = some o) → tn i h'
 item : ∀ (X : Cx), X.prog = P → X.w = w → X.K = K → X.calm = true → ∀ (i : Nat) (pins : List (Addr × Obj)) (s : Shared) (σ : St) (H : Hp) (E : Value → Shared → Prop), Inv X pins σ H s → (∀ b ∈ fp, FpOk X pins H b) → tn i s.heap → J.go i H →
  wpAny (model P w) X.A (pyNext (.ref it)) (fun r s1 => ∃ u, r = some u ∧
   wpAny (model P w) X.A (letOwnedTupleGo tg (.ref it) u) (fun _ s2 => ∃ x H', Inv X pins σ H' s2 ∧ RelV x u ∧ J.yld i H x H' ∧ tn (i + 1) s2.heap ∧ ∀ b ∈ fp, H' b = none) E s1) E s
 done : ∀ (X : Cx), X.prog = P → X.w = w → X.K = K → X.calm = true → ∀ (i : Nat) (pins : List (Addr × Obj)) (s : Shared) (σ : St) (H : Hp) (E : Value → Shared → Prop), Inv X pins σ H s → (∀ b ∈ fp, FpOk X pins H b) → tn i s.heap → J.stop i H →
  wpAny (model P w) X.A (pyNext (.ref it)) (fun r s1 => r = none ∧ Inv X pins σ H s1) E s
 self : ∀ (A : Around) (i : Nat) (s : Shared) (Q : Value → Shared → Prop) (E : Value → Shared → Prop), tn i s.heap → Q (.ref it) s → wpAny (model P w) A (pyIter (.ref it)) Q E s
abbrev TI := St → Hp → (It → Hp → Prop) → Prop
def PIE (X : Cx) (pins : List (Addr × Obj)) (σ : St) (tg : Expr) (R : It → Hp → Prop) (itv : Value) (s2 : Shared) : Prop :=
 ∃ (it : Addr) (fp : List Addr) (tn : Nat → Heap → Prop) (J : It) (H' : Hp), itv = .ref it ∧ Inv X pins σ H' s2 ∧ Turn X.prog X.w X.K tg J fp it tn ∧ tn 0 s2.heap ∧ (∀ b ∈ fp, FpOk X pins H' b) ∧ R J H'
def PI (X : Cx) (tg iter : Expr) (wi : TI) : Prop :=
 ∀ (pins : List (Addr × Obj)) (s : Shared) (σ : St) (H : Hp) (R : It → Hp → Prop), Inv X pins σ H s → wi σ H R →
  wpAny (model X.prog X.w) X.A (eval iter X.env) (fun v s1 => wpAny (model X.prog X.w) X.A (pyIter v) (PIE X pins σ tg R) X.xe s1) X.xe s
theorem go_of {M : Model} {A : Around} {E : Value → Shared → Prop} {s : Shared} {tg : Expr} {it : Addr} {u : Value} {o : Obj} {n : String} {vs : Array Value} {Q : Unit → Shared → Prop} (ho : s.heap.get? it = some o) (hc : o.cls = .type n) (hd : o.data = .fields vs)
  (hn : ["enumerate", "zip", "dict_itemiterator", "dict_reverseitemiterator", "odict_iterator", "itertools.zip_longest", "itertools.pairwise"].contains n = false) (hQ : Q () s) : wpAny M A (letOwnedTupleGo tg (.ref it) u) Q E s := by
 unfold letOwnedTupleGo
 cases tg <;> first
  | exact wpAny_pure hQ
  | (cases u <;> first
    | exact wpAny_pure hQ
    | (refine wpAny_bind (wpAny_load ho ?_)
       rw [hc, hd]
       show wpAny M A (if (["enumerate", "zip", "dict_itemiterator", "dict_reverseitemiterator", "odict_iterator", "itertools.zip_longest", "itertools.pairwise"].contains n && vs[0]? == some (rawInt _)) = true then _ else _) Q E s
       rw [if_neg (by intro h; rw [hn, Bool.false_and] at h; cases h)]
       exact wpAny_pure hQ))
def Itl (K : PySem.W.Frag) (a : Addr) : It :=
 ⟨fun i H => ∃ xs x, SqL K H a xs ∧ xs[i]? = some x, fun i H x H' => H' = H ∧ ∀ xs, SqL K H a xs → xs[i]? = some x, fun i H => ∃ xs, SqL K H a xs ∧ xs.length ≤ i⟩
def Itt (K : PySem.W.Frag) (a : Addr) : It :=
 ⟨fun i H => ∃ xs x, SqT K H a xs ∧ xs[i]? = some x, fun i H x H' => H' = H ∧ ∀ xs, SqT K H a xs → xs[i]? = some x, fun i H => ∃ xs, SqT K H a xs ∧ xs.length ≤ i⟩
def Itr (lo : Int) (n : Nat) : It := ⟨fun i _ => i < n, fun i H x H' => H' = H ∧ x = .int (lo + i), fun i _ => n ≤ i⟩
theorem zR9 {P : Program} {w : World} {K : PySem.W.Frag} {tg : Expr} (a it : Addr) : Turn P w K tg (Itl K a) [it] it (fun i h => h.IsListIter it a i) where
 mem := by simp
 obj := fun i h st b hb => by
  have e : b = it := by simpa using hb
  subst e
  obtain ⟨o, e, c, d⟩ := st
  exact ⟨o, e, fun v z => by rw [d] at z; cases z⟩
 keep := fun i h h' st k => st.at fun o e => k it (by simp) o e
 item := by
  intro X hP hw hK hc i pins s σ H E I hf st hg
  subst hP hw hK
  obtain ⟨xs, x, hq, hx⟩ := hg
  obtain ⟨its, rv, p, hz⟩ := I.list hq
  obtain ⟨u, hu, ru⟩ := rv.get hx
  obtain ⟨f0, f1, f2, f3, f4, f5⟩ := hf it (by simp)
  refine wpAny_pyNext_list_item st p.isList (x := u) (by simpa using hu) fun h' st' sb => ?_
  have I1 : Inv X pins σ H { s with heap := h' } := I.turned (t' := s.toks) (fun b o hb e => (sb.2 b hb).trans e) f0 f1 f3 f4 f5
  obtain ⟨o, e, c, d⟩ := id st'
  exact ⟨u, rfl, go_of (s := { s with heap := h' }) e c d (by decide) ⟨x, H, I1, ru, ⟨rfl, fun ys hy => by rw [I.list_inj hy hq]; exact hx⟩, st', fun b hb => (hf b hb).1⟩⟩
 done := by
  intro X hP hw hK hc i pins s σ H E I hf st hg
  subst hP hw hK
  obtain ⟨xs, hq, hx⟩ := hg
  obtain ⟨its, rv, p, hz⟩ := I.list hq
  obtain ⟨f0, f1, f2, f3, f4, f5⟩ := hf it (by simp)
  have hl := rv.length
  exact wpAny_pyNext_list_end (I.ok.hd hc) st p.isList (by simp; omega) fun h' eb => ⟨rfl, I.turned (t' := s.toks) (fun b o hb e => eb b o hb e) f0 f1 f3 f4 f5⟩
 self := fun _ _ _ _ _ st h => wpAny_pyIter_listiter st h
theorem yd1 {P : Program} {w : World} {K : PySem.W.Frag} {tg : Expr} (a it : Addr) : Turn P w K tg (Itt K a) [it] it (fun i h => h.IsTupleIter it a i) where
 mem := by simp
 obj := fun i h st b hb => by
  have e : b = it := by simpa using hb
  subst e
  obtain ⟨o, e, c, d⟩ := st
  exact ⟨o, e, fun v z => by rw [d] at z; cases z⟩
 keep := fun i h h' st k => st.at fun o e => k it (by simp) o e
 item := by
  intro X hP hw hK hc i pins s σ H E I hf st hg
  subst hP hw hK
  obtain ⟨xs, x, hq, hx⟩ := hg
  obtain ⟨its, rv, p, hz⟩ := I.tuple hq
  obtain ⟨u, hu, ru⟩ := rv.get hx
  obtain ⟨f0, f1, f2, f3, f4, f5⟩ := hf it (by simp)
  refine wpAny_pyNext_tuple_item st (show s.heap.IsTuple a its.toArray from p) (x := u) (by simpa using hu) fun h' st' sb => ?_
  have I1 : Inv X pins σ H { s with heap := h' } := I.turned (t' := s.toks) (fun b o hb e => (sb.2 b hb).trans e) f0 f1 f3 f4 f5
  obtain ⟨o, e, c, d⟩ := id st'
  exact ⟨u, rfl, go_of (s := { s with heap := h' }) e c d (by decide) ⟨x, H, I1, ru, ⟨rfl, fun ys hy => by rw [I.tuple_inj hy hq]; exact hx⟩, st', fun b hb => (hf b hb).1⟩⟩
 done := by
  intro X hP hw hK hc i pins s σ H E I hf st hg
  subst hP hw hK
  obtain ⟨xs, hq, hx⟩ := hg
  obtain ⟨its, rv, p, hz⟩ := I.tuple hq
  obtain ⟨f0, f1, f2, f3, f4, f5⟩ := hf it (by simp)
  have hl := rv.length
  exact wpAny_pyNext_tuple_end (I.ok.hd hc) st (show s.heap.IsTuple a its.toArray from p) (by simp; omega) fun h' eb => ⟨rfl, I.turned (t' := s.toks) (fun b o hb e => eb b o hb e) f0 f1 f3 f4 f5⟩
 self := fun _ _ _ _ _ st h => wpAny_pyIter_tupleiter st h
theorem yd2 {P : Program} {w : World} {K : PySem.W.Frag} {tg : Expr} (it : Addr) (lo : Int) (n : Nat) : Turn P w K tg (Itr lo n) [it] it (fun i h => IsRangeIter h it (lo + (i : Nat) * 1) ((n : Int) - (i : Nat)) 1) where
 mem := by simp
 obj := fun i h st b hb => by
  have e : b = it := by simpa using hb
  subst e
  exact ⟨_, st, fun v z => by
   have z' : Data.fields _ = Data.cell v := z
   cases z'⟩
 keep := fun i h h' st k => k it (by simp) _ st
 item := by
  intro X hP hw hK hc i pins s σ H E I hf st hg
  subst hP hw hK
  obtain ⟨f0, f1, f2, f3, f4, f5⟩ := hf it (by simp)
  have W := Walks.range (prog := X.prog) (w := X.w) (I.ok.hd hc) it lo 1 n
  refine W.item i s _ _ hg st fun v h' tk hv st' kk => ?_
  obtain ⟨t, rfl⟩ := hv
  have I1 : Inv X pins σ H { s with heap := h', toks := tk } := I.turned (fun b o hb e => kk b o (by simpa using hb) e) f0 f1 f3 f4 f5
  refine ⟨_, rfl, go_of (s := { s with heap := h', toks := tk }) (n := "range_iterator") st' rfl rfl (by decide) ⟨.int (lo + i), H, I1, ⟨t, ?_⟩, ⟨rfl, rfl⟩, st', fun b hb => (hf b hb).1⟩⟩
  rw [Int.mul_one]
 done := by
  intro X hP hw hK hc i pins s σ H E I hf st hg
  subst hP hw hK
  obtain ⟨f0, f1, f2, f3, f4, f5⟩ := hf it (by simp)
  exact wpAny_pyNext_range_end (I.ok.hd hc) st (by have : n ≤ i := hg; omega) fun h' eb => ⟨rfl, I.turned (t' := s.toks) (fun b o hb e => eb b o hb e) f0 f1 f3 f4 f5⟩
 self := fun _ _ _ _ _ st h => wpAny_pyIter_rangeiter st h
section
variable {X : Cx} {tg : Expr}
def iList (K : PySem.W.Frag) (tl : TE) : TI := fun σ H R => tl σ H fun x H1 => ∃ a, x = .ref a ∧ (∃ xs, SqL K H1 a xs) ∧ R (Itl K a) H1
theorem yi4 {l : Expr} {tl : TE} (hl : PE X l tl) : PI X tg l (iList X.K tl) := by
 intro pins s σ H R I h
 refine thn (hl pins s σ H _ I h) fun v s1 ⟨x, H1, I1, r1, q1⟩ => ?_
 obtain ⟨a, e, ⟨xs, hq⟩, q⟩ := q1
 subst e
 cases r1
 obtain ⟨its, rv, p, hz⟩ := I1.list hq
 refine wpAny_pyIter_list p.isList ?_
 refine ⟨s1.heap.objs.size, [s1.heap.objs.size], _, _, H1, rfl, I1.kept (t' := s1.toks) fun b o e => Heap.get?_push_of_some _ e, zR9 a _, ⟨_, Heap.get?_push_size _ rfl, rfl, rfl⟩, fun b hb => ?_, q⟩
 have e : b = s1.heap.objs.size := by simpa using hb
 subst e
 exact I1.fpOk (Nat.le_refl _) (I1.hok.fresh (Nat.le_refl _))
theorem ya4 {pins : List (Addr × Obj)} {σ : St} {H : Hp} {s : Shared} {R : It → Hp → Prop} {E : Value → Shared → Prop} {lo hi : Int} {t u v : Tok} {tk : Nat} (I : Inv X pins σ H s) (h1 : -(2 ^ 62) ≤ lo) (h2 : lo < 2 ^ 62) (h3 : -(2 ^ 62) ≤ hi) (h4 : hi < 2 ^ 62)
  (q : R (Itr lo (hi - lo).toNat) H) : wpAny (model X.prog X.w) X.A (pyIter (.ref s.heap.objs.size)) (PIE X pins σ tg R) E { s with heap := s.heap.push { cls := .type "range", data := .fields #[.int lo t, .int hi u, .int 1 v] }, toks := tk } := by
 refine wpAny_pyIter_range (IsRange.new ..) (small_one h1 h2 h3 h4) ?_
 have I1 : Inv X pins σ H { s with heap := s.heap.push { cls := .type "range", data := .fields #[.int lo t, .int hi u, .int 1 v] }, toks := tk } := I.kept fun b o e => Heap.get?_push_of_some _ e
 refine ⟨(s.heap.push { cls := .type "range", data := .fields #[.int lo t, .int hi u, .int 1 v] }).objs.size, [(s.heap.push { cls := .type "range", data := .fields #[.int lo t, .int hi u, .int 1 v] }).objs.size], _, _, H, rfl,
  I1.kept (t' := tk) fun b o e => Heap.get?_push_of_some _ e, yd2 _ lo (hi - lo).toNat, ?_, fun b hb => ?_, q⟩
 ·have e1 : lo + ((0 : Nat) : Int) * 1 = lo := by simp
  have e2 : (((hi - lo).toNat : Nat) : Int) - ((0 : Nat) : Int) = Builtin.Range.rangeSize lo hi 1 := by rw [rangeSize_one]; split <;> omega
  show IsRangeIter _ _ (lo + ((0 : Nat) : Int) * 1) ((((hi - lo).toNat : Nat) : Int) - ((0 : Nat) : Int)) 1
  rw [e1, e2]
  exact Heap.get?_push_size _ rfl
 ·have e : b = (s.heap.push { cls := .type "range", data := .fields #[.int lo t, .int hi u, .int 1 v] }).objs.size := by simpa using hb
  subst e
  exact I1.fpOk (Nat.le_refl _) (I1.hok.fresh (Nat.le_refl _))
def iRng1 (ta : TA) : TI := fun σ H R => ta σ H fun vs H1 => ∃ j : Int, vs = [.int j] ∧ -(2 ^ 62) ≤ j ∧ j < 2 ^ 62 ∧ R (Itr 0 j.toNat) H1
def iRng2 (ta : TA) : TI := fun σ H R => ta σ H fun vs H1 => ∃ i j : Int, vs = [.int i, .int j] ∧ (-(2 ^ 62) ≤ i ∧ i < 2 ^ 62 ∧ -(2 ^ 62) ≤ j ∧ j < 2 ^ 62) ∧ R (Itr i (j - i).toNat) H1
theorem yi3 {a : Expr} {ta : TA} {p pos : Pos} (hg : Gl X "range") (hm : X.mg "range" = none) (ha : PA X [a] ta) (hs : starEach [a] X.env = [(false, eval a X.env)] := by rfl) : PI X tg (.Call (.Name "range" p) [a] [] pos) (iRng1 ta) := by
 intro pins s σ H R I h
 refine Call_ (zC8 I hg hm boot_range (PyProof.Rows.callWith_type1 (thn (ha pos pins s σ H _ I h) fun us s1 ⟨vs, H1, I1, r1, q1⟩ => ?_) hs rfl))
 obtain ⟨j, e, q1, q2, q⟩ := q1
 subst e
 cases r1 with
 | cons r rr =>
  cases rr
  obtain ⟨t, rfl⟩ := r
  exact call_range_1 (ya4 I1 (by omega) (by omega) q1 q2 (by simpa using q))
theorem yi2 {a b : Expr} {ta : TA} {p pos : Pos} (hg : Gl X "range") (hm : X.mg "range" = none) (ha : PA X [a, b] ta) (hs : starEach [a, b] X.env = [(false, eval a X.env), (false, eval b X.env)] := by rfl) (hs2 : starEach [b] X.env = [(false, eval b X.env)] := by rfl) :
  PI X tg (.Call (.Name "range" p) [a, b] [] pos) (iRng2 ta) := by
 intro pins s σ H R I h
 refine Call_ (zC8 I hg hm boot_range (PyProof.Rows.callWith_type1 (thn (ha pos pins s σ H _ I h) fun us s1 ⟨vs, H1, I1, r1, q1⟩ => ?_) (by rw [hs, hs2]) (by rw [hs2]; rfl)))
 obtain ⟨i, j, e, ⟨q1, q2, q3, q4⟩, q⟩ := q1
 subst e
 cases r1 with
 | cons r rr =>
  cases rr with
  | cons r' rr =>
   cases rr
   obtain ⟨t, rfl⟩ := r
   obtain ⟨t', rfl⟩ := r'
   exact call_range_2 (ya4 I1 q1 q2 q3 q4 q)
def tFor (wi : TI) (g : TG) (tb : TS) : TS := fun D σ H => wi σ H fun J H1 => ∃ W : Nat → Nat → St → Hp → Prop, (∃ m, W 0 m σ H1) ∧ ∀ i m σ H, W i m σ H →
 (J.stop i H ∧ D.nx σ H) ∨ (J.go i H ∧ ∃ N : St → Hp → Prop, (∀ σ' H', N σ' H' → ∃ m', m' < m ∧ W (i + 1) m' σ' H') ∧ ∀ x H', J.yld i H x H' → g x σ H' fun σ2 H2 => tb { D with nx := N, ct := N, bk := D.nx } σ2 H2)
def zT1 (fp : List Addr) (h : Heap) : List (Addr × Obj) := fp.filterMap fun b => (h.get? b).map fun o => (b, o)
theorem zx0 {fp : List Addr} {h : Heap} {b : Addr} {o : Obj} (hb : b ∈ fp) (e : h.get? b = some o) : (b, o) ∈ zT1 fp h := List.mem_filterMap.mpr ⟨b, hb, by rw [e]; rfl⟩
theorem yk2 {fp : List Addr} {h : Heap} {p : Addr × Obj} (hp : p ∈ zT1 fp h) : p.1 ∈ fp ∧ h.get? p.1 = some p.2 := by
 obtain ⟨b, hb, e⟩ := List.mem_filterMap.mp hp
 cases q : h.get? b with
 | none => rw [q] at e; cases e
 | some o =>
  rw [q] at e
  have e' : (b, o) = p := Option.some.inj e
  subst e'
  exact ⟨hb, q⟩
theorem Inv.pinned {pins : List (Addr × Obj)} {σ : St} {H : Hp} {s : Shared} {fp : List Addr} (I : Inv X pins σ H s) (hf : ∀ b ∈ fp, FpOk X pins H b) (ho : ∀ b ∈ fp, ∃ o, s.heap.get? b = some o ∧ ∀ v, o.data ≠ .cell v) : Inv X (pins ++ zT1 fp s.heap) σ H s :=
 I.pins_of fun p hp => (List.mem_append.mp hp).elim (fun z => I.pin p (List.mem_append_right _ z)) fun z => by
  obtain ⟨hb, e⟩ := yk2 z
  obtain ⟨f0, f1, f2, _⟩ := hf p.1 hb
  obtain ⟨o, e', d⟩ := ho p.1 hb
  rw [e] at e'; cases e'
  exact ⟨e, f0, f1, f2, d⟩
theorem Inv.unpinned {pins pl : List (Addr × Obj)} {σ : St} {H : Hp} {s : Shared} (I : Inv X (pins ++ pl) σ H s) : Inv X pins σ H s := I.pins_of fun p hp => I.pin p (List.mem_append_right _ (List.mem_append_left _ hp))
theorem ps_for {iter : Expr} {body : List Stmt} {wi : TI} {g : TG} {tb : TS} {pos : Pos} (hp : PassesOwn (model X.prog X.w) X.A X.env X.xe) (hc : X.calm = true) (hi : PI X tg iter wi) (hg : PG X tg g) (hb : PSs X body tb)
  (hs : ∀ x, foldedSetIterable iter X.env x = pure x := by intro _; rfl) : PS X (.For tg iter body [] pos) (tFor wi g tb) := by
 intro pins s σ H D I h
 refine wpAny_For (thn (hi pins s σ H _ I h) fun v s1 h1 => thn h1 fun itv s2 h2 => ?_) hs
 obtain ⟨it, fp, tn, J, H2, e, I2, T, st2, f2, W, ⟨m0, w0⟩, turn⟩ := h2
 subst e
 have stat : ∀ {H' : Hp}, (∀ b ∈ fp, H' b = none) → ∀ b ∈ fp, FpOk X pins H' b := fun hn b hb => ⟨hn b hb, (f2 b hb).2⟩
 refine codeAny_forLoop_any (fun n s' => ∃ i σ' H', Inv X pins σ' H' s' ∧ tn i s'.heap ∧ (∀ b ∈ fp, H' b = none) ∧ W i n σ' H') ?_ m0 ⟨0, σ, H2, I2, st2, fun b hb => (f2 b hb).1, w0⟩
 rintro n s3 ⟨i, σ3, H3, I3, st3, fr3, w3⟩
 rcases turn i n σ3 H3 w3 with ⟨stop, qn⟩ | ⟨go, N, hN, step⟩
 ·refine wpAny_passesOwn hp (thn (T.done X rfl rfl rfl hc i pins s3 σ3 H3 X.xe I3 (stat fr3) st3 stop) fun r s4 ⟨hr, I4⟩ => ?_)
  subst hr
  exact wpAny_execs_nil ⟨σ3, H3, I4, qn⟩
 ·refine wpAny_passesOwn hp (thn (T.item X rfl rfl rfl hc i pins s3 σ3 H3 X.xe I3 (stat fr3) st3 go) fun r s4 ⟨u, hr, h4⟩ => ?_)
  subst hr
  refine wpAny_passesOwn hp (thn h4 fun _ s5 ⟨x, H5, I5, r5, y5, st5, fr5⟩ => ?_)
  have I5' := I5.pinned (stat fr5) (T.obj _ _ st5)
  refine wpAny_passesOwn hp (thn (hg _ s5 σ3 H5 x u _ I5' r5 (step x H5 y5)) fun _ s6 ⟨σ6, H6, I6, q6⟩ => ?_)
  refine wpAny_passesOwn hp (thn (hb _ s6 σ6 H6 _ I6 q6) fun f s7 q7 => ?_)
  have again : ∀ {σ7 : St} {H7 : Hp}, Inv X (pins ++ zT1 fp s5.heap) σ7 H7 s7 → N σ7 H7 → ∃ m, m < n ∧ ∃ i σ' H', Inv X pins σ' H' s7 ∧ tn i s7.heap ∧ (∀ b ∈ fp, H' b = none) ∧ W i m σ' H' := fun {σ7 H7} I7 n7 => by
   obtain ⟨m', hm, w7⟩ := hN σ7 H7 n7
   refine ⟨m', hm, i + 1, σ7, H7, I7.unpinned, T.keep _ _ _ st5 fun b hb o e => (I7.pin (b, o) (List.mem_append_right _ (List.mem_append_right _ (zx0 hb e)))).1, fun b hb => ?_, w7⟩
   obtain ⟨o, e, d⟩ := T.obj _ _ st5 b hb
   exact (I7.pin (b, o) (List.mem_append_right _ (List.mem_append_right _ (zx0 hb e)))).2.1
  cases f with
  | next => obtain ⟨σ7, H7, I7, n7⟩ := q7; exact again I7 n7
  | cont => obtain ⟨σ7, H7, I7, n7⟩ := q7; exact again I7 n7
  | brk => obtain ⟨σ7, H7, I7, q7⟩ := q7; exact ⟨σ7, H7, I7.unpinned, q7⟩
  | ret v => obtain ⟨x7, σ7, H7, I7, r7, q7⟩ := q7; exact ⟨x7, σ7, H7, I7.unpinned, r7, q7⟩
end
abbrev R2 := V → V → Hp → VK → Prop
def OpR (X : Cx) (f : Value → Value → Sem Value) (r : R2) : Prop :=
 ∀ (pins : List (Addr × Obj)) (s : Shared) (σ : St) (H : Hp) (x y : V) (v u : Value) (Q : VK), Inv X pins σ H s → RelV x v → RelV y u → r x y H Q →
  wpAny (model X.prog X.w) X.A (f v u) (EP X pins σ Q) X.xe s
def UnR (X : Cx) (f : Value → Sem Value) (r : V → Hp → VK → Prop) : Prop :=
 ∀ (pins : List (Addr × Obj)) (s : Shared) (σ : St) (H : Hp) (x : V) (v : Value) (Q : VK), Inv X pins σ H s → RelV x v → r x H Q →
  wpAny (model X.prog X.w) X.A (f v) (EP X pins σ Q) X.xe s
def CallR (X : Cx) (f : Value) (r : List V → Hp → VK → Prop) : Prop :=
 ∀ (pins : List (Addr × Obj)) (s : Shared) (σ : St) (H : Hp) (xs : List V) (us : List Value) (Q : VK), Inv X pins σ H s → Vals xs us → r xs H Q →
  wpAny (model X.prog X.w) X.A (call f us) (EP X pins σ Q) X.xe s
def TruR (X : Cx) (r : V → Hp → (Bool → Hp → Prop) → Prop) : Prop :=
 ∀ (pins : List (Addr × Obj)) (s : Shared) (σ : St) (H : Hp) (x : V) (v : Value) (Q : Bool → Hp → Prop), Inv X pins σ H s → RelV x v → r x H Q →
  wpAny (model X.prog X.w) X.A (truthy v) (TP X pins σ Q) X.xe s
def tOp (r : R2) (ta tb : TE) : TE := fun σ H Q => ta σ H fun x H1 => tb σ H1 fun y H2 => r x y H2 Q
def tUn (r : V → Hp → VK → Prop) (ta : TE) : TE := fun σ H Q => ta σ H fun x H1 => r x H1 Q
def rI (C : Int → Int → Prop) (g : Int → Int → V) : R2 := fun x y H Q => ∃ i j, x = .int i ∧ y = .int j ∧ C i j ∧ Q (g i j) H
def rI0 (g : Int → Int → V) : R2 := fun x y H Q => ∃ i j, x = .int i ∧ y = .int j ∧ Q (g i j) H
def rU (g : Int → V) : V → Hp → VK → Prop := fun x H Q => ∃ i, x = .int i ∧ Q (g i) H
section
variable {X : Cx} {a b c : Expr} {ta tb tc : TE} {pos : Pos}
theorem binT (ha : PE X a ta) (hb : PE X b tb) {pins : List (Addr × Obj)} {s : Shared} {σ : St} {H : Hp} {R : V → V → Hp → Prop} (I : Inv X pins σ H s)
  (h : ta σ H fun x H1 => tb σ H1 fun y H2 => R x y H2) {Q : Value → Shared → Prop} {f : Value → Value → Sem Value}
  (hf : ∀ v u s2 x y H2, Inv X pins σ H2 s2 → RelV x v → RelV y u → R x y H2 → wpAny (model X.prog X.w) X.A (f v u) Q X.xe s2) :
  wpAny (model X.prog X.w) X.A (eval a X.env) (fun v s₁ => wpAny (model X.prog X.w) X.A (eval b X.env) (fun u s₂ => wpAny (model X.prog X.w) X.A (f v u) Q X.xe s₂) X.xe s₁) X.xe s := by
 refine thn (ha pins s σ H _ I h) fun v s1 ⟨x, H1, I1, r1, q1⟩ => ?_
 refine thn (hb pins s1 σ H1 _ I1 q1) fun u s2 ⟨y, H2, I2, r2, q2⟩ => ?_
 exact hf v u s2 x y H2 I2 r1 r2 q2
theorem pe_op {op : Operator} {r : R2} (ho : OpR X (binaryOp op) r) (ha : PE X a ta) (hb : PE X b tb) : PE X (.BinOp a op b pos) (tOp r ta tb) := by
 intro pins s σ H Q I h
 exact wpAny_BinOp (binT ha hb I h fun v u s2 x y H2 I2 rx ry q => ho pins s2 σ H2 x y v u Q I2 rx ry q)
theorem pe_un {op : UnaryOp} {r : V → Hp → VK → Prop} (ho : UnR X (unaryOp op) r) (ha : PE X a ta) : PE X (.UnaryOp op a pos) (tUn r ta) := by
 intro pins s σ H Q I h
 exact UnaryOp_ (thn (ha pins s σ H _ I h) fun v s1 ⟨x, H1, I1, r1, q1⟩ => ho pins s1 σ H1 x v Q I1 r1 q1)
theorem opI {f : Value → Value → Sem Value} {C : Int → Int → Prop} {g : Int → Int → Int}
  (rule : ∀ (i j : Int) (t u : Tok) (s : Shared) (Q : Value → Shared → Prop) (E : Value → Shared → Prop), C i j → Q (.int (g i j) s.toks) { s with toks := s.toks + 1 } → wpAny (model X.prog X.w) X.A (f (.int i t) (.int j u)) Q E s) :
  OpR X f (rI C fun i j => .int (g i j)) := by
 intro pins s σ H x y v u Q I rx ry h
 obtain ⟨i, j, rfl, rfl, hc, q⟩ := h
 obtain ⟨t, rfl⟩ := rx
 obtain ⟨t', rfl⟩ := ry
 exact rule i j t t' s _ _ hc ⟨.int (g i j), H, I.tok _, ⟨_, rfl⟩, q⟩
theorem opI0 {f : Value → Value → Sem Value} {g : Int → Int → Int}
  (rule : ∀ (i j : Int) (t u : Tok) (s : Shared) (Q : Value → Shared → Prop) (E : Value → Shared → Prop), Q (.int (g i j) s.toks) { s with toks := s.toks + 1 } → wpAny (model X.prog X.w) X.A (f (.int i t) (.int j u)) Q E s) :
  OpR X f (rI0 fun i j => .int (g i j)) := by
 intro pins s σ H x y v u Q I rx ry h
 obtain ⟨i, j, rfl, rfl, q⟩ := h
 obtain ⟨t, rfl⟩ := rx
 obtain ⟨t', rfl⟩ := ry
 exact rule i j t t' s _ _ ⟨.int (g i j), H, I.tok _, ⟨_, rfl⟩, q⟩
theorem opB0 {f : Value → Value → Sem Value} {g : Int → Int → Bool}
  (rule : ∀ (i j : Int) (t u : Tok) (s : Shared) (Q : Value → Shared → Prop) (E : Value → Shared → Prop), Q (.bool (g i j)) s → wpAny (model X.prog X.w) X.A (f (.int i t) (.int j u)) Q E s) :
  OpR X f (rI0 fun i j => .bl (g i j)) := by
 intro pins s σ H x y v u Q I rx ry h
 obtain ⟨i, j, rfl, rfl, q⟩ := h
 obtain ⟨t, rfl⟩ := rx
 obtain ⟨t', rfl⟩ := ry
 exact rule i j t t' s _ _ ⟨.bl (g i j), H, I, rfl, q⟩
def CDiv (i j : Int) : Prop := 0 < j ∧ j < 1073741824
def CMul (i j : Int) : Prop := (-(2 ^ 64) < i ∧ i < 2 ^ 64) ∨ (-(2 ^ 64) < j ∧ j < 2 ^ 64)
theorem CMul.ok {i j : Int} (h : CMul i j) : IntMulOk i j := by
 rcases h with ⟨h1, h2⟩ | ⟨h1, h2⟩
 ·exact .of_left (intBits_le_64 h1 h2)
 ·exact .of_right (intBits_le_64 h1 h2)
theorem op_add : OpR X (binaryOp .Add) (rI0 fun i j => .int (i + j)) := opI0 fun _ _ _ _ _ _ _ q => add_int q
theorem op_sub : OpR X (binaryOp .Sub) (rI0 fun i j => .int (i - j)) := opI0 fun _ _ _ _ _ _ _ q => sub_int q
theorem op_mul : OpR X (binaryOp .Mult) (rI CMul fun i j => .int (i * j)) := opI fun _ _ _ _ _ _ _ hc q => mul_int q hc.ok
theorem op_fdiv : OpR X (binaryOp .FloorDiv) (rI CDiv fun i j => .int (i / j)) := opI fun i j _ _ _ _ _ hc q => by
 have h1 : (0 : Int) < j := hc.1
 have h2 : j < 1073741824 := hc.2
 exact floordiv_int (by omega) (by rw [Int.fdiv_eq_ediv_of_nonneg i (by omega)]; exact q) (.inl (PyProof.noPylong_small (by omega)))
theorem op_mod : OpR X (binaryOp .Mod) (rI (fun _ j => 0 < j) fun i j => .int (i % j)) := opI fun i j _ _ _ _ _ hc q => by
 have h1 : (0 : Int) < j := hc
 exact mod_int' (by omega) (by rw [Int.fmod_eq_emod_of_nonneg i (by omega)]; exact q)
theorem unI {f : Value → Sem Value} {g : Int → Int}
  (rule : ∀ (i : Int) (t : Tok) (s : Shared) (Q : Value → Shared → Prop) (E : Value → Shared → Prop), Q (.int (g i) s.toks) { s with toks := s.toks + 1 } → wpAny (model X.prog X.w) X.A (f (.int i t)) Q E s) :
  UnR X f (rU fun i => .int (g i)) := by
 intro pins s σ H x v Q I rx h
 obtain ⟨i, rfl, q⟩ := h
 obtain ⟨t, rfl⟩ := rx
 exact rule i t s _ _ ⟨.int (g i), H, I.tok _, ⟨_, rfl⟩, q⟩
theorem un_neg : UnR X (unaryOp .USub) (rU fun i => .int (-i)) := unI fun _ _ _ _ _ q => neg_int q
end
def scal : V → V → Bool
 | .non, .non => true | .non, .int _ => true | .int _, .non => true | .non, .bl _ => true | .bl _, .non => true | .non, .str _ => true | .str _, .non => true
 | .int _, .int _ => true | .bl _, .bl _ => true | .str _, .str _ => true | .byt _, .byt _ => true
 | .int _, .str _ => true | .str _, .int _ => true | .bl _, .str _ => true | .str _, .bl _ => true
 | _, _ => false
def rEq : R2 := fun x y H Q => scal x y = true ∧ Q (.bl (decide (x = y))) H
def rNe : R2 := fun x y H Q => scal x y = true ∧ Q (.bl (!decide (x = y))) H
theorem zR3 {i j : Int} : decide (V.int i = V.int j) = (i == j) := by
 rw [Bool.eq_iff_iff]
 simp
theorem dec_bl {i j : Bool} : decide (V.bl i = V.bl j) = (i == j) := by
 rw [Bool.eq_iff_iff]
 simp
theorem zR2 {i j : Str} : decide (V.str i = V.str j) = (i == j) := by
 rw [Bool.eq_iff_iff]
 simp
theorem yo0 {i j : Array UInt8} : decide (V.byt i = V.byt j) = (i.toList == j.toList) := by
 rw [Bool.eq_iff_iff]
 cases i
 cases j
 simp
section
variable {X : Cx} {a b c : Expr} {ta tb tc : TE} {pos : Pos}
theorem zg2 {pins : List (Addr × Obj)} {σ : St} {H : Hp} {s : Shared} {Q : VK} {k k' : Bool} (I : Inv X pins σ H s) (q : Q (.bl k) H) (e : k = k') : EP X pins σ Q (.bool k') s := by
 subst e
 exact ⟨.bl k, H, I, rfl, q⟩
theorem op_eq : OpR X (compareOp .Eq) rEq := by
 intro pins s σ H x y v u Q I rx ry h
 obtain ⟨hs, q⟩ := h
 cases x with
 | non =>
  cases rx
  cases y with
  | non => cases ry; exact PySem.EqNone.eq_none_none (zg2 I q (by simp))
  | bl j => cases ry; exact PySem.EqNone.eq_none_bool (zg2 I q (by simp))
  | int j => obtain ⟨t', rfl⟩ := ry; exact PySem.EqNone.eq_none_int (zg2 I q (by simp))
  | str j => obtain ⟨t', rfl⟩ := ry; exact PySem.EqNone.eq_none_str (zg2 I q (by simp))
  | _ => exact absurd (show false = true from hs) Bool.false_ne_true
 | bl i =>
  cases rx
  cases y with
  | non => cases ry; exact PySem.EqNone.eq_bool_none (zg2 I q (by simp))
  | bl j => cases ry; exact eq_bool (zg2 I q dec_bl)
  | str j => obtain ⟨t', rfl⟩ := ry; exact PySem.EqMixed.eq_bool_str (zg2 I q (by simp))
  | _ => exact absurd (show false = true from hs) Bool.false_ne_true
 | int i =>
  obtain ⟨t, rfl⟩ := rx
  cases y with
  | non => cases ry; exact PySem.EqNone.eq_int_none (zg2 I q (by simp))
  | int j => obtain ⟨t', rfl⟩ := ry; exact eq_int (zg2 I q zR3)
  | str j => obtain ⟨t', rfl⟩ := ry; exact PySem.EqMixed.eq_int_str (zg2 I q (by simp))
  | _ => exact absurd (show false = true from hs) Bool.false_ne_true
 | str i =>
  obtain ⟨t, rfl⟩ := rx
  cases y with
  | non => cases ry; exact PySem.EqNone.eq_str_none (zg2 I q (by simp))
  | bl j => cases ry; exact PySem.EqMixed.eq_str_bool (zg2 I q (by simp))
  | int j => obtain ⟨t', rfl⟩ := ry; exact PySem.EqMixed.eq_str_int (zg2 I q (by simp))
  | str j => obtain ⟨t', rfl⟩ := ry; exact eq_str (zg2 I q zR2)
  | _ => exact absurd (show false = true from hs) Bool.false_ne_true
 | byt i =>
  obtain ⟨t, rfl⟩ := rx
  cases y with
  | byt j => obtain ⟨t', rfl⟩ := ry; exact PySem.W.eq_bytes (zg2 I q yo0)
  | _ => exact absurd (show false = true from hs) Bool.false_ne_true
 | _ => cases y <;> exact absurd (show false = true from hs) Bool.false_ne_true
theorem op_ne : OpR X (compareOp .NotEq) rNe := by
 intro pins s σ H x y v u Q I rx ry h
 obtain ⟨hs, q⟩ := h
 cases x with
 | non =>
  cases rx
  cases y with
  | non => cases ry; exact PySem.EqNone.ne_none_none (zg2 I q (by simp))
  | bl j => cases ry; exact PySem.EqNone.ne_none_bool (zg2 I q (by simp))
  | int j => obtain ⟨t', rfl⟩ := ry; exact PySem.EqNone.ne_none_int (zg2 I q (by simp))
  | str j => obtain ⟨t', rfl⟩ := ry; exact PySem.EqNone.ne_none_str (zg2 I q (by simp))
  | _ => exact absurd (show false = true from hs) Bool.false_ne_true
 | bl i =>
  cases rx
  cases y with
  | non => cases ry; exact PySem.EqNone.ne_bool_none (zg2 I q (by simp))
  | bl j => cases ry; exact ne_bool (zg2 I q (congrArg not dec_bl))
  | str j => obtain ⟨t', rfl⟩ := ry; exact PySem.EqMixed.ne_bool_str (zg2 I q (by simp))
  | _ => exact absurd (show false = true from hs) Bool.false_ne_true
 | int i =>
  obtain ⟨t, rfl⟩ := rx
  cases y with
  | non => cases ry; exact PySem.EqNone.ne_int_none (zg2 I q (by simp))
  | int j => obtain ⟨t', rfl⟩ := ry; exact ne_int (zg2 I q (congrArg not zR3))
  | str j => obtain ⟨t', rfl⟩ := ry; exact PySem.EqMixed.ne_int_str (zg2 I q (by simp))
  | _ => exact absurd (show false = true from hs) Bool.false_ne_true
 | str i =>
  obtain ⟨t, rfl⟩ := rx
  cases y with
  | non => cases ry; exact PySem.EqNone.ne_str_none (zg2 I q (by simp))
  | bl j => cases ry; exact PySem.EqMixed.ne_str_bool (zg2 I q (by simp))
  | int j => obtain ⟨t', rfl⟩ := ry; exact PySem.EqMixed.ne_str_int (zg2 I q (by simp))
  | str j => obtain ⟨t', rfl⟩ := ry; exact ne_str (zg2 I q (congrArg not zR2))
  | _ => exact absurd (show false = true from hs) Bool.false_ne_true
 | byt i =>
  obtain ⟨t, rfl⟩ := rx
  cases y with
  | byt j => obtain ⟨t', rfl⟩ := ry; exact PySem.W.ne_bytes (zg2 I q (congrArg not yo0))
  | _ => exact absurd (show false = true from hs) Bool.false_ne_true
 | _ => cases y <;> exact absurd (show false = true from hs) Bool.false_ne_true
theorem op_lt : OpR X (compareOp .Lt) (rI0 fun i j => .bl (decide (i < j))) := opB0 fun _ _ _ _ _ _ _ q => lt_int q
theorem op_gt : OpR X (compareOp .Gt) (rI0 fun i j => .bl (decide (j < i))) := opB0 fun _ _ _ _ _ _ _ q => gt_int q
theorem op_ge : OpR X (compareOp .GtE) (rI0 fun i j => .bl (decide (j ≤ i))) := opB0 fun _ _ _ _ _ _ _ q => ge_int q
theorem op_in_str : OpR X (compareOp .In) (fun x y H Q => ∃ i j, x = .str i ∧ y = .str j ∧ Q (.bl (!(Builtin.Str.occurrences j i 0 j.length 1).isEmpty)) H) := by
 intro pins s σ H x y v u Q I rx ry h
 obtain ⟨i, j, rfl, rfl, q⟩ := h
 obtain ⟨t, rfl⟩ := rx
 obtain ⟨t', rfl⟩ := ry
 exact in_str (zg2 I q rfl)
theorem op_isN : OpR X (compareOp .Is) (fun x y H Q => y = .non ∧ Q (.bl (decide (x = .non))) H) := by
 intro pins s σ H x y v u Q I rx ry h
 obtain ⟨rfl, q⟩ := h
 cases ry
 refine is_none_gen (zg2 I q ?_)
 cases x <;> first
  | (cases rx; rfl)
  | (obtain ⟨t, rfl⟩ := rx; rfl)
theorem op_notN : OpR X (compareOp .IsNot) (fun x y H Q => y = .non ∧ Q (.bl (!decide (x = .non))) H) := by
 intro pins s σ H x y v u Q I rx ry h
 obtain ⟨rfl, q⟩ := h
 cases ry
 refine isnot_none_gen (zg2 I q ?_)
 cases x <;> first
  | (cases rx; rfl)
  | (obtain ⟨t, rfl⟩ := rx; rfl)
theorem OpR.or {f : Value → Value → Sem Value} {r r' : R2} (h : OpR X f r) (h' : OpR X f r') : OpR X f (fun x y H Q => r x y H Q ∨ r' x y H Q) := by
 intro pins s σ H x y v u Q I rx ry q
 rcases q with q | q
 ·exact h pins s σ H x y v u Q I rx ry q
 ·exact h' pins s σ H x y v u Q I rx ry q
theorem ze1 (b : Expr) {op : CmpOp} (h : op ≠ .In := by decide) (h2 : op ≠ .NotIn := by decide) : behindInMarks op b = false := by
 have e1 : (op == CmpOp.In) = false := by cases op <;> first | rfl | exact absurd rfl h
 have e2 : (op == CmpOp.NotIn) = false := by cases op <;> first | rfl | exact absurd rfl h2
 cases b <;> simp [behindInMarks, e1, e2]
theorem pe_cmpR {op : CmpOp} {r : R2} (ho : OpR X (compareOp op) r) (ha : PE X a ta) (hb : PE X b tb) (hm : behindInMarks op b = false) : PE X (.Compare a [op] [b] pos) (tOp r ta tb) := by
 intro pins s σ H Q I h
 exact wpAny_Compare1 (binT ha hb I h fun v u s2 x y H2 I2 rx ry q => ho pins s2 σ H2 x y v u Q I2 rx ry q) hm
def tTest (t : TE) : TT := fun σ H Q => t σ H fun x H' => ∃ k, x = .bl k ∧ Q k H'
theorem zX1 {op : CmpOp} {r : R2} (ho : OpR X (compareOp op) r) (ha : PE X a ta) (hb : PE X b tb) (hm : behindInMarks op b = false) : PT X (.Compare a [op] [b] pos) (tTest (tOp r ta tb)) := by
 intro pins s σ H Q I h
 refine wpAny_isTrue_Compare1 (thn (ha pins s σ H _ I h) fun v s1 ⟨x, H1, I1, r1, q1⟩ => thn (hb pins s1 σ H1 _ I1 q1) fun u s2 ⟨y, H2, I2, r2, q2⟩ =>
  thn (ho pins s2 σ H2 x y v u _ I2 r1 r2 q2) fun c s3 ⟨z, H3, I3, r3, k, e, q3⟩ => ?_) hm
 subst e
 cases r3
 exact wpAny_truthy_bool ⟨H3, I3, q3⟩
def TruV (K : PySem.W.Frag) (x : V) (H : Hp) (k : Bool) : Prop :=
 match x with
 | .non => k = false
 | .bl b => k = b
 | .int i => k = (i != 0)
 | .str y => y.length ≤ sizeLine ∧ k = ((y.length : Int) != 0)
 | .byt y => y.size ≤ sizeLine ∧ k = ((y.size : Int) != 0)
 | .ref p => (∃ xs, SqL K H p xs ∧ k = !xs.isEmpty) ∨ (∃ xs, SqT K H p xs ∧ k = !xs.isEmpty) ∨ ∃ kvs, H p = some (.dK kvs) ∧ k = !kvs.isEmpty
 | _ => False
theorem ye7 {κ : Type} {kvs : List (κ × V)} {vs : List (κ × Value)} (r : KV kvs vs) : (!vs.isEmpty) = !kvs.isEmpty := by
 cases r <;> rfl
theorem zM1 {xs : List V} {its : List Value} (r : Vals xs its) : (!its.toArray.isEmpty) = !xs.isEmpty := by
 cases r <;> simp
theorem zI1 : (sizeLine : Nat) < 2 ^ 63 := by rw [sizeLine_eq]; decide
theorem tru_ok : TruR X (fun x H Q => ∃ k, TruV X.K x H k ∧ Q k H) := by
 intro pins s σ H x v Q I rx h
 obtain ⟨k, e, q⟩ := h
 have hl := zI1
 have hs : sizeLine = 16777216 := sizeLine_eq
 cases x with
 | non =>
  cases rx
  have e' : k = false := e
  subst e'
  exact truthy_none ⟨H, I, q⟩
 | bl b =>
  cases rx
  have e' : k = b := e
  subst e'
  exact wpAny_truthy_bool ⟨H, I, q⟩
 | int i =>
  obtain ⟨t, rfl⟩ := rx
  have e' : k = (i != 0) := e
  subst e'
  exact PySem.P.truthy_int ⟨H, I, q⟩
 | str y =>
  obtain ⟨t, rfl⟩ := rx
  obtain ⟨hy, e'⟩ : y.length ≤ sizeLine ∧ k = ((y.length : Int) != 0) := e
  subst e'
  exact PySem.P.truthy_str (by omega) ⟨H, I.tok _, q⟩
 | byt y =>
  obtain ⟨t, rfl⟩ := rx
  obtain ⟨hy, e'⟩ : y.size ≤ sizeLine ∧ k = ((y.size : Int) != 0) := e
  subst e'
  exact PySem.W.truthy_bytes (by omega) ⟨H, I.tok _, q⟩
 | ref p =>
  cases rx
  have e' : (∃ xs, SqL X.K H p xs ∧ k = !xs.isEmpty) ∨ (∃ xs, SqT X.K H p xs ∧ k = !xs.isEmpty) ∨ ∃ kvs, H p = some (.dK kvs) ∧ k = !kvs.isEmpty := e
  rcases e' with ⟨xs, hx, e'⟩ | ⟨xs, hx, e'⟩ | ⟨kvs, hx, e'⟩
  ·subst e'
   obtain ⟨its, r, pl, hz⟩ := I.list hx
   have hlen := r.length
   exact wpAny_truthy_list pl.isList (by simp only [List.size_toArray]; omega) ⟨H, I.tok _, by rw [zM1 r]; exact q⟩
  ·subst e'
   obtain ⟨its, r, pl, hz⟩ := I.tuple hx
   have hlen := r.length
   exact truthy_tuple pl (by simp only [List.size_toArray]; omega) ⟨H, I.tok _, by rw [zM1 r]; exact q⟩
  ·subst e'
   obtain ⟨hz, hS, vs, r, m⟩ : kvs.length ≤ sizeLine ∧ (p == sysModules) = false ∧ ∃ vs, KV kvs vs ∧ s.heap.DictOf (zY1 X.prog X.w) p vs := I.hok p _ hx
   have hlen : kvs.length = vs.length := Paired.length r
   exact wpAny_truthy_dict hS m (by omega) ⟨H, I.tok _, by rw [ye7 r]; exact q⟩
 | _ => exact (show False from e).elim
theorem pt_truth (ha : PE X a ta) (he : ∀ whole, isTrue a X.env whole = (do let v ← whole; standAt a.pos; holding [v] (truthy v))) :
  PT X a (fun σ H Q => ta σ H fun x H' => ∃ k, TruV X.K x H' k ∧ Q k H') := by
 intro pins s σ H Q I h
 exact isTrue_plain (thn (ha pins s σ H _ I h) fun v s1 ⟨x, H1, I1, r1, q1⟩ => tru_ok pins s1 σ H1 x v Q I1 r1 q1) (he _)
theorem op_add_str : OpR X (binaryOp .Add) (fun x y H Q => ∃ i j, x = .str i ∧ y = .str j ∧ i.length + j.length ≤ sizeLine ∧ Q (.str (i ++ j)) H) := by
 intro pins s σ H x y v u Q I rx ry h
 obtain ⟨i, j, rfl, rfl, hz, q⟩ := h
 obtain ⟨t, rfl⟩ := rx
 obtain ⟨t', rfl⟩ := ry
 exact add_str (fun t' tk => ⟨.str (i ++ j), H, I.tok _, ⟨_, rfl⟩, q⟩) hz
theorem vals1 {x : V} {us : List Value} (r : Vals [x] us) : ∃ u, us = [u] ∧ RelV x u := by
 cases r with
 | cons r1 r2 => cases r2; exact ⟨_, rfl, r1⟩
theorem vals2 {x y : V} {us : List Value} (r : Vals [x, y] us) : ∃ u w', us = [u, w'] ∧ RelV x u ∧ RelV y w' := by
 cases r with
 | cons r1 r2 =>
  cases r2 with
  | cons r3 r4 => cases r4; exact ⟨_, _, rfl, r1, r3⟩
theorem yo6 (hc : X.calm = true) : CallR X (.builtin "max") (fun xs H Q => ∃ i j, xs = [.int i, .int j] ∧ Q (.int (if j > i then j else i)) H) := by
 intro pins s σ H xs us Q I r h
 obtain ⟨i, j, rfl, q⟩ := h
 obtain ⟨u, w', rfl, ⟨t, rfl⟩, ⟨t', rfl⟩⟩ := vals2 r
 refine max_two_ints (I.ok.hd hc) fun h' tk k => ⟨_, H, I.kept k, ?_, q⟩
 by_cases hj : j > i
 ·rw [if_pos hj, if_pos hj]; exact ⟨_, rfl⟩
 ·rw [if_neg hj, if_neg hj]; exact ⟨_, rfl⟩
theorem yo5 (hc : X.calm = true) : CallR X (.builtin "min") (fun xs H Q => ∃ i j, xs = [.int i, .int j] ∧ Q (.int (if j < i then j else i)) H) := by
 intro pins s σ H xs us Q I r h
 obtain ⟨i, j, rfl, q⟩ := h
 obtain ⟨u, w', rfl, ⟨t, rfl⟩, ⟨t', rfl⟩⟩ := vals2 r
 refine min_two_ints (I.ok.hd hc) fun h' tk k => ⟨_, H, I.kept k, ?_, q⟩
 by_cases hj : j < i
 ·rw [if_pos hj, if_pos hj]; exact ⟨_, rfl⟩
 ·rw [if_neg hj, if_neg hj]; exact ⟨_, rfl⟩
end
structure ObjM (h : Heap) (x dx C : Addr) (mA : Str → Option Value) : Prop where
 obj : h.get? x = some (PySem.W.instObj C dx)
 ns : h.Ns1 dx mA
 ne : dx ≠ x
theorem yl8 {h : Heap} {dx : Addr} {mA : Str → Option Value} (n : h.Ns1 dx mA) : ∃ od, h.get? dx = some od ∧ ∀ name, PySem.W.lookIn name od = some (mA name) := by
 obtain ⟨o, es, ep, ho, hd, hk, _, hm⟩ := n
 refine ⟨o, ho, fun name => ?_⟩
 have e := hm name
 unfold nsFind findBy at e
 rw [← Array.find?_toList] at e
 unfold PySem.W.lookIn
 rw [hd]
 dsimp only
 split
 ·rename_i y q
  rw [q] at e
  exact congrArg some e
 ·rename_i q
  rw [q] at e
  have a : es.toList.any (·.refKey) = false := by
   rw [List.any_eq_false]
   intro y hy
   obtain ⟨z, t, hkey⟩ := hk y (Array.mem_toList_iff.mp hy)
   simp [DictEntry.refKey, hkey]
  have a' : ¬ es.toList.any (·.refKey) = true := by rw [a]; exact Bool.false_ne_true
  rw [if_neg a']
  exact congrArg some e
theorem ObjM.look {h : Heap} {x dx C : Addr} {mA : Str → Option Value} (I : ObjM h x dx C mA) : ∃ od, PySem.W.InstAt h x (PySem.W.instObj C dx) C (some od) ∧ ∀ name, PySem.W.lookIn name od = some (mA name) :=
 let ⟨od, ho, hl⟩ := yl8 I.ns
 ⟨od, ⟨I.obj, rfl, rfl, ho⟩, hl⟩
section
variable {prog : Program} {w : World} {A : Around} {E : Value → Shared → Prop} {s : Shared} {K : PySem.W.Frag} {x dx C f : Addr} {mA : Str → Option Value} {name : Str} {v : Value}
theorem get_map {expr : Bool} {Q : Value → Shared → Prop} (X : K.In s.heap) (I : ObjM s.heap x dx C mA) (hg : PySem.W.plainGet K C name = true) (hh : PySem.W.hasDictIn K C = true)
  (ha : PySem.W.findIn K (.ref C) name = some none) (hv : mA name = some v) (hv' : PySem.W.handedIn v = true) (h : Q v { s with toks := s.toks + 1 }) :
  wpAny (model prog w) A (getAttr (.ref x) name expr) Q E s := by
 obtain ⟨od, J, hl⟩ := I.look
 exact PySem.W.get_value X J (PySem.W.plainGet_of hg).1 (PySem.W.findObj_own hh ha rfl (by rw [hl, hv])) hv' h
theorem get_meth {pl : Sem Bool} {Q : Value × List Value → Shared → Prop} (X : K.In s.heap) (I : ObjM s.heap x dx C mA) (hg : PySem.W.plainGet K C name = true)
  (hf : PySem.W.findIn K (.ref C) name = some (some (.ref f))) (ht : PySem.W.isFn K (.ref f) = true) (hv : mA name = none) (h : Q (.ref f, [.ref x]) s) :
  wpAny (model prog w) A (getMethod (.ref x) name pl) Q E s := by
 obtain ⟨od, J, hl⟩ := I.look
 exact PySem.W.method_fn X J (PySem.W.plainGet_of hg).1 (PySem.W.plainGet_of hg).2 hf (beq_iff_eq.mp ht) (by show (PySem.W.lookIn name od).map (·.isSome) = some false; rw [hl, hv]; rfl) h
theorem set_map {ns : List Str} {Q : Unit → Shared → Prop} (X : K.In s.heap) (I : ObjM s.heap x dx C mA)
  (hs : PySem.W.findIn K (.ref C) "__setattr__" = some (some (.builtin "object.__setattr__"))) (hp : PySem.W.plainOver K C = true) (ht : PySem.W.takerIn K C name = some none) (hh : PySem.W.hasDictIn K C = true)
  (hw : PySem.Within mA ns) (hsz : ns.length ≤ sizeLine)
  (h : ∀ h', ObjM h' x dx C (fun y => if y = name then some v else mA y) → Heap.SameBut dx s.heap h' → Q () { s with heap := h', toks := s.toks + 2 }) :
  wpAny (model prog w) A (setAttr (.ref x) name v) Q E s := by
 obtain ⟨od, J, hl⟩ := I.look
 refine PySem.W.set_plain X J hs (PySem.W.osa_open (s := { s with toks := s.toks + 1 }) (r := none) X J hp ht fun b => ?_)
 obtain ⟨cd, hc, hd'⟩ := PySem.W.any_some hh
 have hx : s.heap.get? x = some ⟨.ref C, some dx, .plain, #[]⟩ := I.obj
 refine wpAny_bind (wpAny_pure (wpAny_bind (wpAny_bind (wpAny_loadPart hx (wpAny_bind (PySem.W.Looks.here (s := { s with toks := s.toks + 1 }) (PySem.W.looks_clsIn X hc) ?_))))))
 rw [hd']
 refine wpAny_pure (a := some dx) (wpAny_bind (wpAny_pure (wpAny_bind ?_)))
 refine wpAny_nsSet1 (s := { s with toks := s.toks + 1 }) I.ns fun h' hn2 hs2 => ?_
 obtain ⟨oD, esD, epD, hoD, hdD, hcD⟩ := hn2.count (PySem.Within.cons name v hw)
 refine wpAny_bind (wpAny_lookBehind hoD (by rw [hdD]; exact pastItsLine_dict (Nat.le_trans hcD (by rw [List.length_cons]; omega))) ?_)
 exact wpAny_pure (h _ ⟨(hs2.2 _ (Ne.symm I.ne)).trans I.obj, hn2, I.ne⟩ hs2)
theorem make_map {R : Result → Shared → Prop} {vs : List Value} {kw : List (Str × Value)} (X : K.In s.heap) (hm : PySem.W.makesIn K C = true)
  (hi : PySem.W.findIn K (.ref C) "__init__" = some (some (.ref f))) (hf : PySem.W.typeIn K (.ref f) = some (.type "function"))
  (h : codeAny (model prog w) (A.under (.builtin "type.__call__" ⟨.ref C :: vs, kw⟩)) (.call (.ref f) ⟨.ref (s.heap.objs.size + 1) :: vs, kw⟩) (PySem.W.InitBack (s.heap.objs.size + 1) R)
   { s with heap := (s.heap.push PySem.W.emptyDict).push (PySem.W.instObj C s.heap.objs.size) }) :
  codeAny (model prog w) A (.call (.ref C) ⟨vs, kw⟩) R s := by
 obtain ⟨hh, g, d, t, os⟩ := s
 exact PySem.W.make_core (PySem.W.makes_of X hm) (PySem.W.looks_findIn X hi) (fun self => PySem.W.bind_fn X self hf) (.inl rfl) h
end
def putF (f : Str) (v : V) : List (Str × V) → List (Str × V)
 | [] => [(f, v)]
 | (g, x) :: r => if g = f then (g, v) :: r else (g, x) :: putF f v r
theorem zI0 (f g : Str) (v : V) : ∀ fs : List (Str × V), (putF f v fs).lookup g = if g = f then some v else fs.lookup g
 | [] => by
  show List.lookup g [(f, v)] = _
  by_cases h : g = f
  ·have hb : (g == f) = true := beq_iff_eq.mpr h
   simp only [List.lookup, hb, if_pos h]
  ·have hb : (g == f) = false := beq_eq_false_iff_ne.mpr h
   simp only [List.lookup, hb, if_neg h]
 | (k, x) :: r => by
  have ih := zI0 f g v r
  rw [show putF f v ((k, x) :: r) = (if k = f then (k, v) :: r else (k, x) :: putF f v r) from rfl]
  by_cases hk : k = f
  ·rw [if_pos hk]
   by_cases h : g = k
   ·have hb : (g == k) = true := beq_iff_eq.mpr h
    simp only [List.lookup, hb, if_pos (h.trans hk)]
   ·have hb : (g == k) = false := beq_eq_false_iff_ne.mpr h
    simp only [List.lookup, hb, if_neg (fun e : g = f => h (e.trans hk.symm))]
  ·rw [if_neg hk]
   by_cases h : g = k
   ·have hb : (g == k) = true := beq_iff_eq.mpr h
    simp only [List.lookup, hb, if_neg (fun e : g = f => hk (h.symm.trans e))]
   ·have hb : (g == k) = false := beq_eq_false_iff_ne.mpr h
    simp only [List.lookup, hb]
    exact ih
theorem zI5 (f : Str) (v : V) : ∀ fs : List (Str × V), f ∈ (putF f v fs).map (·.1) ∧ ∀ g, g ∈ fs.map (·.1) → g ∈ (putF f v fs).map (·.1)
 | [] => ⟨by simp [putF], fun g h => by simp at h⟩
 | (k, x) :: r => by
  obtain ⟨i1, i2⟩ := zI5 f v r
  rw [show putF f v ((k, x) :: r) = (if k = f then (k, v) :: r else (k, x) :: putF f v r) from rfl]
  by_cases hk : k = f
  ·rw [if_pos hk]
   subst hk
   exact ⟨by simp, fun g h => by simpa using h⟩
  ·rw [if_neg hk]
   refine ⟨?_, fun g h => ?_⟩
   ·rw [List.map_cons]
    exact List.mem_cons_of_mem _ i1
   ·rw [List.map_cons] at h ⊢
    rcases List.mem_cons.mp h with e | e
    ·exact List.mem_cons.mpr (.inl e)
    ·exact List.mem_cons_of_mem _ (i2 g e)
theorem zI2 (f : Str) (v : V) : ∀ fs : List (Str × V), (putF f v fs).length ≤ fs.length + 1
 | [] => by simp [putF]
 | (k, x) :: r => by
  have ih := zI2 f v r
  rw [show putF f v ((k, x) :: r) = (if k = f then (k, v) :: r else (k, x) :: putF f v r) from rfl]
  by_cases hk : k = f
  ·rw [if_pos hk, List.length_cons, List.length_cons]; omega
  ·rw [if_neg hk, List.length_cons, List.length_cons]; omega
theorem RelO.some_of {v : V} {o : Option Value} (r : RelO (some v) o) : ∃ u, o = some u ∧ RelV v u := by
 cases o with
 | none => exact (show False from r).elim
 | some u => exact ⟨u, rfl, r⟩
theorem RelO.none_of {o : Option Value} (r : RelO none o) : o = none := by
 cases o with
 | none => rfl
 | some u => exact (show False from r).elim
theorem yn1 {v : V} {u : Value} (r : RelV v u) : PySem.W.handedIn u = true := by
 cases v with
 | non => cases (show u = Value.none from r); rfl
 | bl b => cases (show u = Value.bool b from r); rfl
 | int i => obtain ⟨t, e⟩ := (show ∃ t, u = Value.int i t from r); cases e; rfl
 | str x => obtain ⟨t, e⟩ := (show ∃ t, u = Value.str x t from r); cases e; rfl
 | byt b => obtain ⟨t, e⟩ := (show ∃ t, u = Value.bytes b t from r); cases e; rfl
 | flt b => obtain ⟨t, e⟩ := (show ∃ t, u = Value.float b t from r); cases e; rfl
 | ref a => cases (show u = Value.ref a from r); rfl
 | ty n => cases (show u = Value.type n from r); rfl
section
variable {P : Program} {w : World} {H H' : Hp} {h h' : Heap} {a C dx : Addr} {fs fs' : List (Str × V)}
theorem zY6 (hok : HOk P w H h) (e : H a = some (.ins C dx fs)) : ∃ mA, ObjM h a dx C mA ∧ (∀ f, RelO (fs.lookup f) (mA f)) ∧ PySem.Within mA (fs.map (·.1)) ∧ fs.length ≤ 1000 ∧ H dx = some (.own a) := by
 obtain ⟨d, z, ne, ob, mA, n, r, q⟩ := (show ObjOk P w H h a (.ins C dx fs) from hok a _ e)
 exact ⟨mA, ⟨ob, n, ne⟩, r, q, z, d⟩
end
structure Cls (K : PySem.W.Frag) (C : Addr) : Prop where
 pg : PySem.W.plainGet K C Str.empty = true
 hd : PySem.W.hasDictIn K C = true
 po : PySem.W.plainOver K C = true
 sa : PySem.W.findIn K (.ref C) "__setattr__" = some (some (.builtin "object.__setattr__"))
theorem Cls.get {K : PySem.W.Frag} {C : Addr} (c : Cls K C) (f : Str) : PySem.W.plainGet K C f = true := c.pg
def NoAttr (K : PySem.W.Frag) (C : Addr) (f : Str) : Prop := PySem.W.findIn K (.ref C) f = some none
theorem NoAttr.taker {K : PySem.W.Frag} {C : Addr} {f : Str} (n : NoAttr K C f) : PySem.W.takerIn K C f = some none := by
 unfold PySem.W.takerIn
 rw [show PySem.W.findIn K (.ref C) f = some none from n]
 rfl
structure Meth (K : PySem.W.Frag) (C : Addr) (m : Str) (f : Addr) : Prop where
 at_ : PySem.W.findIn K (.ref C) m = some (some (.ref f))
 fn : PySem.W.isFn K (.ref f) = true
 kp : PySem.W.keepIn K (.ref f) = true
section
variable {X : Cx} {pins : List (Addr × Obj)} {σ : St} {H : Hp} {s : Shared} {a C dx : Addr} {fs : List (Str × V)} {f : Str} {v : V} {A : Around} {E : Value → Shared → Prop}
theorem ye8 {b : Bool} {Q : Value → Shared → Prop} (I : Inv X pins σ H s) (e : H a = some (.ins C dx fs)) (c : Cls X.K C) (n : NoAttr X.K C f) (l : fs.lookup f = some v)
  (h : ∀ u s', Inv X pins σ H s' → RelV v u → Q u s') : wpAny (model X.prog X.w) A (getAttr (.ref a) f b) Q E s := by
 obtain ⟨mA, O, r, _, _, _⟩ := zY6 I.hok e
 obtain ⟨u, hu, ru⟩ := RelO.some_of (v := v) (o := mA f) (by rw [← l]; exact r f)
 exact get_map I.kIn O (c.get f) c.hd n hu (yn1 ru) (h u _ (I.tok _) ru)
theorem zM3 {m : Str} {g : Addr} {pl : Sem Bool} {Q : Value × List Value → Shared → Prop} (I : Inv X pins σ H s) (e : H a = some (.ins C dx fs)) (c : Cls X.K C) (k : Meth X.K C m g) (l : fs.lookup m = none)
  (h : Q (.ref g, [.ref a]) s) : wpAny (model X.prog X.w) A (getMethod (.ref a) m pl) Q E s := by
 obtain ⟨mA, O, r, _, _, _⟩ := zY6 I.hok e
 have hn : mA m = none := RelO.none_of (by rw [← l]; exact r m)
 exact get_meth I.kIn O (c.get m) k.at_ k.fn hn h
theorem yd9 {y : V} {u : Value} {Q : Unit → Shared → Prop} (I : Inv X pins σ H s) (e : H a = some (.ins C dx fs)) (c : Cls X.K C) (n : NoAttr X.K C f) (hl : fs.length < 1000) (ry : RelV y u)
  (h : ∀ s', Inv X pins σ (upd H a (.ins C dx (putF f y fs))) s' → Q () s') : wpAny (model X.prog X.w) A (setAttr (.ref a) f u) Q E s := by
 obtain ⟨mA, O, r, wi, _, ho⟩ := zY6 I.hok e
 have hz : (fs.map (·.1)).length ≤ sizeLine := by rw [List.length_map, sizeLine_eq]; omega
 refine set_map I.kIn O c.sa c.po n.taker c.hd wi hz fun h' O' sb => h _ ?_
 have hd : ∃ o, h'.get? dx = some o := let ⟨o, _, _, e', _⟩ := O'.ns; ⟨o, e'⟩
 refine I.write (x := a) (e := dx) (by rw [e]; exact True.intro) (.inr ho) (fun b q hb z => (sb.2 b hb).trans z) hd ?_
 refine ⟨by rw [zb3 O.ne]; exact ho, ?_, O.ne, O'.obj, _, O'.ns, fun g => ?_, fun g hg => ?_⟩
 ·have := zI2 f y fs; omega
 ·show RelO ((putF f y fs).lookup g) (if g = f then some u else mA g)
  rw [zI0]
  by_cases q : g = f
  ·rw [if_pos q, if_pos q]; exact ry
  ·rw [if_neg q, if_neg q]; exact r g
 ·by_cases q : g = f
  ·rw [q]; exact (zI5 f y fs).1
  ·refine (zI5 f y fs).2 g (wi g fun z => hg ?_)
   show (if g = f then some u else mA g) = none
   rw [if_neg q]; exact z
theorem Inv.made (I : Inv X pins σ H s) : Inv X pins σ (upd (upd H s.heap.objs.size (.own (s.heap.objs.size + 1))) (s.heap.objs.size + 1) (.ins C s.heap.objs.size []))
  { s with heap := (s.heap.push PySem.W.emptyDict).push (PySem.W.instObj C s.heap.objs.size) } := by
 have e1 : (s.heap.push PySem.W.emptyDict).get? s.heap.objs.size = some PySem.W.emptyDict := Heap.get?_push_size s.heap rfl
 have e2 : ((s.heap.push PySem.W.emptyDict).push (PySem.W.instObj C s.heap.objs.size)).get? (s.heap.objs.size + 1) = some (PySem.W.instObj C s.heap.objs.size) := by
  have := Heap.get?_push_size (s.heap.push PySem.W.emptyDict) (o := PySem.W.instObj C s.heap.objs.size) rfl
  rwa [Heap.size_push] at this
 have e3 : (s.heap.push PySem.W.emptyDict).Ns s.heap.objs.size (fun _ => none) := ⟨PySem.W.emptyDict, #[], _, e1, rfl, (fun e he => absurd he (by simp)), fun _ => rfl⟩
 have I1 := I.laid (a := s.heap.objs.size) (o := .own (s.heap.objs.size + 1)) (h' := s.heap.push PySem.W.emptyDict) (t' := s.toks) (fun b u q => Heap.get?_push_of_some _ q) (Nat.le_refl _) ⟨_, e1⟩
 refine I1.laid (a := s.heap.objs.size + 1) (o := .ins C s.heap.objs.size []) (t' := s.toks) (fun b u q => Heap.get?_push_of_some _ q) (Nat.le_of_eq (Heap.size_push _ _)) ?_
 have ne : s.heap.objs.size ≠ s.heap.objs.size + 1 := Nat.ne_of_lt (Nat.lt_succ_self _)
 refine ⟨by rw [zb3 ne, zb2], Nat.zero_le _, ne, e2, fun _ => none, (Heap.Ns1.of_empty e3).at fun o q => Heap.get?_push_of_some _ q, fun _ => True.intro, fun y hy => absurd rfl hy⟩
theorem attr_of {prog : Program} {w : World} {env : Env} {e : Expr} {f : Str} {pos : Pos} {s : Shared} {Q : Value → Shared → Prop} (hb : attributeBase e f env (eval e env) = eval e env)
  (h : wpAny (model prog w) A (eval e env) (fun o s₁ => wpAny (model prog w) A (getAttr o f true) Q E s₁) E s) : wpAny (model prog w) A (eval (.Attribute e f pos) env) Q E s :=
 Attribute_any_ h (by rw [arm_eval_Attribute, hb])
end
def tFld (K : PySem.W.Frag) (ta : TE) (f : Str) : TE := fun σ H Q => ta σ H fun x H1 => ∃ a C dx fs v, x = .ref a ∧ H1 a = some (.ins C dx fs) ∧ Cls K C ∧ NoAttr K C f ∧ fs.lookup f = some v ∧ Q v H1
def sFld (K : PySem.W.Frag) (ta tv : TE) (f : Str) : TS := fun D σ H => tv σ H fun y H1 => ta σ H1 fun x H2 => ∃ a C dx fs, x = .ref a ∧ H2 a = some (.ins C dx fs) ∧ Cls K C ∧ NoAttr K C f ∧ fs.length < 1000 ∧
 D.nx σ (upd H2 a (.ins C dx (putF f y fs)))
section
variable {X : Cx} {o e value : Expr} {f : Str} {pos pos' tpos : Pos} {ta tv : TE}
theorem pe_fld (he : PE X e ta) (hb : attributeBase e f X.env (eval e X.env) = eval e X.env) : PE X (.Attribute e f pos) (tFld X.K ta f) := by
 intro pins s σ H Q I h
 refine attr_of hb (thn (he pins s σ H _ I h) fun u s1 ⟨x, H1, I1, rx, a, C, dx, fs, v, ex, ea, c, n, l, q⟩ => ?_)
 subst ex
 obtain rfl : u = Value.ref a := rx
 exact ye8 I1 ea c n l fun u' s2 I2 ru => ⟨v, H1, I2, ru, q⟩
theorem ps_fld (ha : PE X o ta) (hv : PE X value tv) (hs : swapsWith value (some (.Attribute o f pos')) pos.line X.env = pure false) : PS X (.Assign [.Attribute o f pos'] value pos) (sFld X.K ta tv f) := by
 intro pins s σ H D I h
 refine plainObj_wpAny_Assign_Attribute (thn (hv pins s σ H _ I h) fun u s1 ⟨y, H1, I1, ry, q⟩ => thn (ha pins s1 σ H1 _ I1 q) fun ov s2 ⟨x, H2, I2, rx, a, C, dx, fs, ex, ea, c, n, l, q2⟩ => ?_) hs
 subst ex
 obtain rfl : ov = Value.ref a := rx
 exact yd9 I2 ea c n l ry fun s3 I3 => ⟨σ, _, I3, q2⟩
end
section
variable {X : Cx} {pins : List (Addr × Obj)} {σ : St} {H : Hp} {s : Shared} {A : Around} {E : Value → Shared → Prop} {Q : Value → Shared → Prop} {c : Value} {b : Bool}
end
structure Room (k : Nat) (A : Around) : Prop where
 hd : A.handled = none
 dp : A.depth + 3 * k + 5 < recursionLimit
 un : A.units + 16 * k + 200 < cLine
theorem Room.mono {j k : Nat} {A : Around} (r : Room k A) (h : j ≤ k) : Room j A := ⟨r.hd, by have := r.dp; omega, by have := r.un; omega⟩
theorem Room.deeper {k : Nat} {A : Around} (r : Room (k + 1) A) (env : Env) : Room k (A.deeper env) :=
 ⟨r.hd, by have := r.dp; show A.depth + 1 + 3 * k + 5 < _; omega, by have := r.un; show A.units + 3 + 16 * k + 200 < _; omega⟩
theorem Room.in1 {k : Nat} {A : Around} (r : Room (k + 1) A) : Room k A.in1 :=
 ⟨r.hd, by have := r.dp; show A.depth + 3 * k + 5 < _; omega, by have := r.un; show A.units + 1 + 16 * k + 200 < _; omega⟩
theorem ye5 {A : Around} {C : Addr} {us : List Value} {kw : List (Str × Value)} : (A.under (.builtin "type.__call__" ⟨.ref C :: us, kw⟩)).depth = A.depth + 1 := by
 first | rfl | simp [Around.under, Code.weight, Code.isCreation, Code.isGuard, Code.isCaller, Code.frames, Code.isFrame, guardIds]
theorem ye4 {A : Around} {C : Addr} {us : List Value} {kw : List (Str × Value)} : (A.under (.builtin "type.__call__" ⟨.ref C :: us, kw⟩)).units = A.units + 1 := by
 first | rfl | simp [Around.under, Code.cUnits, Code.frames, Code.isFrame]
theorem Room.make {k : Nat} {A : Around} (r : Room (k + 1) A) (C : Addr) (us : List Value) (kw : List (Str × Value)) : Room k (A.under (.builtin "type.__call__" ⟨.ref C :: us, kw⟩)) :=
 ⟨r.hd, by have := r.dp; rw [ye5]; omega, by have := r.un; rw [ye4]; omega⟩
theorem Room.depth {k : Nat} {A : Around} (r : Room k A) : A.depth < recursionLimit := by have := r.dp; omega
theorem Room.units {k : Nat} {A : Around} (r : Room k A) : A.units + 64 < cLine := by have := r.un; omega
def tNil : TA := fun _ H Q => Q [] H
def tCons (ta : TE) (tr : TA) : TA := fun σ H Q => ta σ H fun x H1 => tr σ H1 fun xs H2 => Q (x :: xs) H2
section
variable {X : Cx} {e : Expr} {es : List Expr} {te : TE} {t : TA} {pos : Pos}
theorem zH1 : PA X [] tNil := fun _ _ _ _ H Q I h => Calls.spliced_nil ⟨[], H, I, .nil, h⟩
theorem zt6 (ha : PE X e te) (hr : PA X es t) (hs : starEach (e :: es) X.env = (false, eval e X.env) :: starEach es X.env := by rfl) : PA X (e :: es) (tCons te t) := by
 intro pos pins s σ H Q I h
 rw [hs]
 show wpAny _ _ (spliced ((false, eval e X.env) :: backTo pos (starEach es X.env))) _ _ s
 refine Calls.spliced_cons (thn (ha pins s σ H _ I h) fun u s1 ⟨x, H1, I1, r1, q1⟩ => ?_)
 exact thn (hr pos pins s1 σ H1 _ I1 q1) fun us s2 ⟨xs, H2, I2, r2, q2⟩ => ⟨x :: xs, H2, I2, .cons r1 r2, q2⟩
def tTup (t : TA) : TE := fun σ H Q => t σ H fun xs H1 => xs.length ≤ sizeLine ∧ ∀ p, H1 p = none → Q (.ref p) (upd H1 p (.tup xs))
def tLst (t : TA) : TE := fun σ H Q => t σ H fun xs H1 => xs.length ≤ sizeLine ∧ ∀ p, H1 p = none → Q (.ref p) (upd H1 p (.lst xs))
theorem pe_tup {x1} (h : PA X es t) : PE X (.Tuple es x1 pos) (tTup t) := by
 intro pins s σ H Q I hq
 refine wpAny_Tuple_spliced (thn (h pos pins s σ H _ I hq) fun us s1 ⟨xs, H1, I1, r, z, q⟩ => ⟨by rw [← r.length]; exact z, ?_⟩)
 have hf : H1 s1.heap.objs.size = none := I1.hok.fresh (Nat.le_refl _)
 refine ⟨.ref s1.heap.objs.size, upd H1 s1.heap.objs.size (.tup xs), I1.laid (t' := s1.toks) (fun b u e => Heap.get?_push_of_some _ e) (Nat.le_refl _) ?_, rfl, q _ hf⟩
 exact ⟨z, us, r, ⟨_, Heap.get?_push_size _ rfl, rfl, _, rfl⟩⟩
theorem pe_lst (h : PA X es t) : PE X (.List es pos) (tLst t) := by
 intro pins s σ H Q I hq
 refine wpAny_List_spliced (thn (h pos pins s σ H _ I hq) fun us s1 ⟨xs, H1, I1, r, z, q⟩ => ⟨by rw [← r.length]; exact z, ?_⟩)
 have hf : H1 s1.heap.objs.size = none := I1.hok.fresh (Nat.le_refl _)
 refine ⟨.ref s1.heap.objs.size, upd H1 s1.heap.objs.size (.lst xs), I1.laid (t' := s1.toks) (fun b u e => Heap.get?_push_of_some _ e) (Nat.le_refl _) ?_, rfl, q _ hf⟩
 exact ⟨z, us, 0, r, Heap.get?_push_size _ rfl⟩
end
abbrev Sp := List V → Hp → VK → XK → Prop
abbrev CXT := List Env → Hp → Shared → XK → Value → Shared → Prop
structure Env0 (P : Program) (w : World) (K : PySem.W.Frag) (mg : Str → Option Value) (base : Heap) (A : Around) (outer : List Env) (s : Shared) (H : Hp) : Prop where
 frames : A.frames = some outer
 mod : Mod K mg base
 bs : ∀ b o, base.get? b = some o → s.heap.get? b = some o ∧ H b = none
 bsz : base.objs.size ≤ s.heap.objs.size
 funs : s.heap.FunFrames base outer
 frf : ∀ b ∈ frs outer, H b = none
 hok : HOk P w H s.heap
 bare : AllBare s.gens
def CE (outer : List Env) (P : Program) (w : World) (H : Hp) (s : Shared) (Q : VK) (u : Value) (s' : Shared) : Prop :=
 ∃ v H', s'.os = s.os ∧ AllBare s'.gens ∧ Un (frs outer) [] H H' s.heap s'.heap ∧ HOk P w H' s'.heap ∧ RelV v u ∧ Q v H'
def CR (CX : CXT) (outer : List Env) (P : Program) (w : World) (H : Hp) (s : Shared) (Q : VK) (E : XK) (r : Result) (s' : Shared) : Prop :=
 match r with
 | .ok (.ret u) => CE outer P w H s Q u s'
 | .ok _ => False
 | .error e => CX outer H s E e s'
structure FnOk (P : Program) (w : World) (K : PySem.W.Frag) (mg : Str → Option Value) (base : Heap) (CX : CXT) (k : Nat) (f : Addr) (fd : FuncData) (ps : List Str) (sp : Sp) : Prop where
 len : ∀ vs H Q E, sp vs H Q E → vs.length = ps.length
 run : ∀ (A : Around) (outer : List Env) (s : Shared) (H : Hp) (args : Args) (us : List Value) (vs : List V) (Q : VK) (E : XK), Room k A → Env0 P w K mg base A outer s H → BindsTo s fd args (ps.zip us) → Vals vs us → sp vs H Q E →
  codeAny (model P w) A (.call (.ref f) args) (CR CX outer P w H s Q E) s
theorem FnOk.mono {P : Program} {w : World} {K : PySem.W.Frag} {mg : Str → Option Value} {base : Heap} {CX : CXT} {j k : Nat} {f : Addr} {fd : FuncData} {ps : List Str} {sp : Sp} (F : FnOk P w K mg base CX j f fd ps sp) (h : j ≤ k) :
  FnOk P w K mg base CX k f fd ps sp := ⟨F.len, fun A outer s H args us vs Q E hr => F.run A outer s H args us vs Q E (hr.mono h)⟩
theorem FnOk.imp {P : Program} {w : World} {K : PySem.W.Frag} {mg : Str → Option Value} {base : Heap} {CX : CXT} {k : Nat} {f : Addr} {fd : FuncData} {ps : List Str} {sp sp' : Sp} (F : FnOk P w K mg base CX k f fd ps sp)
  (h : ∀ vs H Q E, sp' vs H Q E → sp vs H Q E) : FnOk P w K mg base CX k f fd ps sp' :=
 ⟨fun vs H Q E q => F.len vs H Q E (h _ _ _ _ q), fun A outer s H args us vs Q E hr he hb hv hs => F.run A outer s H args us vs Q E hr he hb hv (h _ _ _ _ hs)⟩
theorem Env0.make {P : Program} {w : World} {K : PySem.W.Frag} {mg : Str → Option Value} {base : Heap} {A : Around} {outer : List Env} {s : Shared} {H : Hp} (e : Env0 P w K mg base A outer s H) (C : Addr) (us : List Value) (kw : List (Str × Value)) :
  Env0 P w K mg base (A.under (.builtin "type.__call__" ⟨.ref C :: us, kw⟩)) outer s H := ⟨by first | exact e.frames | (simpa [Around.under, Code.envs, Code.isFrame, pushEnvs] using e.frames), e.mod, e.bs, e.bsz, e.funs, e.frf, e.hok, e.bare⟩
theorem Env0.in1 {P : Program} {w : World} {K : PySem.W.Frag} {mg : Str → Option Value} {base : Heap} {A : Around} {outer : List Env} {s : Shared} {H : Hp} (e : Env0 P w K mg base A outer s H) :
  Env0 P w K mg base A.in1 outer s H := ⟨e.frames, e.mod, e.bs, e.bsz, e.funs, e.frf, e.hok, e.bare⟩
section
variable {X : Cx} {pins : List (Addr × Obj)} {σ : St} {H : Hp} {s s' : Shared}
theorem Inv.env0 (I : Inv X pins σ H s) : Env0 X.prog X.w X.K X.mg X.base X.A X.stack s H :=
 ⟨I.ok.frames, I.ok.mod, I.bs, Nat.le_trans I.ok.bsz I.sz, I.stack, I.stkFree, I.hok, I.bare⟩
theorem Inv.after {Q : VK} {u : Value} (I : Inv X pins σ H s) (h : CE X.stack X.prog X.w H s Q u s') : EP X pins σ Q u s' := by
 obtain ⟨v, H', os, bare, un, hok, r, q⟩ := h
 obtain ⟨hh, g, d, t, os'⟩ := s'
 obtain rfl : os' = s.os := os
 exact ⟨v, H', I.call (h' := hh) (g' := g) (d' := d) (t' := t) (ch := []) un hok bare (fun b z => absurd z (by simp)), r, q⟩
end
def tCall (sp : Sp) (dvs : List V) (E : XK) (t : TA) : TE := fun σ H Q => t σ H fun vs H1 => sp (vs ++ dvs) H1 Q E
def tMeth (C : Addr) (m : Str) (sp : Sp) (dvs : List V) (E : XK) (ta : TE) (t : TA) : TE := fun σ H Q => ta σ H fun x H1 => ∃ a dx fs, x = .ref a ∧ H1 a = some (.ins C dx fs) ∧ fs.lookup m = none ∧
 t σ H1 fun vs H2 => sp (x :: (vs ++ dvs)) H2 Q E
def tMake (C : Addr) (sp : Sp) (dvs : List V) (E : XK) (t : TA) : TE := fun σ H Q => t σ H fun vs H1 => ∀ x dx, H1 x = none → H1 dx = none → dx ≠ x →
 sp (.ref x :: (vs ++ dvs)) (upd (upd H1 dx (.own x)) x (.ins C dx [])) (fun v H2 => v = .non ∧ Q (.ref x) H2) E
def Binds (K : PySem.W.Frag) (fd : FuncData) (ps : List Str) (ds : List Value) : Prop :=
 ∀ (s : Shared) (us : List Value), K.In s.heap → (us ++ ds).length = ps.length → BindsTo s fd ⟨us, []⟩ (ps.zip (us ++ ds))
theorem Binds.all {K : PySem.W.Frag} {fd : FuncData} {ps : List Str} (h : ∀ us : List Value, us.length = ps.length → bindArgs fd ⟨us, []⟩ = pure (ps.zip us)) : Binds K fd ps [] := fun s us _ hl => by
 rw [List.append_nil] at hl ⊢
 exact .of_eq (h us hl)
def zJ7 (CX : CXT) (X : Cx) (E : XK) : Prop := ∀ (pins : List (Addr × Obj)) (σ : St) (H : Hp) (s : Shared) (e : Value) (s' : Shared), Inv X pins σ H s → CX X.stack H s E e s' → X.xe e s'
section
variable {X : Cx} {CX : CXT} {k : Nat} {f C : Addr} {fd : FuncData} {ps : List Str} {sp : Sp} {dvs : List V} {ds : List Value} {E : XK} {x m : Str} {p pos apos : Pos} {e o : Expr} {es : List Expr} {ta : TE} {t : TA}
theorem yh6 {pins : List (Addr × Obj)} {σ : St} {H : Hp} {s : Shared} {Q : VK} {us : List Value} {vs : List V} (F : FnOk X.prog X.w X.K X.mg X.base CX k f fd ps sp) (hr : Room k X.A) (hb : Binds X.K fd ps ds) (hd : Vals dvs ds) (hx : zJ7 CX X E)
  (I : Inv X pins σ H s) (r : Vals vs us) (h : sp (vs ++ dvs) H Q E) : wpAny (model X.prog X.w) X.A (call (.ref f) us) (EP X pins σ Q) X.xe s := by
 have r2 : Vals (vs ++ dvs) (us ++ ds) := r.append hd
 have hl : (us ++ ds).length = ps.length := by rw [← r2.length]; exact F.len _ _ _ _ h
 refine wpAny_call (codeAny_mono (F.run X.A X.stack s H ⟨us, []⟩ (us ++ ds) (vs ++ dvs) Q E hr I.env0 (hb s us I.kIn hl) r2 h) fun r s' hq => ?_)
 cases r with
 | error e => exact hx pins σ H s e s' I hq
 | ok fl =>
  cases fl with
  | ret u => exact I.after hq
  | next => exact False.elim hq
  | brk => exact False.elim hq
  | cont => exact False.elim hq
theorem zX3 (F : FnOk X.prog X.w X.K X.mg X.base CX k f fd ps sp) (hr : Room k X.A) (hg : Gl X x) (hm : X.mg x = some (.ref f)) (hk : PySem.W.keepIn X.K (.ref f) = true) (hb : Binds X.K fd ps ds) (hd : Vals dvs ds) (hx : zJ7 CX X E)
  (ha : PA X (e :: es) t) (hdb : (x == ("__debug__" : Str)) = false := by decide) (he : starEach (e :: es) X.env = (false, eval e X.env) :: starEach es X.env := by rfl) (hpl : (backTo pos (starEach es X.env)).any (·.1) = false := by rfl) :
  PE X (.Call (.Name x p) (e :: es) [] pos) (tCall sp dvs E t) := by
 intro pins s σ H Q I h
 refine wpAny_Call_Name_kw (zY3 I hg hm ?_ hdb)
 refine PySem.W.callWith_K (h₀ := X.base) I.ok.mod.kin hk (thn (ha pos pins s σ H _ I h) fun us s1 ⟨vs, H1, I1, r, q⟩ => ⟨I1.kIn, ?_⟩) he hpl
 exact yh6 F hr hb hd hx I1 r q
theorem pe_meth {pl : Sem Bool} (he : PE X o ta) (c : Cls X.K C) (hm : Meth X.K C m f) (F : FnOk X.prog X.w X.K X.mg X.base CX k f fd ps sp) (hr : Room k X.A) (hb : Binds X.K fd ps ds) (hd : Vals dvs ds) (hx : zJ7 CX X E) (ha : PA X (e :: es) t)
  (hst : starEach (e :: es) X.env = (false, eval e X.env) :: starEach es X.env := by rfl) (hpl : (backTo pos (starEach es X.env)).any (·.1) = false := by rfl)
  (ht : eval (.Call (.Attribute o m apos) (e :: es) [] pos) X.env = (do
   let ov ← eval o X.env
   standAt apos.atName
   let (f, first) ← holding [ov] (getMethod ov m pl)
   callWith pos f first (backTo pos (starEach (e :: es) X.env)) (backToKw pos (keywordEach [] X.env))) := by rfl) :
  PE X (.Call (.Attribute o m apos) (e :: es) [] pos) (tMeth C m sp dvs E ta t) := by
 intro pins s σ H Q I h
 refine PySem.W.methodCall_KW (pl := pl) (thn (he pins s σ H _ I h) fun u s1 ⟨x, H1, I1, rx, a, dx, fs, ex, ea, l, q⟩ => ?_) ht
 subst ex
 obtain rfl : u = Value.ref a := rx
 refine zM3 I1 ea c hm l ?_
 refine PySem.W.callWith_K (first := [.ref a]) (h₀ := X.base) I.ok.mod.kin hm.kp (thn (ha pos pins s1 σ H1 _ I1 q) fun us s2 ⟨vs, H2, I2, r, q2⟩ => ⟨I2.kIn, ?_⟩) hst hpl
 exact yh6 (us := .ref a :: us) (vs := .ref a :: vs) F hr hb hd hx I2 (.cons rfl r) q2
theorem zN5 {pl : Sem Bool} (he : PE X o ta) (c : Cls X.K C) (hm : Meth X.K C m f) (F : FnOk X.prog X.w X.K X.mg X.base CX k f fd ps sp) (hr : Room k X.A) (hb : Binds X.K fd ps ds) (hd : Vals dvs ds) (hx : zJ7 CX X E)
  (ht : eval (.Call (.Attribute o m apos) [] [] pos) X.env = (do
   let ov ← eval o X.env
   standAt apos.atName
   let (f, first) ← holding [ov] (getMethod ov m pl)
   callWith pos f first (backTo pos (starEach [] X.env)) (backToKw pos (keywordEach [] X.env))) := by rfl) :
  PE X (.Call (.Attribute o m apos) [] [] pos) (tMeth C m sp dvs E ta tNil) := by
 intro pins s σ H Q I h
 refine PySem.W.methodCall_KW (pl := pl) (thn (he pins s σ H _ I h) fun u s1 ⟨x, H1, I1, rx, a, dx, fs, ex, ea, l, q⟩ => ?_) ht
 subst ex
 obtain rfl : u = Value.ref a := rx
 refine zM3 I1 ea c hm l ?_
 exact PySem.W.callWith_K0 (first := [.ref a]) I1.kIn hm.kp (yh6 (us := [.ref a]) (vs := [.ref a]) F hr hb hd hx I1 (.cons rfl .nil) q)
structure Mk (K : PySem.W.Frag) (C f : Addr) : Prop where
 makes : PySem.W.makesIn K C = true
 init : PySem.W.findIn K (.ref C) "__init__" = some (some (.ref f))
 fn : PySem.W.isFn K (.ref f) = true
 kp : PySem.W.keepIn K (.ref C) = true
theorem run_make {pins : List (Addr × Obj)} {σ : St} {H : Hp} {s : Shared} {Q : VK} {us : List Value} {vs : List V} (M : Mk X.K C f) (F : FnOk X.prog X.w X.K X.mg X.base CX k f fd ps sp) (hr : Room (k + 1) X.A) (hb : Binds X.K fd ps ds) (hd : Vals dvs ds)
  (hx : zJ7 CX X E) (I : Inv X pins σ H s) (r : Vals vs us)
  (h : ∀ x dx, H x = none → H dx = none → dx ≠ x → sp (.ref x :: (vs ++ dvs)) (upd (upd H dx (.own x)) x (.ins C dx [])) (fun v H2 => v = .non ∧ Q (.ref x) H2) E) :
  wpAny (model X.prog X.w) X.A (call (.ref C) us) (EP X pins σ Q) X.xe s := by
 have hq := h (s.heap.objs.size + 1) s.heap.objs.size (I.hok.fresh (Nat.le_succ _)) (I.hok.fresh (Nat.le_refl _)) (Nat.ne_of_lt (Nat.lt_succ_self _))
 have I2 := Inv.made (C := C) I
 have r2 : Vals (V.ref (s.heap.objs.size + 1) :: (vs ++ dvs)) (Value.ref (s.heap.objs.size + 1) :: (us ++ ds)) := .cons rfl (r.append hd)
 have hl : (Value.ref (s.heap.objs.size + 1) :: us ++ ds).length = ps.length := by
  have e := r2.length
  rw [F.len _ _ _ _ hq] at e
  exact e.symm
 refine wpAny_call (make_map (f := f) I.kIn M.makes M.init (beq_iff_eq.mp M.fn) (codeAny_mono (F.run _ X.stack _ _ ⟨Value.ref (s.heap.objs.size + 1) :: us, []⟩ (Value.ref (s.heap.objs.size + 1) :: (us ++ ds)) _ _ E (hr.make C us [])
  (I2.env0.make C us []) (hb _ (Value.ref (s.heap.objs.size + 1) :: us) I2.kIn hl) r2 hq) fun r s' hq' => ?_))
 cases r with
 | error e => exact hx pins σ _ _ e s' I2 hq'
 | ok fl =>
  cases fl with
  | ret u =>
   obtain ⟨v, H', I3, rv, ev, q3⟩ := I2.after hq'
   subst ev
   exact ⟨rv, ⟨V.ref (s.heap.objs.size + 1), H', I3, rfl, q3⟩⟩
  | next => exact False.elim hq'
  | brk => exact False.elim hq'
  | cont => exact False.elim hq'
theorem pe_make (M : Mk X.K C f) (F : FnOk X.prog X.w X.K X.mg X.base CX k f fd ps sp) (hr : Room (k + 1) X.A) (hg : Gl X x) (hm : X.mg x = some (.ref C)) (hb : Binds X.K fd ps ds) (hd : Vals dvs ds) (hx : zJ7 CX X E)
  (ha : PA X (e :: es) t) (hdb : (x == ("__debug__" : Str)) = false := by decide) (he : starEach (e :: es) X.env = (false, eval e X.env) :: starEach es X.env := by rfl) (hpl : (backTo pos (starEach es X.env)).any (·.1) = false := by rfl) :
  PE X (.Call (.Name x p) (e :: es) [] pos) (tMake C sp dvs E t) := by
 intro pins s σ H Q I h
 refine wpAny_Call_Name_kw (zY3 I hg hm ?_ hdb)
 refine PySem.W.callWith_K (h₀ := X.base) I.ok.mod.kin M.kp (thn (ha pos pins s σ H _ I h) fun us s1 ⟨vs, H1, I1, r, q⟩ => ⟨I1.kIn, ?_⟩) he hpl
 exact run_make M F hr hb hd hx I1 r q
end
section
variable {X : Cx} {CX : CXT} {k : Nat} {f C : Addr} {fd : FuncData} {ps ks : List Str} {sp : Sp} {E : XK} {x m : Str} {p pos apos kpos : Pos} {e o : Expr} {es : List Expr} {kws : List Keyword} {te ta : TE} {t tk : TA} {nm : Option Str}
variable {g : List Value → List Value → List Value} {gV : List V → List V → List V}
end
structure zb8 (N P : List Str) (sc : Scope) : Prop where
 kind : sc.kind = .function
 co : sc.isCoroutine = false
 gen : sc.isGenerator = false
 nd : N.Nodup
 pre : N.take P.length = P
 par : ∀ x ∈ P, sc.names.lookup x = some .local ∨ sc.names.lookup x = some .cell
 nofree : ∀ y ∈ sc.names, y.2 ≠ .free
theorem zV7 {kindOf : Str → Option NameKind} {x : Str} : ∀ {binds : List (Str × Value)} {m : Str → Option Value}, (∀ v, (x, v) ∉ binds) → bindL kindOf binds m x = m x
 | [], _, _ => rfl
 | (n, v) :: r, m, h => by
  unfold bindL
  rw [zV7 fun w hw => h w (List.mem_cons_of_mem _ hw)]
  split
  ·have : x ≠ n := by rintro rfl; exact h v List.mem_cons_self
   simp [this]
  ·rfl
theorem zV9 {kindOf : Str → Option NameKind} {x : Str} : ∀ {binds : List (Str × Value)} {m : Str → Option Value}, (∀ v, (x, v) ∉ binds) → bindC kindOf binds m x = m x
 | [], _, _ => rfl
 | (n, v) :: r, m, h => by
  unfold bindC
  rw [zV9 fun w hw => h w (List.mem_cons_of_mem _ hw)]
  split
  ·rfl
  ·have : x ≠ n := by rintro rfl; exact h v List.mem_cons_self
   simp [this]
theorem zV8 {kindOf : Str → Option NameKind} {x : Str} {v : Value} : ∀ {P : List Str} {vs : List Value} {i : Nat} {m : Str → Option Value}, P.Nodup → P[i]? = some x → vs[i]? = some v → kindOf x = some .local →
  bindL kindOf (P.zip vs) m x = some v
 | [], _, _, _, _, h, _, _ => by simp at h
 | _ :: _, [], _, _, _, _, h, _ => by simp at h
 | p :: P, w :: vs, 0, m, nd, h1, h2, hk => by
  simp at h1 h2; subst h1; subst h2
  show bindL kindOf ((p, w) :: P.zip vs) m p = _
  unfold bindL
  rw [zV7 fun v hv => (List.nodup_cons.mp nd).1 (List.of_mem_zip hv).1, if_pos hk]
  simp
 | p :: P, w :: vs, i + 1, m, nd, h1, h2, hk => by
  show bindL kindOf ((p, w) :: P.zip vs) m x = _
  unfold bindL
  exact zV8 (i := i) (List.nodup_cons.mp nd).2 (by simpa using h1) (by simpa using h2) hk
theorem zW0 {kindOf : Str → Option NameKind} {x : Str} {v : Value} : ∀ {P : List Str} {vs : List Value} {i : Nat} {m : Str → Option Value}, P.Nodup → P[i]? = some x → vs[i]? = some v → kindOf x ≠ some .local →
  bindC kindOf (P.zip vs) m x = some v
 | [], _, _, _, _, h, _, _ => by simp at h
 | _ :: _, [], _, _, _, _, h, _ => by simp at h
 | p :: P, w :: vs, 0, m, nd, h1, h2, hk => by
  simp at h1 h2; subst h1; subst h2
  show bindC kindOf ((p, w) :: P.zip vs) m p = _
  unfold bindC
  rw [zV9 fun v hv => (List.nodup_cons.mp nd).1 (List.of_mem_zip hv).1, if_neg hk]
  simp
 | p :: P, w :: vs, i + 1, m, nd, h1, h2, hk => by
  show bindC kindOf ((p, w) :: P.zip vs) m x = _
  unfold bindC
  exact zW0 (i := i) (List.nodup_cons.mp nd).2 (by simpa using h1) (by simpa using h2) hk
def start (N : List Str) (vs : List V) : St := vs.map some ++ List.replicate (N.length - vs.length) none
def cxOf (CX : CXT) (P : Program) (w : World) (K : PySem.W.Frag) (mg : Str → Option Value) (base : Heap) (N : List Str) (qual : Str) (scope : Scope) (f : Addr) (cd : Value) (A : Around) (outer : List Env) (s : Shared) (H : Hp) (E : XK) : Cx where
 prog := P
 w := w
 K := K
 mg := mg
 base := base
 A := A.deeper (envOfC qual scope s.heap.objs.size f cd)
 N := N
 s₀ := s
 H₀ := H
 env := envOfC qual scope s.heap.objs.size f cd
 outer := outer
 stack := envOfC qual scope s.heap.objs.size f cd :: outer
 ex := []
 calm := true
 fn := fun _ => true
 pn := []
 xe := fun e s' => wpAny (model P w) (A.deeper (envOfC qual scope s.heap.objs.size f cd)) (leaving (envOfC qual scope s.heap.objs.size f cd) e) (fun _ s'' => CX outer H s E e s'') (fun e' s'' => CX outer H s E e' s'') s'
theorem yd0 {sc : Scope} {n : Nat} {x : Str} (h : sc.names.lookup x = some .cell) : ∃ c, (cellsFrom n sc.names []).lookup x = some c := by
 have q := PySem.W.cellsFrom_some sc.names n [] (.inl h)
 exact Option.isSome_iff_exists.mp q
theorem ym7 {CX : CXT} {P : Program} {w : World} {K : PySem.W.Frag} {mg : Str → Option Value} {base : Heap} {N ps : List Str} {qual : Str} {scope : Scope} {f : Addr} {cd : Value} {A : Around} {outer : List Env} {s s1 : Shared} {H : Hp} {E : XK} {us : List Value} {vs : List V}
  (S : zb8 N ps scope) (hd : A.handled = none) (e0 : Env0 P w K mg base A outer s H) (hl : vs.length = ps.length) (r : Vals vs us)
  (x : InCallC s s.heap.objs.size (bindL (envOfC qual scope s.heap.objs.size f cd).kindOf (ps.zip us) fun _ => none) (cellsFrom (s.heap.objs.size + 1) scope.names []) (bindC (envOfC qual scope s.heap.objs.size f cd).kindOf (ps.zip us) fun _ => none) s1) :
  Inv (cxOf CX P w K mg base N qual scope f cd A outer s H E) [] (start N vs) H s1 := by
 have hpl : ps.length ≤ N.length := by have := congrArg List.length S.pre; rw [List.length_take] at this; omega
 obtain ⟨h1, tk, rfl, hk⟩ := x.done
 have noA : ∀ b : Addr, b ∉ (cxOf CX P w K mg base N qual scope f cd A outer s H E).ex := fun b z => absurd (show b ∈ ([] : List Addr) from z) (by simp)
 refine ⟨⟨e0.mod, S.kind, rfl, rfl, Nat.le_refl _, fun y z c h1 h2 => ?_, fun y hy => ?_, fun y c _ h => ?_, fun _ => hd, Around.frames_deeper e0.frames, .inr ⟨rfl, rfl⟩, fun b z => absurd z (noA b), e0.bs, e0.bsz, fun b _ _ => noA b, fun b z => absurd z (noA b), e0.funs, e0.frf⟩,
  rfl, e0.bare, Un.kept hk, ⟨_, x.toInCall.ns, fun i y v h1 h2 h3 => ?_⟩, fun y c h => ⟨_, x.cell y c h⟩, e0.hok.fresh (Nat.le_refl _), fun y c h => ?_, fun p hp => absurd (show p ∈ ([] : List (Addr × Obj)) from hp) (by simp), e0.hok.kept hk, ?_⟩
 ·exact name_of_addr x.apart (PySem.mem_of_lookup h1) (PySem.mem_of_lookup h2)
 ·have hy : scope.names.lookup y = some .cell ∨ scope.names.lookup y = some .free := hy
  rcases hy with hy | hy
  ·exact yd0 hy
  ·exact absurd rfl (S.nofree _ (PySem.mem_of_lookup hy))
 ·exact Nat.le_of_lt (x.above y c (PySem.mem_of_lookup h))
 ·have hi : i < vs.length := by
   unfold start at h2
   by_cases hi : i < vs.length
   ·exact hi
   ·rw [List.getElem?_append_right (by simpa using hi)] at h2
    rw [List.getElem?_replicate] at h2
    split at h2 <;> cases h2
  have ha : vs[i]? = some v := by
   unfold start at h2
   rw [List.getElem?_append_left (by simpa using hi), List.getElem?_map] at h2
   cases e : vs[i]? with
   | none => rw [e] at h2; cases h2
   | some a => rw [e] at h2; cases h2; rfl
  obtain ⟨u, hu, rv⟩ := r.get ha
  have hp : ps[i]? = some y := by
   rw [← S.pre, List.getElem?_take_of_lt (by omega)]; exact h1
  have ndP : ps.Nodup := by rw [← S.pre]; exact S.nd.sublist (List.take_sublist _ _)
  refine ⟨u, rv, ?_⟩
  rcases S.par y (List.mem_of_getElem? hp) with k | k
  ·exact .inl ⟨k, zV8 ndP hp hu k⟩
  ·obtain ⟨c, e⟩ := yd0 (n := s.heap.objs.size + 1) k
   refine .inr ⟨.inl k, c, e, ?_⟩
   have q := x.cell y c e
   rw [zW0 ndP hp hu (by show scope.names.lookup y ≠ _; rw [k]; decide)] at q
   exact q
 ·exact e0.hok.fresh (Nat.le_of_lt (x.above y c (PySem.mem_of_lookup h)))
 ·unfold start
  show _ = N.length
  rw [List.length_append, List.length_map, List.length_replicate]
  omega
theorem fn_of {CX : CXT} {P : Program} {w : World} {K : PySem.W.Frag} {mg : Str → Option Value} {base : Heap} {k : Nat} {f : Addr} {name qual : Str} {params : Arguments} {body : List Stmt} {scope : Scope} {dV kV doc pm cdv ct oc : Value} {an od : Option Addr}
  {osl : Array (Option Value)} {N ps : List Str} {sp : Sp} (lk : K.lookup f = some ⟨oc, od, .func (PySem.W.fnOf name qual params body scope dV kV doc pm an cdv ct), osl⟩) (hcd : PySem.W.codeIn K cdv qual = true) (S : zb8 N ps scope)
  (len : ∀ vs H Q E, sp vs H Q E → vs.length = ps.length)
  (hbody : ∀ (A : Around) (outer : List Env) (s : Shared) (H : Hp) (vs : List V) (Q : VK) (E : XK), Room k (A.deeper (envOfC qual scope s.heap.objs.size f cdv)) → sp vs H Q E →
   ∃ t, PSs (cxOf CX P w K mg base N qual scope f cdv A outer s H E) body t ∧ t { nx := fun _ H' => Q .non H', rt := Q } (start N vs) H) :
  FnOk P w K mg base CX (k + 1) f (PySem.W.fnOf name qual params body scope dV kV doc pm an cdv ct) ps sp := by
 refine ⟨len, fun A outer s H args us vs Q E hr e0 hb r hsp => ?_⟩
 have hl := len _ _ _ _ hsp
 have KX : K.In s.heap := e0.mod.kin.keeps fun b o e => (e0.bs b o e).1
 have lim : s.heap.NoLimit := e0.mod.nolimit.keeps fun b o e => (e0.bs b o e).1
 have hkind : ∀ y ∈ ps.zip us, scope.names.lookup y.1 = some .local ∨ (scope.names.lookup y.1 = some .cell ∧ ((cellsFrom (s.heap.objs.size + 1) scope.names []).lookup y.1).isSome = true) := fun ⟨n, v⟩ hy => by
  rcases S.par n (List.of_mem_zip hy).1 with q | q
  ·exact .inl q
  ·exact .inr ⟨q, PySem.W.cellsFrom_some _ _ _ (.inl q)⟩
 refine codeAny_call_function hr.depth (KX _ _ lk) rfl S.co S.gen rfl (PySem.W.codeRec_of KX hcd) (hb _ _ _ _ ?_)
 refine wpAny_newFunctionEnv_cells S.kind hkind fun env he s1 x => ?_
 subst he
 refine ⟨lim.keeps x.toInCall.keep, codeAny_func ?_⟩
 obtain ⟨t, ht, hq⟩ := hbody A outer s H vs Q E (hr.deeper _) hsp
 have I : Inv (cxOf CX P w K mg base N qual scope f cdv A outer s H E) [] (start N vs) H s1 := ym7 S hr.hd e0 hl r x
 refine wpAny_mono (ht [] s1 (start N vs) H _ I hq) (fun fl s' hs => ?_) fun e s' hs => hs
 have fin : ∀ {σ' : St} {H' : Hp} {v : V} {u : Value}, Inv (cxOf CX P w K mg base N qual scope f cdv A outer s H E) [] σ' H' s' → RelV v u → Q v H' → CE outer P w H s Q u s' :=
  fun {σ' H' v u} J rv q => ⟨v, H', J.os, J.bare, J.base, J.hok, rv, q⟩
 cases fl with
 | ret u =>
  obtain ⟨v, σ', H', J, rv, q⟩ := hs
  exact fin J rv q
 | next =>
  obtain ⟨σ', H', J, q⟩ := hs
  exact fin (v := V.non) (u := Value.none) J rfl q
 | brk =>
  obtain ⟨_, _, _, q⟩ := hs
  exact False.elim q
 | cont =>
  obtain ⟨_, _, _, q⟩ := hs
  exact False.elim q
section
variable {X : Cx} {x : Str} {p pos : Pos} {e : Expr} {es : List Expr} {t : TA} {id T : String} {r : List V → Hp → VK → Prop}
def tCB (r : List V → Hp → VK → Prop) (t : TA) : TE := fun σ H Q => t σ H fun vs H1 => r vs H1 Q
theorem pe_callB (hc : CallR X (.builtin id) r) (hg : Gl X x) (hm : X.mg x = none) (hv : bootBuiltins x = some (.builtin id)) (ha : PA X (e :: es) t) (hn : x ≠ "__name__" := by decide) (hdb : (x == ("__debug__" : Str)) = false := by decide)
  (he : starEach (e :: es) X.env = (false, eval e X.env) :: starEach es X.env := by rfl) (hpl : (backTo pos (starEach es X.env)).any (·.1) = false := by rfl) : PE X (.Call (.Name x p) (e :: es) [] pos) (tCB r t) := by
 intro pins s σ H Q I h
 refine wpAny_Call_Name_kw (zC8 I hg hm hv ?_ hn hdb)
 exact PyProof.Rows.callWith_builtin1 (thn (ha pos pins s σ H _ I h) fun us s1 ⟨vs, H1, I1, r1, q1⟩ => hc pins s1 σ H1 vs us Q I1 r1 q1) he hpl
theorem pe_callTy (hc : CallR X (.type T) r) (hg : Gl X x) (hm : X.mg x = none) (hv : bootBuiltins x = some (.type T)) (ha : PA X (e :: es) t) (hn : x ≠ "__name__" := by decide) (hdb : (x == ("__debug__" : Str)) = false := by decide)
  (he : starEach (e :: es) X.env = (false, eval e X.env) :: starEach es X.env := by rfl) (hpl : (backTo pos (starEach es X.env)).any (·.1) = false := by rfl) : PE X (.Call (.Name x p) (e :: es) [] pos) (tCB r t) := by
 intro pins s σ H Q I h
 refine wpAny_Call_Name_kw (zC8 I hg hm hv ?_ hn hdb)
 exact PyProof.Rows.callWith_type1 (thn (ha pos pins s σ H _ I h) fun us s1 ⟨vs, H1, I1, r1, q1⟩ => hc pins s1 σ H1 vs us Q I1 r1 q1) he hpl
end
end L2
namespace HT
open PySem PyProof.Rows
section
open PySem.SeqAt
open PySem.AutoSeq1 (wpAny_loadPart')
open PySem.MeetsSeq PySem.MeetsSeq2 PySem.MeetsSeq3
end
section
variable {prog : Program} {w : World} {A : Around} {E : Value → Shared → Prop} {s : Shared}
def sIx (n d : Nat) : Option Int → Nat
 | none => d
 | some v => if v < 0 then (v + (n : Int)).toNat else min v.toNat n
end
end HT
namespace L2
open PySem PySem.Spec PyProof.Rows
abbrev TO := St → Hp → (Option Int → Hp → Prop) → Prop
def PO (X : Cx) (e : Option Expr) (t : TO) : Prop :=
 ∀ (pins : List (Addr × Obj)) (s : Shared) (σ : St) (H : Hp) (Q : Option Int → Hp → Prop), Inv X pins σ H s → t σ H Q →
  wpAny (model X.prog X.w) X.A (evalPart e X.env) (fun u s' => ∃ o H', Inv X pins σ H' s' ∧ IsPart u o ∧ Q o H') X.xe s
def tNoPart : TO := fun _ H Q => Q none H
def tPart (t : TE) : TO := fun σ H Q => t σ H fun x H1 => ∃ i, x = .int i ∧ Q (some i) H1
section
variable {X : Cx} {e : Expr} {te : TE} {lo hi : Option Expr} {tl th : TO} {pos p2 : Pos}
theorem po_none : PO X none tNoPart := by
 intro pins s σ H Q I h
 rw [evalPart_none]
 exact wpAny_pure ⟨none, H, I, .none, h⟩
theorem po_some (h : PE X e te) : PO X (some e) (tPart te) := by
 intro pins s σ H Q I hw
 rw [evalPart_some]
 refine thn (h pins s σ H _ I hw) fun u s1 ⟨x, H1, I1, r1, q1⟩ => ?_
 obtain ⟨i, rfl, q⟩ := q1
 obtain ⟨t, rfl⟩ := r1
 exact ⟨some i, H1, I1, .int i t, q⟩
def SlR (X : Cx) (r : V → Option Int → Option Int → Hp → VK → Prop) : Prop :=
 ∀ (pins : List (Addr × Obj)) (s : Shared) (σ : St) (H : Hp) (x : V) (v vl vu : Value) (lo hi : Option Int) (sl : Addr) (Q : VK), Inv X pins σ H s → RelV x v → s.heap.IsSliceOf sl vl vu .none → IsPart vl lo → IsPart vu hi → r x lo hi H Q →
  ∃ T id, typeLookup (.type T) "__getitem__" = pure (some (.builtin id)) ∧ s.TypeIs v T ∧ wpAny (model X.prog X.w) X.A (getItem v (.ref sl)) (EP X pins σ Q) X.xe s
theorem SlR.or {r r' : V → Option Int → Option Int → Hp → VK → Prop} (h : SlR X r) (h' : SlR X r') : SlR X (fun x lo hi H Q => r x lo hi H Q ∨ r' x lo hi H Q) := by
 intro pins s σ H x v vl vu lo hi sl Q I rx hs pl pu q
 rcases q with q | q
 ·exact h pins s σ H x v vl vu lo hi sl Q I rx hs pl pu q
 ·exact h' pins s σ H x v vl vu lo hi sl Q I rx hs pl pu q
def tSl (r : V → Option Int → Option Int → Hp → VK → Prop) (te : TE) (tl th : TO) : TE := fun σ H Q => te σ H fun x H1 => tl σ H1 fun l H2 => th σ H2 fun u H3 => r x l u H3 Q
theorem pe_slice {r : V → Option Int → Option Int → Hp → VK → Prop} (hr : SlR X r) (he : PE X e te) (hl : PO X lo tl) (hu : PO X hi th) : PE X (.Subscript e (.Slice lo hi none p2) pos) (tSl r te tl th) := by
 intro pins s σ H Q I h
 refine Subscript_ (thn (he pins s σ H _ I h) fun v s1 ⟨x, H1, I1, r1, q1⟩ => ?_)
 refine wpAny_Slice (thn (hl pins s1 σ H1 _ I1 q1) fun vl s2 ⟨l, H2, I2, pl, q2⟩ => thn (hu pins s2 σ H2 _ I2 q2) fun vu s3 ⟨u, H3, I3, pu, q3⟩ => ?_)
 rw [evalPart_none]
 refine wpAny_pure ?_
 have I4 : Inv X pins σ H3 { s3 with heap := s3.heap.push { cls := .type "slice", data := .fields #[vl, vu, .none] } } := I3.kept (t' := s3.toks) fun b ob q => Heap.get?_push_of_some _ q
 obtain ⟨T, id, hT, ht, hg⟩ := hr pins { s3 with heap := s3.heap.push { cls := .type "slice", data := .fields #[vl, vu, .none] } } σ H3 x v vl vu l u s3.heap.objs.size Q I4 r1 (Heap.IsSliceOf.new ..) pl pu q3
 show wpAny (model X.prog X.w) X.A (subscriptTail e (.Slice lo hi none p2) v (.ref s3.heap.objs.size)) (EP X pins σ Q) X.xe { s3 with heap := s3.heap.push { cls := .type "slice", data := .fields #[vl, vu, .none] } }
 exact tail_any (ops := [.ref s3.heap.objs.size, v]) ht hT hg (by with_unfolding_all rfl)
def cutV (xs : List V) (lo hi : Option Int) : List V := (xs.drop (HT.sIx xs.length 0 lo)).take (HT.sIx xs.length xs.length hi - HT.sIx xs.length 0 lo)
theorem zZ1 (xs : List V) (lo hi : Option Int) : (cutV xs lo hi).length ≤ xs.length := by
 unfold cutV
 rw [List.length_take, List.length_drop]
 omega
end
def ixN (n : Nat) (i : Int) : Option Nat := if 0 ≤ i then (if i < n then some i.toNat else none) else if -(n : Int) ≤ i then some (i + n).toNat else none
def atI {α : Type} (xs : List α) (i : Int) : Option α := (ixN xs.length i).bind fun j => xs[j]?
theorem ym4 {n : Nat} {i : Int} {j : Nat} (h : ixN n i = some j) : seqIndex? i n = some j ∧ j < n ∧ -(n : Int) ≤ i ∧ i < n := by
 unfold ixN at h
 by_cases h0 : 0 ≤ i
 ·rw [if_pos h0] at h
  by_cases h1 : i < n
  ·rw [if_pos h1] at h
   have e : i.toNat = j := Option.some.inj h
   exact ⟨by rw [seqIndex_of h0 h1, e], by omega, by omega, h1⟩
  ·rw [if_neg h1] at h; cases h
 ·rw [if_neg h0] at h
  by_cases h1 : -(n : Int) ≤ i
  ·rw [if_pos h1] at h
   have e : (i + n).toNat = j := Option.some.inj h
   exact ⟨by rw [seqIndex_neg (by omega) h1, e], by omega, h1, by omega⟩
  ·rw [if_neg h1] at h; cases h
theorem zZ5 {α : Type} {xs : List α} {i : Int} {v : α} (h : atI xs i = some v) : ∃ j, seqIndex? i xs.length = some j ∧ xs[j]? = some v ∧ j < xs.length ∧ -(xs.length : Int) ≤ i ∧ i < xs.length := by
 unfold atI at h
 cases e : ixN xs.length i with
 | none => rw [e] at h; cases h
 | some j =>
  rw [e] at h
  obtain ⟨h1, h2, h3, h4⟩ := ym4 e
  exact ⟨j, h1, h, h2, h3, h4⟩
theorem yp0 {α : Type} {xs : List α} {j : Nat} {v : α} (h : xs[j]? = some v) : atI xs (j : Int) = some v := by
 have hj : j < xs.length := (List.getElem?_eq_some_iff.mp h).1
 have e : ixN xs.length (j : Int) = some j := by
  unfold ixN
  rw [if_pos (by omega), if_pos (by omega)]; simp
 unfold atI; rw [e]; exact h
def zR7 (b : Expr) : Prop := ∀ o i, subscripted b false o i = operate [o, i] (getItem o i)
def IxR (X : Cx) (r : R2) : Prop :=
 ∀ (value slice : Expr) (pins : List (Addr × Obj)) (s : Shared) (σ : St) (H : Hp) (x y : V) (v u : Value) (Q : VK), Inv X pins σ H s → RelV x v → RelV y u → r x y H Q →
  subscripted slice false v u = operate [v, u] (getItem v u) → wpAny (model X.prog X.w) X.A (subscriptTail value slice v u) (EP X pins σ Q) X.xe s
def MtR (X : Cx) (id : String) (r : V → List V → Hp → VK → Prop) : Prop :=
 ∀ (pins : List (Addr × Obj)) (s : Shared) (σ : St) (H : Hp) (x : V) (xs : List V) (v : Value) (us : List Value) (Q : VK), Inv X pins σ H s → RelV x v → Vals xs us → r x xs H Q →
  wpAny (model X.prog X.w) X.A (call (.builtin id) (v :: us)) (EP X pins σ Q) X.xe s
section
variable {X : Cx} {a b : Expr} {ta tb : TE} {pos : Pos}
theorem IxR.or {r r' : R2} (h : IxR X r) (h' : IxR X r') : IxR X (fun x y H Q => r x y H Q ∨ r' x y H Q) := by
 intro value slice pins s σ H x y v u Q I rx ry q hs
 rcases q with q | q
 ·exact h value slice pins s σ H x y v u Q I rx ry q hs
 ·exact h' value slice pins s σ H x y v u Q I rx ry q hs
theorem MtR.or {id : String} {r r' : V → List V → Hp → VK → Prop} (h : MtR X id r) (h' : MtR X id r') : MtR X id (fun x xs H Q => r x xs H Q ∨ r' x xs H Q) := by
 intro pins s σ H x xs v us Q I rx rs q
 rcases q with q | q
 ·exact h pins s σ H x xs v us Q I rx rs q
 ·exact h' pins s σ H x xs v us Q I rx rs q
theorem pe_ix {r : R2} (hr : IxR X r) (ha : PE X a ta) (hb : PE X b tb) (hs : zR7 b) : PE X (.Subscript a b pos) (tOp r ta tb) := by
 intro pins s σ H Q I h
 exact Subscript_ (binT ha hb I h fun v u s2 x y H2 I2 rx ry q => hr a b pins s2 σ H2 x y v u Q I2 rx ry q (hs _ _))
def rIxL (K : PySem.W.Frag) : R2 := fun x y H Q => ∃ p xs i v, x = .ref p ∧ y = .int i ∧ SqL K H p xs ∧ atI xs i = some v ∧ Q v H
def rIxT (K : PySem.W.Frag) : R2 := fun x y H Q => ∃ p xs i v, x = .ref p ∧ y = .int i ∧ SqT K H p xs ∧ atI xs i = some v ∧ Q v H
def rIxS : R2 := fun x y H Q => ∃ z i c, x = .str z ∧ y = .int i ∧ z.length ≤ sizeLine ∧ atI z.cps.toList i = some c ∧ Q (.str ⟨#[c]⟩) H
theorem ix_list : IxR X (rIxL X.K) := by
 intro value slice pins s σ H x y v u Q I rx ry h hs
 obtain ⟨p, xs, i, z, rfl, rfl, hq, he, q⟩ := h
 cases rx
 obtain ⟨t, rfl⟩ := ry
 obtain ⟨its, r, pl, hz⟩ := I.list hq
 obtain ⟨j, h1, h2, h3, h4, h5⟩ := zZ5 he
 obtain ⟨w, ew, rw'⟩ := r.get h2
 have hl := r.length
 have hn := zI1
 have fin : EP X pins σ Q w s := ⟨z, H, I, rw', q⟩
 by_cases h0 : 0 ≤ i
 ·have hj : i.toNat = j := by
   rw [seqIndex_of h0 h5] at h1
   exact Option.some.inj h1
  exact item_listR pl.isList h0 (by omega) (by rw [hj]; simpa using ew) fin hs
 ·have hj : (i + (its.toArray.size : Int)).toNat = j := by
   rw [seqIndex_neg (by omega) h4] at h1
   rw [List.size_toArray, ← hl]
   exact Option.some.inj h1
  exact subscriptTail_builtinR (x := w) pl.isList.typeIs slot_list_getitem.lookup
   (wpAny_getItem_list_neg (Q := fun r s' => r = w ∧ EP X pins σ Q r s') pl.isList (by omega) (by rw [List.size_toArray] <;> omega) (by omega) (by rw [hj]; simpa using ew) ⟨rfl, fin⟩) hs
theorem ix_tup : IxR X (rIxT X.K) := by
 intro value slice pins s σ H x y v u Q I rx ry h hs
 obtain ⟨p, xs, i, z, rfl, rfl, hq, he, q⟩ := h
 cases rx
 obtain ⟨t, rfl⟩ := ry
 obtain ⟨its, r, pl, hz⟩ := I.tuple hq
 obtain ⟨j, h1, h2, h3, h4, h5⟩ := zZ5 he
 obtain ⟨w, ew, rw'⟩ := r.get h2
 have hl := r.length
 have hn := zI1
 have fin : EP X pins σ Q w s := ⟨z, H, I, rw', q⟩
 exact subscriptTail_builtinR (x := w) pl.typeIs slot_tuple_getitem.lookup
  (getItem_tuple (j := j) (Q := fun r s' => r = w ∧ EP X pins σ Q r s') pl (by omega) (by omega) (by rw [List.size_toArray, ← hl]; exact h1) (by simpa using ew) ⟨rfl, fin⟩) hs
theorem ix_str : IxR X rIxS := by
 intro value slice pins s σ H x y v u Q I rx ry h hs
 obtain ⟨z, i, c, rfl, rfl, hz, he, q⟩ := h
 obtain ⟨t, rfl⟩ := rx
 obtain ⟨t', rfl⟩ := ry
 obtain ⟨j, h1, h2, h3, h4, h5⟩ := zZ5 he
 have hl : z.cps.toList.length = z.length := by simp [Str.length]
 rw [hl] at h1 h4 h5
 have hn := zI1
 exact tail_any (typeIs_str s z t) slot_str_getitem.lookup (getItem_str (c := c) (by
  have e1 : decide (i < -(2 ^ 63 : Int)) = false := decide_eq_false (by omega)
  have e2 : decide (i ≥ 2 ^ 63) = false := decide_eq_false (by omega)
  rw [e1, e2, Bool.or_false]) (by rw [h1]; simpa using h2) ⟨.str ⟨#[c]⟩, H, I.tok _, ⟨_, rfl⟩, q⟩) hs
def rIx (K : PySem.W.Frag) : R2 := fun x y H Q => rIxL K x y H Q ∨ rIxT K x y H Q ∨ rIxS x y H Q
theorem ix_seq : IxR X (rIx X.K) := ix_list.or (ix_tup.or ix_str)
theorem ye3 (its : List Value) (n j : Nat) (u : Value) : Obj.mapSeq (·.setIfInBounds j u) { cls := .type "list", data := .seq its.toArray n } = { cls := .type "list", data := .seq (its.set j u).toArray n } := by
 simp [Obj.mapSeq]
theorem Inv.lst {pins : List (Addr × Obj)} {σ : St} {H : Hp} {s : Shared} {p : Addr} {xs : List V} (I : Inv X pins σ H s) (h : H p = some (.lst xs)) :
  ∃ (its : List Value) (n : Nat), Vals xs its ∧ s.heap.get? p = some { cls := .type "list", data := .seq its.toArray n } ∧ xs.length ≤ sizeLine := by
 obtain ⟨z, its, n, r, e⟩ := I.hok p _ h
 exact ⟨its, n, r, e, z⟩
theorem Inv.lstUpd {pins : List (Addr × Obj)} {σ : St} {H : Hp} {s : Shared} {p : Addr} {xs ys : List V} {its its' : List Value} {n n' : Nat} {f : Obj → Obj} (I : Inv X pins σ H s) (h : H p = some (.lst xs))
  (ho : s.heap.get? p = some { cls := .type "list", data := .seq its.toArray n }) (hf : f { cls := .type "list", data := .seq its.toArray n } = { cls := .type "list", data := .seq its'.toArray n' }) (r : Vals ys its') (hz : ys.length ≤ sizeLine) (t : Nat) :
  Inv X pins σ (upd H p (.lst ys)) { s with heap := s.heap.update p f, toks := t } := by
 have e : (s.heap.update p f).get? p = some { cls := .type "list", data := .seq its'.toArray n' } := by
  rw [Heap.get?_update_self f ho (by rw [hf] <;> rfl), hf]
 refine I.write (x := p) (e := p) (by rw [h]; trivial) (.inl rfl) (fun b u hb q => (Heap.get?_update_other _ _ (Ne.symm hb)).trans q) ⟨_, e⟩ ?_
 exact ⟨hz, its', n', r, e⟩
def rSetL : V → V → V → Hp → (Hp → Prop) → Prop := fun o i v H Q => ∃ p xs k j, o = .ref p ∧ i = .int k ∧ H p = some (.lst xs) ∧ ixN xs.length k = some j ∧ Q (upd H p (.lst (xs.set j v)))
theorem set_list : PSet X rSetL := by
 intro pins s σ H o i v ov iv u Q I ro ri rv h
 obtain ⟨p, xs, k, j, rfl, rfl, hp, hj, q⟩ := h
 cases ro
 obtain ⟨t, rfl⟩ := ri
 obtain ⟨its, n, r, ho, hz⟩ := I.lst hp
 obtain ⟨h1, h2, h3, h4⟩ := ym4 hj
 have hl := r.length
 have hn := zI1
 have I' : Inv X pins σ (upd H p (.lst (xs.set j v))) { s with heap := s.heap.update p (Obj.mapSeq (·.setIfInBounds j u)) } :=
  I.lstUpd hp ho (ye3 its n j u) (r.set rv j) (by rw [List.length_set]; exact hz) s.toks
 by_cases h0 : 0 ≤ k
 ·have hk : k.toNat = j := by
   rw [seqIndex_of h0 h4] at h1
   exact Option.some.inj h1
  exact PySem.W.ki_setAt ho h0 (by omega) (by rw [List.size_toArray, ← hl]; exact h4) (by rw [hk]; exact ⟨_, I', q⟩)
 ·have hk : (k + (its.toArray.size : Int)).toNat = j := by
   rw [seqIndex_neg (by omega) h3] at h1
   rw [List.size_toArray, ← hl]
   exact Option.some.inj h1
  exact PySem.W.ki_setBack ho (by omega) (by rw [List.size_toArray, ← hl]; exact h3) (by omega) (by rw [hk]; exact ⟨_, I', q⟩)
theorem zS5 (lo hi : Option Int) (n : Nat) : (sliceBounds lo hi none n).1 = ((HT.sIx n 0 lo : Nat) : Int) ∧ (sliceBounds lo hi none n).2.1 = ((HT.sIx n n hi : Nat) : Int) ∧ (sliceBounds lo hi none n).2.2 = 1 := by
 refine ⟨?_, ?_, rfl⟩
 ·cases lo with
  | none => simp [sliceBounds, HT.sIx]
  | some i =>
   simp only [sliceBounds, HT.sIx, Option.getD_none, show (1 : Int) > 0 by decide, if_true]
   by_cases h : i < 0
   ·simp only [h, if_true] <;> omega
   ·simp only [h, if_false] <;> omega
 ·cases hi with
  | none => simp [sliceBounds, HT.sIx]
  | some i =>
   simp only [sliceBounds, HT.sIx, Option.getD_none, show (1 : Int) > 0 by decide, if_true]
   by_cases h : i < 0
   ·simp only [h, if_true] <;> omega
   ·simp only [h, if_false] <;> omega
theorem zM6 (its : List Value) (lo hi : Option Int) : slicePick its.toArray lo hi none = ((its.drop (HT.sIx its.length 0 lo)).take (HT.sIx its.length its.length hi - HT.sIx its.length 0 lo)).toArray := by
 obtain ⟨h1, h2, h3⟩ := zS5 lo hi its.toArray.size
 unfold slicePick
 rw [h1, h2, h3]
 simp only [sliceRange_one, pick_run, List.size_toArray] <;> rfl
def rSlL (K : PySem.W.Frag) : V → Option Int → Option Int → Hp → VK → Prop := fun x lo hi H Q => ∃ a xs, x = .ref a ∧ SqL K H a xs ∧ ∀ p, H p = none → Q (.ref p) (upd H p (.lst (cutV xs lo hi)))
theorem sl_list : SlR X (rSlL X.K) := by
 intro pins s σ H x v vl vu lo hi sl Q I rx hs pl pu h
 obtain ⟨a, xs, rfl, hx, q⟩ := h
 cases rx
 obtain ⟨its, r, ht, hz⟩ := I.list hx
 have hlen := r.length
 refine ⟨"list", _, slot_list_getitem.lookup, ht.isList.typeIs, ?_⟩
 refine wpAny_getItem_list_slice ht.isList hs pl pu .none (by simp) ?_ (by rw [List.size_toArray] <;> omega)
 rw [zM6, ← hlen]
 refine ⟨.ref s.heap.objs.size, _, I.laid (t' := s.toks) (o := .lst (cutV xs lo hi)) (fun b ob q => Heap.get?_push_of_some _ q) (Nat.le_refl _) ?_, rfl, q _ (I.hok.fresh (Nat.le_refl _))⟩
 exact ⟨Nat.le_trans (zZ1 xs lo hi) hz, _, 0, (r.drop (HT.sIx xs.length 0 lo)).take (HT.sIx xs.length xs.length hi - HT.sIx xs.length 0 lo), Heap.get?_push_size _ rfl⟩
theorem call_len_seq : CallR X (.builtin "len") (fun xs H Q => ∃ p ys, xs = [.ref p] ∧ (SqL X.K H p ys ∨ SqT X.K H p ys) ∧ Q (.int ys.length) H) := by
 intro pins s σ H xs us Q I r h
 obtain ⟨p, ys, rfl, hq, q⟩ := h
 obtain ⟨u, rfl, rx⟩ := vals1 r
 cases rx
 have hn := zI1
 rcases hq with hq | hq
 ·obtain ⟨its, r', pl, hz⟩ := I.list hq
  have hlen := r'.length
  exact Calls.call_len_list pl.isList (by simp only [List.size_toArray] <;> omega) ⟨.int ys.length, H, I.tok _, ⟨s.toks + 1, by rw [List.size_toArray, hlen]⟩, q⟩
 ·obtain ⟨its, r', pl, hz⟩ := I.tuple hq
  have hlen := r'.length
  exact len_tuple pl (by simp only [List.size_toArray] <;> omega) ⟨.int ys.length, H, I.tok _, ⟨s.toks + 1, by rw [List.size_toArray, hlen]⟩, q⟩
theorem zV5 : CallR X (.builtin "len") (fun xs H Q => ∃ z, xs = [.str z] ∧ z.length ≤ sizeLine ∧ Q (.int z.length) H) := by
 intro pins s σ H xs us Q I r h
 obtain ⟨z, rfl, hz, q⟩ := h
 obtain ⟨u, rfl, t, rfl⟩ := vals1 r
 have hn := zI1
 exact len_str (by omega) ⟨.int z.length, H, I.tok _, ⟨_, rfl⟩, q⟩
theorem CallR.or {f : Value} {r r' : List V → Hp → VK → Prop} (h : CallR X f r) (h' : CallR X f r') : CallR X f (fun xs H Q => r xs H Q ∨ r' xs H Q) := by
 intro pins s σ H xs us Q I rs q
 rcases q with q | q
 ·exact h pins s σ H xs us Q I rs q
 ·exact h' pins s σ H xs us Q I rs q
theorem zD2 : CallR X (.type "list") (fun xs H Q => ∃ p ys, xs = [.ref p] ∧ (SqL X.K H p ys ∨ SqT X.K H p ys) ∧ ∀ l, H l = none → Q (.ref l) (upd H l (.lst ys))) := by
 intro pins s σ H xs us Q I r h
 obtain ⟨p, ys, rfl, hq, q⟩ := h
 obtain ⟨u, rfl, rx⟩ := vals1 r
 cases rx
 have fin : ∀ (its : List Value), Vals ys its → ys.length ≤ sizeLine → ∀ (h' : Heap) (c' : Nat), (∀ b o', s.heap.get? b = some o' → h'.get? b = some o') →
   h'.get? s.heap.objs.size = some { cls := .type "list", dict := none, data := .seq its.toArray c', slots := #[] } → EP X pins σ Q (.ref s.heap.objs.size) { s with heap := h' } := fun its r' hz h' c' kp e =>
  ⟨.ref s.heap.objs.size, _, I.laid (t' := s.toks) kp (Nat.le_refl _) (show ObjOk X.prog X.w _ h' _ (.lst ys) from ⟨hz, its, c', r', e⟩), rfl, q _ (I.hok.fresh (Nat.le_refl _))⟩
 rcases hq with hq | hq
 ·obtain ⟨its, r', pl, hz⟩ := I.list hq
  have hlen := r'.length
  obtain ⟨o, ho, hc, n, hd⟩ := pl.isList
  exact call_list_seq p (.inl rfl) ho hc hd (fun h' c' kp e => fin its r' hz h' c' kp e) (by simp only [List.size_toArray] <;> omega)
 ·obtain ⟨its, r', pl, hz⟩ := I.tuple hq
  have hlen := r'.length
  obtain ⟨o, ho, hc, n, hd⟩ := pl
  exact call_list_seq p (.inr rfl) ho hc hd (fun h' c' kp e => fin its r' hz h' c' kp e) (by simp only [List.size_toArray] <;> omega)
def tyV (K : PySem.W.Frag) (T : String) (x : V) (H : Hp) : Prop := match x with
 | .str _ => T = "str"
 | .int _ => T = "int"
 | .ref p => (T = "list" ∧ ∃ xs, SqL K H p xs) ∨ (T = "tuple" ∧ ∃ o, K.lookup p = some o ∧ o.cls = .type "tuple" ∧ o.dict = none) ∨
   (T = "dict" ∧ ((∃ kvs, H p = some (.dK kvs)) ∨ ∃ kvs, H p = some (.dT kvs))) ∨ (T = "set" ∧ ∃ S n, H p = some (.set S n))
 | _ => False
theorem tyV_is {pins : List (Addr × Obj)} {σ : St} {H : Hp} {s : Shared} {T : String} {x : V} {v : Value} (I : Inv X pins σ H s) (r : RelV x v) (ty : tyV X.K T x H) :
  s.TypeIs v T ∧ ∀ a, v = .ref a → ∃ ob, s.heap.get? a = some ob ∧ ob.dict = none := by
 cases x with
 | str z =>
  obtain ⟨t, rfl⟩ := r
  cases (show T = "str" from ty)
  exact ⟨typeIs_str s z t, fun _ e => nomatch e⟩
 | int i =>
  obtain ⟨t, rfl⟩ := r
  cases (show T = "int" from ty)
  exact ⟨typeIs_int s i t, fun _ e => nomatch e⟩
 | ref p =>
  cases r
  rcases ty with ⟨rfl, xs, hq⟩ | ⟨rfl, o, hk, hc, hd⟩ | ⟨rfl, hk⟩ | ⟨rfl, S, n, hk⟩
  ·obtain ⟨its, _, pl, _⟩ := I.list hq
   refine ⟨pl.isList.typeIs, fun a e => ?_⟩
   cases e
   obtain ⟨o, n, e, c, hd, _⟩ := pl
   exact ⟨o, e, hd⟩
  ·refine ⟨⟨o, I.kIn p o hk, hc⟩, fun a e => ?_⟩
   cases e
   exact ⟨o, I.kIn _ o hk, hd⟩
  ·have z : ∃ o, s.heap.get? p = some o ∧ o.ExactDict := by
    rcases hk with ⟨kvs, hk⟩ | ⟨kvs, hk⟩
    ·obtain ⟨_, _, _, _, o, _, _, e, ex, _⟩ := I.hok p _ hk
     exact ⟨o, e, ex⟩
    ·obtain ⟨_, _, _, _, o, _, _, e, ex, _⟩ := I.hok p _ hk
     exact ⟨o, e, ex⟩
   obtain ⟨o, e, ex⟩ := z
   refine ⟨⟨o, e, ex.1⟩, fun a e2 => ?_⟩
   cases e2
   exact ⟨o, e, ex.2.1⟩
  ·obtain ⟨o, _, _, _, e, ex, _⟩ := I.hok p _ hk
   refine ⟨⟨o, e, ex.1⟩, fun a e2 => ?_⟩
   cases e2
   exact ⟨o, e, ex.2.1⟩
 | _ => exact False.elim ty
def tBM0 (K : PySem.W.Frag) (T : String) (r : V → List V → Hp → VK → Prop) (to : TE) : TE := fun σ H Q => to σ H fun x H1 => tyV K T x H1 ∧ r x [] H1 Q
def tBM (K : PySem.W.Frag) (T : String) (r : V → List V → Hp → VK → Prop) (to : TE) (t : TA) : TE := fun σ H Q => to σ H fun x H1 => tyV K T x H1 ∧ t σ H1 fun xs H2 => r x xs H2 Q
variable {o e : Expr} {es : List Expr} {to : TE} {t : TA} {name : Str} {apos cpos : Pos} {T id : String} {r : V → List V → Hp → VK → Prop}
theorem pe_bm0 (pa : PlainAttrs T) (slot : Slot T name id) (hty : typeOf (.builtin id) = pure (.type "method_descriptor")) (hm : MtR X id r) (ho : PE X o to)
  (hbase : attributeBase o name X.env (eval o X.env) = eval o X.env := by rfl) (hline : (apos.endLine == cpos.line) = true := by rfl) : PE X (.Call (.Attribute o name apos) [] [] cpos) (tBM0 X.K T r to) := by
 intro pins s σ H Q I h
 refine wpAny_Call_method0_late hbase hline (thn (ho pins s σ H _ I h) fun v s1 ⟨x, H1, I1, r1, ty, q1⟩ => ?_)
 obtain ⟨h1, h2⟩ := tyV_is I1 r1 ty
 exact ⟨T, id, pa, slot, hty, h1, h2, Calls.callWith_builtin rfl (PySem.evalArgs_none (hm pins s1 σ H1 x [] v [] Q I1 r1 .nil q1))⟩
theorem pe_bm (pa : PlainAttrs T) (slot : Slot T name id) (hty : typeOf (.builtin id) = pure (.type "method_descriptor")) (hm : MtR X id r) (ho : PE X o to) (ha : PA X (e :: es) t)
  (hbase : attributeBase o name X.env (eval o X.env) = eval o X.env := by rfl)
  (hfew : ((backTo cpos (starEach (e :: es) X.env)).all (fun x => !x.1) && (backToKw cpos (keywordEach [] X.env)).all (fun x => x.1.isSome)
   && decide ((e :: es).length + ([] : List Keyword).length + (if ([] : List Keyword).isEmpty then 0 else 1) < 30)) = true := by rfl)
  (hline : (apos.endLine == cpos.line) = true := by rfl) (hs : starEach (e :: es) X.env = (false, eval e X.env) :: starEach es X.env := by rfl) (hplain : (backTo cpos (starEach es X.env)).any (·.1) = false := by rfl) :
  PE X (.Call (.Attribute o name apos) (e :: es) [] cpos) (tBM X.K T r to t) := by
 intro pins s σ H Q I h
 refine wpAny_Call_method_late hbase hfew hline rfl (thn (ho pins s σ H _ I h) fun v s1 ⟨x, H1, I1, r1, ty, q1⟩ => ?_)
 obtain ⟨h1, h2⟩ := tyV_is I1 r1 ty
 refine ⟨T, id, pa, slot, hty, h1, h2, ?_⟩
 have hA := ha cpos pins s1 σ H1 _ I1 q1
 rw [hs] at hA ⊢
 refine Calls.callWith_builtin (by show (false || (backTo cpos (starEach es X.env)).any (·.1)) = false; rw [hplain] <;> rfl) (Calls.evalArgs_plain ?_)
 exact thn hA fun us s2 ⟨vs, H2, I2, r2, q2⟩ => hm pins s2 σ H2 x vs v us Q I2 r1 r2 q2
end
def MtM (X : Cx) (id : String) (r : V → List V → Hp → VK → Prop) : Prop :=
 ∀ (pins : List (Addr × Obj)) (s : Shared) (σ : St) (H : Hp) (x : V) (xs : List V) (v : Value) (us : List Value) (Q : VK), Inv X pins σ H s → RelV x v → Vals xs us → r x xs H Q →
  wpAny (model X.prog X.w) X.A (call (.builtin id) (v :: us)) (EP X pins σ Q) X.xe s
theorem Vals.one : ∀ {x : V} {us : List Value}, Vals [x] us → ∃ u, us = [u] ∧ RelV x u
 | _, _, .cons r .nil => ⟨_, rfl, r⟩
theorem Vals.two : ∀ {x y : V} {us : List Value}, Vals [x, y] us → ∃ u v, us = [u, v] ∧ RelV x u ∧ RelV y v
 | _, _, _, .cons r (.cons q .nil) => ⟨_, _, rfl, r, q⟩
theorem Vals.zero : ∀ {us : List Value}, Vals [] us → us = []
 | _, .nil => rfl
theorem Vals.dropLast {xs : List V} {us : List Value} (h : Vals xs us) : Vals xs.dropLast us.dropLast := by
 induction h with
 | nil => exact .nil
 | cons r t ih =>
  cases t with
  | nil => exact .nil
  | cons q t' => exact .cons r ih
theorem Vals.eraseIdx : ∀ {xs : List V} {us : List Value} (i : Nat), Vals xs us → Vals (xs.eraseIdx i) (us.eraseIdx i)
 | _, _, _, .nil => .nil
 | _, _, 0, .cons _ t => t
 | _, _, i + 1, .cons r t => .cons r (Vals.eraseIdx i t)
theorem Vals.reverse {xs : List V} {us : List Value} (h : Vals xs us) : Vals xs.reverse us.reverse := by
 induction h with
 | nil => exact .nil
 | cons r t ih => rw [List.reverse_cons, List.reverse_cons]; exact Vals.append ih (.cons r .nil)
theorem Vals.rep {xs : List V} {us : List Value} (h : Vals xs us) : ∀ k : Nat, Vals (List.replicate k xs).flatten (List.replicate k us).flatten
 | 0 => .nil
 | k + 1 => by
  rw [List.replicate_succ, List.replicate_succ, List.flatten_cons, List.flatten_cons]
  exact Vals.append h (Vals.rep h k)
theorem ye9 {α : Type} (l : List α) : l.eraseIdx (l.length - 1) = l.dropLast := by
 induction l with
 | nil => rfl
 | cons a r ih =>
  cases r with
  | nil => rfl
  | cons b r =>
   have e : (a :: b :: r).length - 1 = ((b :: r).length - 1) + 1 := by
    have h1 : (a :: b :: r).length = r.length + 2 := rfl
    have h2 : (b :: r).length = r.length + 1 := rfl
    omega
   rw [e, List.eraseIdx_cons_succ, ih]
   all_goals rfl
theorem zV0 (its : List Value) : ∀ (k : Nat) (acc : List Value),
  List.foldl (fun x1 x2 => x1 ++ x2) acc.toArray (List.replicate k its.toArray) = (acc ++ (List.replicate k its).flatten).toArray
 | 0, acc => by simp
 | k + 1, acc => by
  have e : acc.toArray ++ its.toArray = (acc ++ its).toArray := by simp
  have e2 : (acc ++ its) ++ (List.replicate k its).flatten = acc ++ (List.replicate (k + 1) its).flatten := by
   rw [List.replicate_succ, List.flatten_cons, List.append_assoc]
  rw [← e2, ← zV0 its k (acc ++ its), ← e, List.replicate_succ, List.foldl_cons]
section
variable {X : Cx} {pins : List (Addr × Obj)} {σ : St} {H : Hp} {s : Shared} {l b : Addr} {xs ys zs : List V}
theorem Inv.lset {its its' : List Value} {n : Nat} {f : Array Value → Array Value} {t' : Nat} (I : Inv X pins σ H s) (hH : H l = some (.lst xs))
  (e : s.heap.get? l = some { cls := .type "list", data := .seq its.toArray n }) (hf : f its.toArray = its'.toArray) (hv : Vals ys its') (hz : ys.length ≤ sizeLine) :
  Inv X pins σ (upd H l (.lst ys)) { s with heap := s.heap.update l (Obj.mapSeq f), toks := t' } := by
 have q := PySem.IsL.update e f
 rw [hf] at q
 refine I.write (x := l) (e := l) (by rw [hH]; exact trivial) (.inl rfl) (fun b' u hb hu => (Heap.get?_update_other s.heap (Obj.mapSeq f) (Ne.symm hb)).trans hu) ⟨_, q⟩ ?_
 exact ⟨hz, its', _, hv, q⟩
theorem Inv.lnew {its : List Value} {t' : Nat} (I : Inv X pins σ H s) (hv : Vals ys its) (hz : ys.length ≤ sizeLine) :
  Inv X pins σ (upd H s.heap.objs.size (.lst ys)) { s with heap := s.heap.push { cls := .type "list", data := .seq its.toArray }, toks := t' } :=
 I.laid (fun _ _ q => Heap.get?_push_of_some _ q) (Nat.le_refl _) ⟨hz, its, 0, hv, Heap.get?_push_size _ rfl⟩
theorem Inv.fresh (I : Inv X pins σ H s) : H s.heap.objs.size = none := I.hok.fresh (Nat.le_refl _)
theorem Inv.lstM (I : Inv X pins σ H s) (hH : H l = some (.lst xs)) : xs.length ≤ sizeLine ∧ ∃ (its : List Value) (n : Nat), Vals xs its ∧ xs.length = its.length ∧ s.heap.get? l = some { cls := .type "list", data := .seq its.toArray n } := by
 obtain ⟨z, its, n, r, e⟩ := I.hok l _ hH
 exact ⟨z, its, n, r, r.length, e⟩
theorem notLongL {n : Nat} (h : n ≤ sizeLine) : Builtin.List.listTooLong n = false := by
 unfold Builtin.List.listTooLong
 exact decide_eq_false (by omega)
end
section
variable {X : Cx}
def rAppend : V → List V → Hp → VK → Prop := fun x vs H Q => ∃ l xs y, x = .ref l ∧ vs = [y] ∧ H l = some (.lst xs) ∧ xs.length < sizeLine ∧ Q .non (upd H l (.lst (xs ++ [y])))
theorem zz5 : MtM X "list.append" rAppend := by
 intro pins s σ H x vs v us Q I rx rv h
 obtain ⟨l, xs, y, rfl, rfl, hH, hz, q⟩ := h
 cases rx
 obtain ⟨u, rfl, ru⟩ := rv.one
 obtain ⟨z, its, n, r, hl, e⟩ := I.lstM hH
 refine call_meets F.slot_list_append ⟨_, e, rfl⟩ F.entry_list_append (F.args_list_append_2 _ _) (PySem.list_append l its.toArray n u (by rw [List.size_toArray]; omega)) ⟨e, ?_⟩
 refine ⟨.non, _, I.lset (its' := its ++ [u]) hH e (by simp) (r.append (.cons ru .nil)) ?_, rfl, q⟩
 rw [List.length_append, List.length_singleton]
 omega
def rPop : V → List V → Hp → VK → Prop := fun x vs H Q => ∃ l xs y, x = .ref l ∧ vs = [] ∧ H l = some (.lst xs) ∧ xs[xs.length - 1]? = some y ∧ Q y (upd H l (.lst xs.dropLast))
theorem mt_pop : MtM X "list.pop" rPop := by
 intro pins s σ H x vs v us Q I rx rv h
 obtain ⟨l, xs, y, rfl, rfl, hH, hy, q⟩ := h
 cases rx
 have hus := rv.zero
 subst hus
 obtain ⟨z, its, n, r, hl, e⟩ := I.lstM hH
 obtain ⟨u, hu, ru⟩ := r.get hy
 have hy' : its.toArray[its.toArray.size - 1]? = some u := by
  show its.toArray[its.length - 1]? = some u
  rw [← Array.getElem?_toList, ← hl]
  exact hu
 refine call_meets F.slot_list_pop ⟨_, e, rfl⟩ F.entry_list_pop (F.args_list_pop_1 _) (MeetsSeq.list_pop_last l its.toArray n u hy' (by rw [List.size_toArray]; omega)) ⟨e, ?_⟩
 refine ⟨y, _, I.lset (its' := its.dropLast) hH e ?_ r.dropLast ?_, ru, q⟩
 ·show its.toArray.eraseIdxIfInBounds (its.toArray.size - 1) = its.dropLast.toArray
  rw [List.size_toArray, List.eraseIdxIfInBounds_toArray, ye9]
 ·rw [List.length_dropLast]
  omega
def rCat : R2 := fun x y H Q => ∃ l b xs zs, x = .ref l ∧ y = .ref b ∧ H l = some (.lst xs) ∧ H b = some (.lst zs) ∧ xs.length + zs.length ≤ sizeLine ∧ ∀ p, H p = none → Q (.ref p) (upd H p (.lst (xs ++ zs)))
theorem op_cat : OpR X (binaryOp .Add) rCat := by
 intro pins s σ H x y v u Q I rx ry h
 obtain ⟨l, b, xs, zs, rfl, rfl, hH, hB, hz, q⟩ := h
 cases rx
 cases ry
 obtain ⟨z, its, n, r, hl, e⟩ := I.lstM hH
 obtain ⟨z2, its2, n2, r2, hl2, e2⟩ := I.lstM hB
 refine PySem.P.add_list e e2 ?_ (by rw [List.size_toArray, List.size_toArray]; omega)
 have ea : its.toArray ++ its2.toArray = (its ++ its2).toArray := by simp
 rw [ea]
 exact ⟨.ref _, _, I.lnew (t' := s.toks) (r.append r2) (by rw [List.length_append]; omega), rfl, q _ I.fresh⟩
def rRep : R2 := fun x y H Q => ∃ l k xs, x = .ref l ∧ y = .int k ∧ H l = some (.lst xs) ∧ -(2 ^ 63) ≤ k ∧ k < 2 ^ 63 ∧ xs.length * k.toNat ≤ sizeLine ∧
 ∀ p, H p = none → Q (.ref p) (upd H p (.lst (List.replicate k.toNat xs).flatten))
theorem len_rep {α : Type} (xs : List α) (k : Nat) : (List.replicate k xs).flatten.length = k * xs.length := by
 induction k with
 | zero => simp
 | succ k ih => rw [List.replicate_succ, List.flatten_cons, List.length_append, ih, Nat.succ_mul, Nat.add_comm]
theorem op_rep : OpR X (binaryOp .Mult) rRep := by
 intro pins s σ H x y v u Q I rx ry h
 obtain ⟨l, k, xs, rfl, rfl, hH, h1, h2, hz, q⟩ := h
 cases rx
 obtain ⟨t, rfl⟩ := ry
 obtain ⟨z, its, n, r, hl, e⟩ := I.lstM hH
 have hlen : its.toArray.size * k.toNat ≤ sizeLine := by rw [List.size_toArray, ← hl]; exact hz
 have hcap : ¬ its.toArray.size * k.toNat > (2 ^ 63 - 1) / 8 := by
  have : (sizeLine : Nat) ≤ (2 ^ 63 - 1) / 8 := by decide
  omega
 have hfit : ¬ (!Builtin.List.listFitsIndex k) = true := by
  rw [fitsIndex_both h1 h2]
  exact Bool.false_ne_true
 have hlong : ¬ Builtin.List.listTooLong (its.toArray.size * k.toNat) = true := by
  rw [notLongL hlen]
  exact Bool.false_ne_true
 have hnew : List.foldl (fun x1 x2 => x1 ++ x2) #[] (List.replicate (if its.toArray.isEmpty = true then 0 else k.toNat) its.toArray) = (List.replicate k.toNat its).flatten.toArray := by
  have f0 : ∀ m : Nat, List.foldl (fun x1 x2 => x1 ++ x2) #[] (List.replicate m its.toArray) = (List.replicate m its).flatten.toArray := fun m => by
   have := zV0 its m []
   rw [List.nil_append] at this
   exact this
  rw [f0]
  cases its with
  | nil => simp
  | cons a r' => rw [if_neg (by simp)]
 refine wpAny_binaryOp_repeat_ref (T := "list") (U := "int") (by decide) ⟨_, e, rfl⟩ (fun s' => typeIs_int s' k t) noFill_list_mul F.fills_int_mul F.slot_int_rmul repeat_list F.slot_int_index.lookup
  (call_meets F.slot_int_rmul (typeIs_int s k t) F.entry_int_rmul (F.args_int_rmul_2 _ _) (int___rmul___int_list k t l its.toArray n)
   ⟨e, rfl, ⟨_, e, rfl⟩, call_meets F.slot_list_mul ⟨_, e, rfl⟩ F.entry_list_mul (F.args_list_mul_2 _ _) (AutoListH.list___mul___list_int_3 l its.toArray n k t hfit hcap hlong) ⟨e, ?_⟩⟩)
 rw [hnew]
 exact ⟨.ref _, _, I.lnew (t' := s.toks) (r.rep k.toNat) (by rw [len_rep, Nat.mul_comm]; exact hz), rfl, q _ I.fresh⟩
end
section
variable {prog : Program} {w : World} {A : Around} {E : Value → Shared → Prop} {s : Shared}
end
section
variable {X : Cx}
end
end L2
namespace Att
open PySem PySem.W PySem.Calls PyProof.Rows
theorem zI6 {P : Params} {h : Heap} : ∀ (ns : List Int) (vs : List Value), WellAll P h vs (ns.map WData.int) → IntsAre vs ns := by
 intro ns
 induction ns with
 | nil =>
  intro vs w
  rw [List.map_nil] at w
  cases w
  exact .nil
 | cons n ns ih =>
  intro vs w
  rw [List.map_cons] at w
  cases w with
  | cons a b =>
   cases a
   exact .cons _ _ (ih _ b)
theorem yh3 {l : OpenLaw} {n : Nat} (hn : l.most = some n) {P : Params} {h : Heap} {args : List WData} {vals : List Value}
  (hpre : l.row.toRowW.claim.pre args = true) (hwl : WellAll P h vals args) :
  ∃ a vs ns, vals = [Value.ref a] ∧ args = [WData.list (ns.map WData.int)] ∧ h.get? a = some { cls := .type "list", data := .seq vs.toArray } ∧ IntsAre vs ns ∧ ns.length ≤ n := by
 have hsh : WShape.hasAll [] args [.list .int] = true := (pre_splitW hpre).1
 have hc : l.pre.holds [] { args := args } = true := (pre_splitW hpre).2
 obtain ⟨d, r, rfl, h1, h2⟩ := hasAllW_cons hsh
 obtain rfl := hasAllW_nil h2
 obtain ⟨xs, rfl, h3⟩ := hasW_list h1
 obtain ⟨ns, rfl⟩ := items_int h3
 have hlen : ns.length ≤ n := by
  unfold OpenLaw.pre at hc
  have h4 : (WTm.not (.lt (.lit (.int (n : Int))) (.len (.arg 0)))).holds [] { args := [.list (ns.map .int)] } = true := by
   have h4 := (holds_andW hc).1
   rw [hn] at h4
   exact h4
  have h5 := condW_of h4 (w_not (w_lt w_lit (w_len_list (w_arg rfl))))
  rw [List.length_map] at h5
  refine Nat.le_of_not_lt fun q => ?_
  have q' : (n : Int) < ((ns.length : Nat) : Int) := by omega
  first
   | (rw [decide_eq_true q'] at h5; exact absurd h5 (by decide))
   | (simp at h5; omega)
 cases hwl with
 | cons w1 w2 =>
  cases w2
  cases w1 with
  | list ho hall => exact ⟨_, _, ns, rfl, rfl, ho, zI6 ns _ hall, hlen⟩
theorem yi0 (l : OpenLaw) (args : List WData) : l.row.toRowW.claim.post args (.bool true) args = true :=
 postW_of (r := l.row.toRowW) (X := (true == true))
  (show WShape.has [] (.bool true) .bool = true by first | rfl | decide | simp [WShape.has, WShape.arms, WShape.armsAll])
  (show (WTm.eq .res (.lit (.bool true))).value [] { args := args, res := some (.bool true), after := args } = some (.bool (true == true)) from w_eq_bool (w_res rfl) w_lit) rfl
theorem attach_call {l : OpenLaw} {n : Nat} {q : Program} {loose : List Str} {XP : (Str → Option Value) → Heap → Prop} {YP : World → Heap → Prop} {d : DefRec}
  (hn : l.most = some n) (hdf : d.params.defaults = [])
  (call : ∀ (w : World) (s₀ s₁ : Shared) (mg mb : Str → Option Value) (fa : Addr) (o : Obj) (pm cd doc : Value) (a : Addr) (vs : List Value) (ns : List Int),
   Ground q loose [] XP w s₀ mg mb s₁.heap → YP w s₁.heap →
   s₁.heap.get? fa = some o → o.data = .func (docDef d.name d.params d.body d.scope pm cd doc) → s₁.heap.CodeRec cd d.name → mg d.name = some (.ref fa) →
   s₁.heap.get? a = some { cls := .type "list", data := .seq vs.toArray } → IntsAre vs ns → ns.length ≤ n → s₁.gens = #[] →
   codeAny (model l.prog w) callerA (.call (.ref fa) ⟨[.ref a], []⟩) (fun r s' => r = .ok (.ret (.bool true)) ∧ OldK s₁.heap s'.heap ∧ s'.os = s₁.os ∧ AllBare s'.gens) s₁) :
  WalkO q loose XP YP l.row.toRowW d [] (fun f vs => PySem.call f vs) := by
 intro w s₀ s₁ mg mb G Y fa o pm cd doc dV kV ho hd hcd hD hmg hg args vals as hpre hlay hrd hwl hlo
 obtain rfl : dV = .none := Dflts.none hD hdf
 obtain rfl : kV = .none := Dflts.noKw hD
 obtain ⟨a, vs, ns, rfl, rfl, hobj, hints, hlen⟩ := yh3 hn hpre hwl
 refine enter_call (codeAny_mono (call w s₀ s₁ mg mb fa o pm cd doc a vs ns G Y ho (fd_plain hd) hcd hmg hobj hints hlen hg) fun r s' hq => ?_)
 obtain ⟨rfl, h2, h3, h4⟩ := hq
 exact ⟨.inl ⟨.bool true, .bool true, [], rfl, fun _ => rfl, .bool true, yi0 l _, fun _ => ⟨List.Pairwise.nil, fun _ hm => (nomatch hm)⟩⟩, h2, h3, h4⟩
section
variable {prog : Program} {w : World} {A : Around} {E : Value → Shared → Prop} {s : Shared} {K : Frag}
def ledger (h : Heap) (L d : Addr) : List (Addr × Obj) := (List.range h.objs.size).filterMap fun a => if a = L ∨ a = d then none else (h.get? a).map fun o => (a, o)
end
end Att
namespace L2
open PySem PySem.Spec PyProof.Rows
theorem zF2 : ∀ {vs : List Value} {ns : List Int}, IntsAre vs ns → Vals (ns.map V.int) vs
 | _, _, .nil => .nil
 | _, _, .cons n t h => .cons ⟨t, rfl⟩ (zF2 h)
def Only (H : Hp) : Prop := ∀ b, H b = none ∨ ∃ o xs, H b = some (.frz o (.lst xs))
theorem law_call {P : Program} {w : World} {K : PySem.W.Frag} {mg mb : Str → Option Value} {CX : CXT} {k : Nat} {fa a : Addr} {fd : FuncData} {x : Str} {sp : Sp} {s₁ : Shared} {vs : List Value} {ns : List Int}
  (KX : K.In s₁.heap) (hns : s₁.heap.Ns mainGlobals mg) (hb : s₁.heap.Ns builtinsNs mb) (hbb : ∀ x : Str, x ≠ "__name__" → mb x = bootBuiltins x) (hlim : s₁.heap.NoLimit) (hg : s₁.gens = #[])
  (ha : s₁.heap.get? a = some { cls := .type "list", data := .seq vs.toArray }) (hi : IntsAre vs ns) (hl : ns.length ≤ sizeLine) (hr : Room k callerA)
  (F : ∀ base : Heap, K.In base → base.Ns mainGlobals mg → FnOk P w K mg base CX k fa fd [x] sp) (hbind : ∀ (s : Shared) (u : Value), BindsTo s fd ⟨[u], []⟩ [(x, u)])
  (hsp : ∀ H : Hp, Only H → SqL K H a (ns.map V.int) → sp [.ref a] H (fun v _ => v = .bl true) fun _ _ _ => False)
  (hCX : ∀ H e s', CX [] H s₁ (fun _ _ _ => False) e s' → False) :
  codeAny (model P w) callerA (.call (.ref fa) ⟨[.ref a], []⟩) (fun r s' => r = .ok (.ret (.bool true)) ∧ OldK s₁.heap s'.heap ∧ s'.os = s₁.os ∧ AllBare s'.gens) s₁ := by
 have rv := zF2 hi
 have lenV := hi.length
 have core : ∀ H : Hp, Only H → SqL K H a (ns.map V.int) → HOk P w H s₁.heap → (∀ b, H b ≠ none → b = a) → (H a ≠ none → K.lookup a = none) →
   codeAny (model P w) callerA (.call (.ref fa) ⟨[.ref a], []⟩) (fun r s' => r = .ok (.ret (.bool true)) ∧ OldK s₁.heap s'.heap ∧ s'.os = s₁.os ∧ AllBare s'.gens) s₁ := by
  intro H hO hS hok hA hK
  have base_of : ∀ {b : Addr} {o : Obj}, s₁.heap.get? b = some o → H b = none → (hidT s₁.heap H).get? b = some o := fun e n => yc7 e n
  have noA : ∀ {b : Addr} {o : Obj} {es : Array DictEntry} {ep : Nat}, s₁.heap.get? b = some o → o.data = .dict es ep → H b = none := fun {b o es ep} e d => by
   cases q : H b with
   | none => rfl
   | some u =>
    have e' : b = a := hA b (by rw [q]; simp)
    subst e'
    rw [ha] at e; cases e
    have d' : Data.seq vs.toArray _ = Data.dict es ep := d
    cases d'
  have nsK : ∀ {b : Addr} {m : Str → Option Value}, s₁.heap.Ns b m → (hidT s₁.heap H).Ns b m := fun {b m} ⟨o, es, ep, e, d, r⟩ => ⟨o, es, ep, base_of e (noA e d), d, r⟩
  have hKb : K.In (hidT s₁.heap H) := fun b o e => base_of (KX b o e) (by
   cases q : H b with
   | none => rfl
   | some u =>
    have e' : b = a := hA b (by rw [q]; simp)
    subst e'
    rw [hK (by rw [q]; simp)] at e; cases e)
  have hM : Mod K mg (hidT s₁.heap H) := ⟨hKb, nsK hns, ⟨mb, nsK hb, hbb⟩, let ⟨mc, h1, h2⟩ := hlim; ⟨mc, nsK h1, h2⟩⟩
  have e0 : Env0 P w K mg (hidT s₁.heap H) callerA [] s₁ H := ⟨rfl, hM, fun b o e => yk3 e, Nat.le_of_eq (zU9 _ _), trivial, fun b hb => absurd (show b ∈ ([] : List Addr) from hb) (by simp), hok, .of_eq hg⟩
  refine codeAny_mono ((F _ hKb (nsK hns)).run callerA [] s₁ H ⟨[.ref a], []⟩ [.ref a] [.ref a] _ _ hr e0 (hbind s₁ (.ref a)) (.cons rfl .nil) (hsp H hO hS)) fun r s' h => ?_
  cases r with
  | error e => exact (hCX H e s' h).elim
  | ok fl =>
   cases fl with
   | next => exact False.elim h
   | brk => exact False.elim h
   | cont => exact False.elim h
   | ret u =>
    obtain ⟨v, H', os, bare, un, hok', r', q⟩ := h
    have q' : v = .bl true := q
    subst q'
    obtain rfl : u = Value.bool true := r'
    refine ⟨rfl, OldK.of_keep fun b o e => ?_, os, bare⟩
    cases q : H b with
    | none => exact un.keep b o e q (by intro z; exact absurd (show b ∈ ([] : List Addr) from z) (by simp)) (by simp)
    | some u =>
     rcases hO b with z | ⟨ob, xs, z⟩
     ·rw [q] at z; cases z
     ·have z2 := un.frzs b ob _ z
      obtain ⟨e1, _⟩ := hok b _ z
      obtain ⟨e2, _⟩ := hok' b _ z2
      rw [e] at e1; cases e1
      exact e2
 cases hk : K.lookup a with
 | some o =>
  have e := KX a o hk
  rw [ha] at e
  cases e
  refine core (fun _ => none) (fun _ => .inl rfl) (.inr ⟨_, vs.toArray, _, hk, rfl, rfl, rfl, by rw [List.size_toArray, lenV]; exact hl, by simpa using rv⟩) (fun b u z => by have z' : (none : Option HO) = some u := z; cases z') (fun b z => absurd rfl z) fun z => absurd rfl z
 | none =>
  refine core (fun b => if b = a then some (.frz { cls := .type "list", data := .seq vs.toArray } (.lst (ns.map V.int))) else none) (fun b => ?_) (.inl (.inr ⟨{ cls := .type "list", data := .seq vs.toArray }, if_pos rfl⟩)) (fun b u z => ?_) (fun b z => ?_) fun _ => hk
  ·by_cases hb : b = a
   ·exact .inr ⟨_, _, if_pos hb⟩
   ·exact .inl (if_neg hb)
  ·by_cases hb : b = a
   ·have z' := (if_pos hb).symm.trans z
    cases z'
    subst hb
    exact ⟨ha, by rw [List.length_map]; exact hl, vs, _, rv, ha⟩
   ·have z' := (if_neg hb).symm.trans z
    cases z'
  ·by_cases hb : b = a
   ·exact hb
   ·exact absurd (if_neg hb) z
abbrev KOf {K : PySem.W.Frag} {h : Heap} (_ : K.In h) : PySem.W.Frag := K
theorem walk_of {l : PySem.W.OpenLaw} {n k : Nat} {q : Program} {loose : List Str} {XP : (Str → Option Value) → Heap → Prop} {YP : World → Heap → Prop} {d : DefRec} {K : Params → PySem.W.Frag} {CX : World → CXT} {sp : World → Sp} {x : Str}
  (hn : l.most = some n) (hn2 : n ≤ sizeLine) (hdf : d.params.defaults = []) (hr : Room k callerA)
  (hY : ∀ (w : World) (h : Heap), YP w h → (K w.params).In h)
  (F : ∀ (w : World) (mg : Str → Option Value) (fa : Addr) (h : Heap), (K w.params).In h → h.Ns mainGlobals mg → mg d.name = some (.ref fa) →
   ∃ fd : FuncData, (∀ (s : Shared) (u : Value), BindsTo s fd ⟨[u], []⟩ [(x, u)]) ∧
    ∀ base : Heap, (K w.params).In base → base.Ns mainGlobals mg → FnOk l.prog w (K w.params) mg base (CX w) k fa fd [x] (sp w))
  (hsp : ∀ (w : World) (H : Hp) (a : Addr) (ns : List Int), ns.length ≤ n → Only H → SqL (K w.params) H a (ns.map V.int) → sp w [.ref a] H (fun v _ => v = .bl true) fun _ _ _ => False)
  (hCX : ∀ (w : World) (H : Hp) (s : Shared) (e : Value) (s' : Shared), CX w [] H s (fun _ _ _ => False) e s' → False) :
  PySem.W.WalkO q loose XP YP l.row.toRowW d [] (fun f vs => PySem.call f vs) := by
 refine Att.attach_call hn hdf fun w s₀ s₁ mg mb fa o pm cd doc a vs ns G Y ho hd hcd hmg hobj hints hlen hg => ?_
 have KX := hY w _ Y
 obtain ⟨fd, hb, hF⟩ := F w mg fa _ KX G.T.g hmg
 exact law_call KX G.T.g G.T.b G.T.builtins G.T.nolimit hg hobj hints (Nat.le_trans hlen hn2) hr hF hb (fun H hO hS => hsp w H a ns hlen hO hS) fun H e s' => hCX w H s₁ e s'
def zr1 (s : Stmt) (j : Nat) : Stmt := match s with
 | .ClassDef _ _ _ body _ _ _ _ _ _ _ => body.getD j (.Pass ⟨0, 0, 0, 0⟩)
 | _ => .Pass ⟨0, 0, 0, 0⟩
def zb9 (s : Stmt) : Arguments := match s with
 | .FunctionDef _ a _ _ _ _ _ _ _ _ => a
 | _ => { posonlyargs := [], args := [], vararg := none, kwonlyargs := [], kw_defaults := [], kwarg := none, defaults := [] }
def zb1 (s : Stmt) : List Stmt := match s with
 | .FunctionDef _ _ b _ _ _ _ _ _ _ => b
 | _ => []
def za3 (s : Stmt) : Scope := match s with
 | .FunctionDef _ _ _ _ _ _ sc _ _ _ => sc
 | _ => { kind := .function, names := [], isGenerator := false, isCoroutine := false }
abbrev CX0 : CXT := fun _ _ _ _ _ _ => False
abbrev E0 : XK := fun _ _ _ => False
theorem pass0 {X : Cx} : zJ7 CX0 X E0 := fun _ _ _ _ _ _ _ h => h.elim
structure Fun (K : PySem.W.Frag) (x qual : Str) (st : Stmt) (f : Addr) (fd : FuncData) : Prop where
 ex : ∃ (oc : Value) (od : Option Addr) (kV doc pm : Value) (an : Option Addr) (cdv ct : Value) (osl : Array (Option Value)),
  fd = PySem.W.fnOf x qual (zb9 st) (zb1 st) (za3 st) .none kV doc pm an cdv ct ∧ K.lookup f = some ⟨oc, od, .func fd, osl⟩ ∧ PySem.W.codeIn K cdv qual = true
 kp : PySem.W.keepIn K (.ref f) = true
section
variable {P : Program} {w : World} {K : PySem.W.Frag} {mg : Str → Option Value} {base : Heap}
theorem Fun.ok {x qual : Str} {st : Stmt} {f : Addr} {fd : FuncData} {N ps : List Str} {k : Nat} {sp : Sp} (F : Fun K x qual st f fd) (S : zb8 N ps (za3 st)) (len : ∀ vs H Q E, sp vs H Q E → vs.length = ps.length)
  (hbody : ∀ (cdv : Value) (A : Around) (outer : List Env) (s : Shared) (H : Hp) (vs : List V) (Q : VK) (E : XK), Room k (A.deeper (envOfC qual (za3 st) s.heap.objs.size f cdv)) → sp vs H Q E →
   ∃ t, PSs (cxOf CX0 P w K mg base N qual (za3 st) f cdv A outer s H E).nox (zb1 st) t ∧ t { nx := fun _ H' => Q .non H', rt := Q } (start N vs) H) : FnOk P w K mg base CX0 (k + 1) f fd ps sp := by
 obtain ⟨oc, od, kV, doc, pm, an, cdv, ct, osl, rfl, lk, hcd⟩ := F.ex
 refine fn_of lk hcd S len fun A outer s H vs Q E hr hsp => ?_
 obtain ⟨t, h, q⟩ := hbody cdv A outer s H vs Q E hr hsp
 exact ⟨t, h.nox, q⟩
theorem Fun.binds {x qual : Str} {st : Stmt} {f : Addr} {fd : FuncData} {ps : List Str} (F : Fun K x qual st f fd)
  (h : ∀ (kV doc pm : Value) (an : Option Addr) (cdv ct : Value) (us : List Value), us.length = ps.length → bindArgs (PySem.W.fnOf x qual (zb9 st) (zb1 st) (za3 st) .none kV doc pm an cdv ct) ⟨us, []⟩ = pure (ps.zip us)) : Binds K fd ps [] := by
 obtain ⟨oc, od, kV, doc, pm, an, cdv, ct, osl, rfl, lk, hcd⟩ := F.ex
 exact .all (h kV doc pm an cdv ct)
theorem ze9 {x qual : Str} {st : Stmt} {f : Addr} {oc : Value} {od an : Option Addr} {osl : Array (Option Value)} {kV doc pm cdv ct : Value} (l : K.lookup f = some ⟨oc, od, .func (PySem.W.fnOf x qual (zb9 st) (zb1 st) (za3 st) .none kV doc pm an cdv ct), osl⟩)
  (c : PySem.W.codeIn K cdv qual = true) (k : PySem.W.keepIn K (.ref f) = true) : Fun K x qual st f (PySem.W.fnOf x qual (zb9 st) (zb1 st) (za3 st) .none kV doc pm an cdv ct) := ⟨⟨oc, od, kV, doc, pm, an, cdv, ct, osl, rfl, l, c⟩, k⟩
end
theorem zq6 {n : Nat} (h : n ≤ 1000) : n < sizeLine := Nat.lt_of_le_of_lt h (by decide)
section
variable {X : Cx}
theorem pv (i : Nat) {x : Str} {pos : Pos} (hN : X.N[i]? = some x := by rfl) (hv : Vis X.env.scope x := by first | exact Or.inl rfl | exact Or.inr (Or.inl rfl) | exact Or.inr (Or.inr rfl)) (hd : (x == ("__debug__" : Str)) = false := by decide)
  (hcd : (x == ("__classdict__" : Str)) = false := by decide) : PE X (.Name x pos) (tVar i) := pe_var hN hv hd hcd
end
def Same (H H' : Hp) : Prop := ∀ b o, H b = some o → H' b = some o
theorem Same.refl (H : Hp) : Same H H := fun _ _ h => h
theorem Same.trans {H H1 H2 : Hp} (a : Same H H1) (b : Same H1 H2) : Same H H2 := fun c o h => b c o (a c o h)
theorem Same.free {H H' : Hp} (e : Same H H') {l : Addr} (h : H' l = Option.none) : H l = Option.none := by
 cases q : H l with
 | none => rfl
 | some o =>
  rw [e l o q] at h
  cases h
theorem Same.seq {K : PySem.W.Frag} {H H' : Hp} {a : Addr} {xs : List V} (e : Same H H') (h : SqL K H a xs) : SqL K H' a xs := by
 rcases h with (h | ⟨o, h⟩) | h
 ·exact .inl (.inl (e _ _ h))
 ·exact .inl (.inr ⟨o, e _ _ h⟩)
 ·exact .inr h
end L2
set_option Elab.async false
set_option linter.all false
set_option maxRecDepth 100000
namespace FD
open PySem PySem.Spec PyProof.Rows L2
abbrev St := L2.St
inductive D where
 | non | bl (b : Bool) | int (i : Int) | str (x : Str) | lst (xs : List D) | tup (xs : List D) | scr (ns : List Int) | raw (v : V) | exc (c : Str)
inductive Rs (α : Type) where
 | ok (a : α) | ex (c : Str) | no
def Rs.bind {α β : Type} (r : Rs α) (k : α → Rs β) : Rs β := match r with
 | .ok a => k a
 | .ex c => .ex c
 | .no => .no
@[simp] theorem Rs.bind_ok {α β : Type} (a : α) (k : α → Rs β) : (Rs.ok a).bind k = k a := rfl
def excIs (K : PySem.W.Frag) (a : Addr) (c : Str) : Heap → Prop := fun h => ∃ oe cls vs, h.get? a = some oe ∧ oe.cls = cls ∧ oe.dict = none ∧ oe.data = .fields vs ∧ PySem.W.nsIn K mainGlobals c = some (some cls)
section
variable (K : PySem.W.Frag)
mutual
def Rep (F : Hp) : D → V → Prop
 | .non, v => v = .non
 | .bl b, v => v = .bl b
 | .int i, v => v = .int i
 | .str x, v => v = .str x
 | .lst ds, v => ∃ a vs, v = .ref a ∧ F a = some (.lst vs) ∧ Reps F ds vs
 | .scr ns, v => ∃ a, v = .ref a ∧ SqL K F a (ns.map V.int)
 | .tup ds, v => ∃ a vs, v = .ref a ∧ SqT K F a vs ∧ Reps F ds vs
 | .raw u, v => v = u
 | .exc c, v => ∃ a, v = .ref a ∧ F a = some (.ext (excIs K a c))
def Reps (F : Hp) : List D → List V → Prop
 | [], vs => vs = []
 | d :: ds, vs => ∃ v r, vs = v :: r ∧ Rep F d v ∧ Reps F ds r
end
end
theorem Same.refl (H : Hp) : Same H H := fun _ _ h => h
theorem Same.seqT {K : PySem.W.Frag} {H H' : Hp} {a : Addr} {xs : List V} (e : Same H H') (h : SqT K H a xs) : SqT K H' a xs := by
 rcases h with (h | ⟨o, h⟩) | h
 ·exact .inl (.inl (e _ _ h))
 ·exact .inl (.inr ⟨o, e _ _ h⟩)
 ·exact .inr h
section
variable {K : PySem.W.Frag} {F F' : Hp}
mutual
theorem Rep.mono (h : Same F F') : ∀ {d : D} {v : V}, Rep K F d v → Rep K F' d v
 | .non, _, r => by simpa only [Rep] using r
 | .bl _, _, r => by simpa only [Rep] using r
 | .int _, _, r => by simpa only [Rep] using r
 | .str _, _, r => by simpa only [Rep] using r
 | .raw _, _, r => by simpa only [Rep] using r
 | .exc c, v, r => by
  simp only [Rep] at r ⊢
  obtain ⟨a, e, q⟩ := r
  exact ⟨a, e, h _ _ q⟩
 | .lst ds, v, r => by
  simp only [Rep] at r ⊢
  obtain ⟨a, vs, e, q, t⟩ := r
  exact ⟨a, vs, e, h _ _ q, Reps.mono h t⟩
 | .scr ns, v, r => by
  simp only [Rep] at r ⊢
  obtain ⟨a, e, q⟩ := r
  exact ⟨a, e, h.seq q⟩
 | .tup ds, v, r => by
  simp only [Rep] at r ⊢
  obtain ⟨a, vs, e, q, t⟩ := r
  exact ⟨a, vs, e, Same.seqT h q, Reps.mono h t⟩
theorem Reps.mono (h : Same F F') : ∀ {ds : List D} {vs : List V}, Reps K F ds vs → Reps K F' ds vs
 | [], _, r => by simpa only [Reps] using r
 | d :: ds, vs, r => by
  simp only [Reps] at r ⊢
  obtain ⟨v, r', e, q, t⟩ := r
  exact ⟨v, r', e, Rep.mono h q, Reps.mono h t⟩
end
theorem Reps.length : ∀ {ds : List D} {vs : List V}, Reps K F ds vs → ds.length = vs.length
 | [], _, r => by simp only [Reps] at r; subst r; rfl
 | d :: ds, _, r => by
  simp only [Reps] at r
  obtain ⟨v, r', rfl, _, t⟩ := r
  simp [Reps.length t]
theorem Reps.get : ∀ {ds : List D} {vs : List V} {i : Nat} {d : D}, Reps K F ds vs → ds[i]? = some d → ∃ v, vs[i]? = some v ∧ Rep K F d v
 | [], _, _, _, _, e => by simp at e
 | d :: ds, _, 0, _, r, e => by
  simp only [Reps] at r
  obtain ⟨v, r', rfl, q, t⟩ := r
  simp at e; subst e
  exact ⟨v, rfl, q⟩
 | d :: ds, _, i + 1, _, r, e => by
  simp only [Reps] at r
  obtain ⟨v, r', rfl, q, t⟩ := r
  obtain ⟨w, h1, h2⟩ := Reps.get (i := i) t (by simpa using e)
  exact ⟨w, by simpa using h1, h2⟩
theorem Reps.nil : Reps K F [] [] := by simp only [Reps]
theorem Reps.cons {d : D} {v : V} {ds : List D} {vs : List V} (h : Rep K F d v) (t : Reps K F ds vs) : Reps K F (d :: ds) (v :: vs) := by
 simp only [Reps]; exact ⟨v, vs, rfl, h, t⟩
theorem Reps.append : ∀ {ds es : List D} {vs ws : List V}, Reps K F ds vs → Reps K F es ws → Reps K F (ds ++ es) (vs ++ ws)
 | [], _, _, _, r, t => by simp only [Reps] at r; subst r; exact t
 | d :: ds, es, _, ws, r, t => by
  simp only [Reps] at r
  obtain ⟨v, r', rfl, q, u⟩ := r
  exact Reps.cons q (Reps.append u t)
theorem Reps.take : ∀ {ds : List D} {vs : List V} (n : Nat), Reps K F ds vs → Reps K F (ds.take n) (vs.take n)
 | _, _, 0, _ => by simp only [List.take_zero]; exact Reps.nil
 | [], _, n + 1, r => by simp only [Reps] at r; subst r; simp only [List.take_nil]; exact Reps.nil
 | d :: ds, _, n + 1, r => by
  simp only [Reps] at r
  obtain ⟨v, r', rfl, q, u⟩ := r
  exact Reps.cons q (Reps.take n u)
theorem Reps.drop : ∀ {ds : List D} {vs : List V} (n : Nat), Reps K F ds vs → Reps K F (ds.drop n) (vs.drop n)
 | _, _, 0, r => r
 | [], _, n + 1, r => by simp only [Reps] at r; subst r; simp only [List.drop_nil]; exact Reps.nil
 | d :: ds, _, n + 1, r => by
  simp only [Reps] at r
  obtain ⟨v, r', rfl, q, u⟩ := r
  exact Reps.drop n u
theorem Reps.reverse : ∀ {ds : List D} {vs : List V}, Reps K F ds vs → Reps K F ds.reverse vs.reverse
 | [], _, r => by simp only [Reps] at r; subst r; exact Reps.nil
 | d :: ds, _, r => by
  simp only [Reps] at r
  obtain ⟨v, r', rfl, q, u⟩ := r
  rw [List.reverse_cons, List.reverse_cons]
  exact Reps.append (Reps.reverse u) (Reps.cons q Reps.nil)
theorem Reps.set {d : D} {v : V} (h : Rep K F d v) : ∀ {ds : List D} {vs : List V} (i : Nat), Reps K F ds vs → Reps K F (ds.set i d) (vs.set i v)
 | [], _, _, r => by simp only [Reps] at r; subst r; exact Reps.nil
 | e :: ds, _, 0, r => by
  simp only [Reps] at r
  obtain ⟨w, r', rfl, q, u⟩ := r
  exact Reps.cons h u
 | e :: ds, _, i + 1, r => by
  simp only [Reps] at r
  obtain ⟨w, r', rfl, q, u⟩ := r
  exact Reps.cons q (Reps.set h i u)
theorem Reps.one {d : D} {vs : List V} (h : Reps K F [d] vs) : ∃ v, vs = [v] ∧ Rep K F d v := by
 simp only [Reps] at h
 obtain ⟨v, r, e, q, e2⟩ := h
 subst e2; exact ⟨v, e, q⟩
theorem Reps.two {d e : D} {vs : List V} (h : Reps K F [d, e] vs) : ∃ v w, vs = [v, w] ∧ Rep K F d v ∧ Rep K F e w := by
 simp only [Reps] at h
 obtain ⟨v, r, e1, q, w, r2, e2, q2, e3⟩ := h
 subst e3; subst e2; exact ⟨v, w, e1, q, q2⟩
theorem Reps.rep {ds : List D} {vs : List V} (h : Reps K F ds vs) : ∀ k : Nat, Reps K F (List.replicate k ds).flatten (List.replicate k vs).flatten
 | 0 => Reps.nil
 | k + 1 => by
  rw [List.replicate_succ, List.replicate_succ, List.flatten_cons, List.flatten_cons]
  exact Reps.append h (Reps.rep h k)
theorem Reps.ints : ∀ (ns : List Int), Reps K F (ns.map D.int) (ns.map V.int)
 | [] => Reps.nil
 | n :: r => Reps.cons (by simp only [Rep]) (Reps.ints r)
end
class Tabs where
 rows : List (Addr × Nat × Nat × Str)
 own : Str → Str → Bool
def zV4 (c : Addr) (q : Str) : Heap → Prop := fun h => h.CodeRec (.ref c) q
def TOk (F H : Hp) (r : Addr × Nat × Nat × Str) : Prop := F r.1 = none ∧ (H r.1 = some (.tbl #[]) ∨ ∃ c, H r.1 = some (.tbl #[rawInt r.2.1, rawInt r.2.2.1, .ref c]) ∧ H c = some (.ext (zV4 c r.2.2.2)))
variable [Tabs]
def OwnOk (H : Hp) : Prop := ∀ d a, H d = some (.own a) → ∃ C dx vs, H a = some (.ins C dx vs)
def TbT (F H : Hp) : Prop := (∀ r ∈ Tabs.rows, TOk F H r) ∧ OwnOk H
omit [Tabs] in
theorem TOk.step {F H F' H' : Hp} {r : Addr × Nat × Nat × Str} (t : TOk F H r) (nw : ∀ a o, F' a = some o → F a = some o ∨ H a = none) (k : ∀ a o, H a = some o → (∀ vs, o ≠ .lst vs) → H' a = some o) : TOk F' H' r := by
 have hn : ∀ ps, H r.1 = some (.tbl ps) → F' r.1 = none := fun ps e => by
  cases q : F' r.1 with
  | none => rfl
  | some o =>
   rcases nw _ _ q with z | z
   ·rw [t.1] at z; cases z
   ·rw [e] at z; cases z
 rcases t.2 with e | ⟨c, e, e2⟩
 ·exact ⟨hn _ e, .inl (k _ _ e fun _ z => nomatch z)⟩
 ·exact ⟨hn _ e, .inr ⟨c, k _ _ e (fun _ z => nomatch z), k _ _ e2 fun _ z => nomatch z⟩⟩
theorem TbT.step {F H F' H' : Hp} (t : TbT F H) (nw : ∀ a o, F' a = some o → F a = some o ∨ H a = none) (k : ∀ a o, H a = some o → (∀ vs, o ≠ .lst vs) → H' a = some o) (no : ∀ d a, H' d = some (.own a) → H d = some (.own a)) : TbT F' H' := ⟨fun r hr => (t.1 r hr).step nw k, fun d a e => by
 obtain ⟨C, dx, vs, h⟩ := t.2 d a (no d a e)
 exact ⟨C, dx, vs, k _ _ h fun _ z => nomatch z⟩⟩
theorem TbT.freeze {F H : Hp} {a : Addr} {vs : List V} {o : HO} (t : TbT F H) (e : H a = some (.lst vs)) : TbT (upd F a o) H := ⟨fun r hr => by
 obtain ⟨t1, t2⟩ := t.1 r hr
 have : r.1 ≠ a := fun z => by
  rw [z, e] at t2
  rcases t2 with q | ⟨c, q, _⟩ <;> cases q
 exact ⟨by rw [zb3 this]; exact t1, t2⟩, t.2⟩
def Kp : HO → Option HO → Prop
 | .tbl _, r => ∃ ps, r = some (.tbl ps)
 | o, r => r = some o
def Hh (H H' : Hp) : Prop := ∀ b o, H b = some o → Kp o (H' b)
omit [Tabs] in
theorem Kp.of {o : HO} {r : Option HO} (h : r = some o) : Kp o r := by cases o <;> first | exact h | exact ⟨_, h⟩
omit [Tabs] in
theorem Kp.some {o : HO} {r : Option HO} (h : Kp o r) : r ≠ none := by
 cases o <;> first | (obtain ⟨_, h⟩ := h; rw [h]; simp) | (have h : r = _ := h; rw [h]; simp)
omit [Tabs] in
theorem Hh.of {H H' : Hp} (h : Same H H') : Hh H H' := fun b o e => .of (h b o e)
omit [Tabs] in
theorem Hh.refl (H : Hp) : Hh H H := .of (Same.refl H)
omit [Tabs] in
theorem Hh.trans {H H1 H2 : Hp} (a : Hh H H1) (b : Hh H1 H2) : Hh H H2 := fun c o e => by
 have k := a c o e
 cases o <;> first | exact b c _ k | (obtain ⟨ps, q⟩ := k; show ∃ ps, H2 c = some (.tbl ps); exact b c _ q)
omit [Tabs] in
theorem zl5 {F H : Hp} (h : Hh F H) {a : Addr} (e : H a = none) : F a = none := by
 cases q : F a with
 | none => rfl
 | some o => exact absurd e (h a o q).some
structure Ext (F H F' H' : Hp) : Prop where
 ff : Same F F'
 hh : Hh H H'
 fh : Same F' H'
 nw : ∀ a o, F' a = some o → F a = some o ∨ H a = none
 tt : TbT F H → TbT F' H'
theorem Ext.refl {F H : Hp} (h : Same F H) : Ext F H F H := ⟨Same.refl F, Hh.refl H, h, fun _ _ e => .inl e, id⟩
theorem Ext.trans {F H F1 H1 F2 H2 : Hp} (a : Ext F H F1 H1) (b : Ext F1 H1 F2 H2) : Ext F H F2 H2 :=
 ⟨a.ff.trans b.ff, a.hh.trans b.hh, b.fh, fun c o e => by
  rcases b.nw c o e with q | q
  ·exact a.nw c o q
  ·exact .inr (zl5 a.hh q), fun t => b.tt (a.tt t)⟩
omit [Tabs] in
theorem zc6 {F H : Hp} (h : Same F H) {a : Addr} (e : H a = none) : F a = none := by
 cases q : F a with
 | none => rfl
 | some o => rw [h a o q] at e; cases e
omit [Tabs] in
theorem zf7 {H : Hp} {p : Addr} {o : HO} (h : H p = none) : Same H (upd H p o) := fun b u q => by rw [zb3 (zc7 q h)]; exact q
omit [Tabs] in
theorem yh4 {F H : Hp} {p : Addr} {o : HO} (h : Same F H) (hp : H p = none) : Same (upd F p o) (upd H p o) := fun b u q => by
 by_cases hb : b = p
 ·subst hb; rw [zb2] at q ⊢; exact q
 ·rw [zb3 hb] at q ⊢; exact h b u q
theorem Ext.same {F H F' H' : Hp} (ff : Same F F') (hh : Same H H') (fh : Same F' H') (nw : ∀ a o, F' a = some o → F a = some o ∨ H a = none) (no : ∀ d a, H' d = some (.own a) → H d = some (.own a)) : Ext F H F' H' := ⟨ff, .of hh, fh, nw, fun t => t.step nw (fun a o e _ => hh a o e) no⟩
omit [Tabs] in
theorem zz4 {H : Hp} {p : Addr} {o : HO} (ho : ∀ a, o ≠ .own a) : ∀ d a, upd H p o d = some (.own a) → H d = some (.own a) := fun d a e => by
 by_cases h : d = p
 ·subst h; rw [zb2] at e; cases e; exact absurd rfl (ho a)
 ·rw [zb3 h] at e; exact e
theorem Ext.new {F H : Hp} {p : Addr} {o : HO} (h : Same F H) (hp : H p = none) (ho : ∀ a, o ≠ .own a := by intro _ h; cases h) : Ext F H (upd F p o) (upd H p o) :=
 .same (zf7 (zc6 h hp)) (zf7 hp) (yh4 h hp) (fun a u e => by
  by_cases hb : a = p
  ·subst hb; exact .inr hp
  ·rw [zb3 hb] at e; exact .inl e) (zz4 ho)
theorem Ext.open {F H : Hp} {p : Addr} {o : HO} (h : Same F H) (hp : H p = none) (ho : ∀ a, o ≠ .own a := by intro _ h; cases h) : Ext F H F (upd H p o) :=
 .same (Same.refl F) (zf7 hp) (h.trans (zf7 hp)) (fun a u e => .inl e) (zz4 ho)
inductive Sl where
 | val (d : D)
 | own (ds : List D)
 | obj (n : Nat) (c : Str) (fs : List (Str × D))
 | obr (c : Str) (fs : List (Str × D))
abbrev DS := List (Option Sl)
def OwnF (K : PySem.W.Frag) (F H : Hp) (d : D) (v : V) : Prop := ∃ ds l ws, d = .lst ds ∧ v = .ref l ∧ H l = some (.lst ws) ∧ F l = none ∧ Reps K F ds ws
def Fld1 (K : PySem.W.Frag) (F H : Hp) (c f : Str) (d : D) (v : V) : Prop := if Tabs.own c f = true then OwnF K F H d v else Rep K F d v
def Flds (K : PySem.W.Frag) (F H : Hp) (c : Str) : List (Str × D) → List (Str × V) → Prop
 | [], [] => True
 | (f, d) :: r, (g, v) :: s => f = g ∧ Fld1 K F H c f d v ∧ Flds K F H c r s
 | _, _ => False
def ownL (c : Str) : List (Str × V) → List Addr
 | [] => []
 | (f, v) :: r => if Tabs.own c f = true then (match v with
  | .ref l => l :: ownL c r
  | _ => ownL c r) else ownL c r
def Lof (H : Hp) (c : Str) (a : Addr) : List Addr := match H a with
 | some (.ins _ _ vs) => ownL c vs
 | _ => []
theorem Lof.ins {H : Hp} {c : Str} {a C dx : Addr} {vs : List (Str × V)} (h : H a = some (.ins C dx vs)) : Lof H c a = ownL c vs := by unfold Lof; rw [h]
theorem Flds.own {K : PySem.W.Frag} {F H : Hp} {c : Str} {l : Addr} : ∀ {fs : List (Str × D)} {vs : List (Str × V)}, Flds K F H c fs vs → l ∈ ownL c vs → F l = none ∧ ∃ ws, H l = some (.lst ws)
 | [], [], _, h => by cases h
 | (f, d) :: r, (g, v) :: s, q, h => by
  obtain ⟨rfl, q2, q3⟩ := q
  unfold ownL at h
  unfold Fld1 at q2
  by_cases z : Tabs.own c f = true
  ·rw [if_pos z] at h q2
   obtain ⟨ds, l', ws, e1, rfl, e3, e4, e5⟩ := q2
   rcases List.mem_cons.mp h with rfl | h
   ·exact ⟨e4, ws, e3⟩
   ·exact Flds.own q3 h
  ·rw [if_neg z] at h
   exact Flds.own q3 h
 | [], _ :: _, q, _ => q.elim
 | _ :: _, [], q, _ => q.elim
theorem Flds.keep {K : PySem.W.Frag} {F H F' H' : Hp} {c : Str} (hf : Same F F') : ∀ {fs : List (Str × D)} {vs : List (Str × V)}, Flds K F H c fs vs → (∀ l ws, l ∈ ownL c vs → H l = some (.lst ws) → F l = none → H' l = some (.lst ws) ∧ F' l = none) → Flds K F' H' c fs vs
 | [], [], _, _ => trivial
 | (f, d) :: r, (g, v) :: s, q, k => by
  obtain ⟨rfl, q2, q3⟩ := q
  refine ⟨rfl, ?_, Flds.keep hf q3 fun l ws hl => k l ws ?_⟩
  ·unfold Fld1 at q2 ⊢
   by_cases z : Tabs.own c f = true
   ·rw [if_pos z] at q2 ⊢
    obtain ⟨ds, l, ws, e1, rfl, e3, e4, e5⟩ := q2
    obtain ⟨k1, k2⟩ := k l ws (by unfold ownL; rw [if_pos z]; exact List.mem_cons_self) e3 e4
    exact ⟨ds, l, ws, e1, rfl, k1, k2, e5.mono hf⟩
   ·rw [if_neg z] at q2 ⊢; exact q2.mono hf
  ·unfold ownL
   by_cases z : Tabs.own c f = true
   ·rw [if_pos z]
    cases v with
    | ref l' => exact List.mem_cons_of_mem _ hl
    | _ => exact hl
   ·rw [if_neg z]; exact hl
 | [], _ :: _, q, _ => q.elim
 | _ :: _, [], q, _ => q.elim
def ObAt (K : PySem.W.Frag) (F H : Hp) (c : Str) (fs : List (Str × D)) (a : Addr) : Prop := ∃ C dx vs, H a = some (.ins C dx vs) ∧ F a = none ∧ PySem.W.nsIn K mainGlobals c = some (some (.ref C)) ∧ Flds K F H c fs vs ∧ H dx = some (.own a) ∧ (ownL c vs).Nodup
def ObS (s : Option (Option Sl)) (c : Str) : Prop := (∃ n fs, s = some (some (.obj n c fs))) ∨ ∃ fs, s = some (some (.obr c fs))
structure ObsOk (K : PySem.W.Frag) (F : Hp) (τ : DS) (σ : St) (H : Hp) : Prop where
 at_ : ∀ (i n : Nat) (c : Str) (fs : List (Str × D)), τ[i]? = some (some (.obj n c fs)) → ∃ a, σ[i]? = some (some (.ref a)) ∧ ObAt K F H c fs a
 dis : ∀ (i j n : Nat) (c c' : Str) (fs : List (Str × D)) (a : Addr), i ≠ j → τ[i]? = some (some (.obj n c fs)) → ObS τ[j]? c' → σ[i]? = some (some (.ref a)) → σ[j]? = some (some (.ref a)) → False
 rd : ∀ (i : Nat) (c : Str) (fs : List (Str × D)), τ[i]? = some (some (.obr c fs)) → ∃ a C dx vs, σ[i]? = some (some (.ref a)) ∧ H a = some (.ins C dx vs) ∧ PySem.W.nsIn K mainGlobals c = some (some (.ref C)) ∧ Flds K F H c fs vs
 ll : ∀ (i j n : Nat) (c c' : Str) (fs : List (Str × D)) (a a' l : Addr), i ≠ j → τ[i]? = some (some (.obj n c fs)) → ObS τ[j]? c' → σ[i]? = some (some (.ref a)) → σ[j]? = some (some (.ref a')) → l ∈ Lof H c a → l ∈ Lof H c' a' → False
 lo : ∀ (i j : Nat) (c : Str) (ds : List D) (a l : Addr), ObS τ[i]? c → τ[j]? = some (some (.own ds)) → σ[i]? = some (some (.ref a)) → σ[j]? = some (some (.ref l)) → l ∈ Lof H c a → False
def isOb : Option Sl → Bool
 | some (.obj _ _ _) => true
 | some (.obr _ _) => true
 | _ => false
def noObj (τ : DS) : Prop := ∀ (i : Nat) s, τ[i]? = some s → isOb s = false
omit [Tabs] in
theorem noObj.obs {τ : DS} (n : noObj τ) {i : Nat} {c : Str} (h : ObS τ[i]? c) : False := by
 rcases h with ⟨m, fs, h⟩ | ⟨fs, h⟩
 ·have := n i _ h; cases this
 ·have := n i _ h; cases this
theorem ObsOk.none {K : PySem.W.Frag} {F H : Hp} {τ : DS} {σ : St} (n : noObj τ) : ObsOk K F τ σ H :=
 ⟨fun i m c fs h => (by have := n i _ h; cases this), fun i j m c c' fs a _ h => (by have := n i _ h; cases this), fun i c fs h => (by have := n i _ h; cases this), fun i j m c c' fs a a' l _ h => (by have := n i _ h; cases this), fun i j c ds a l h => (n.obs h).elim⟩
theorem ObsOk.get {K : PySem.W.Frag} {F H : Hp} {τ : DS} {σ : St} {i : Nat} {c : Str} (o : ObsOk K F τ σ H) (h : ObS τ[i]? c) : ∃ a C dx vs fs, σ[i]? = some (some (.ref a)) ∧ H a = some (.ins C dx vs) ∧ Flds K F H c fs vs := by
 rcases h with ⟨m, fs, h⟩ | ⟨fs, h⟩
 ·obtain ⟨a, h1, C, dx, vs, h2, _, _, h5, _⟩ := o.at_ i m c fs h
  exact ⟨a, C, dx, vs, fs, h1, h2, h5⟩
 ·obtain ⟨a, C, dx, vs, h1, h2, _, h5⟩ := o.rd i c fs h
  exact ⟨a, C, dx, vs, fs, h1, h2, h5⟩
theorem ObsOk.keep {K : PySem.W.Frag} {F H F' H' : Hp} {τ : DS} {σ : St} (o : ObsOk K F τ σ H) (hf : Same F F') (hi : ∀ a C dx vs, H a = some (.ins C dx vs) → H' a = some (.ins C dx vs)) (hn : ∀ a C dx vs, H a = some (.ins C dx vs) → F a = Option.none → F' a = Option.none) (hd : ∀ d a, H d = some (.own a) → H' d = some (.own a))
  (hl : ∀ (i : Nat) (c : Str) (a l : Addr) (ws : List V), ObS τ[i]? c → σ[i]? = some (some (.ref a)) → l ∈ Lof H c a → H l = some (.lst ws) → F l = Option.none → H' l = some (.lst ws) ∧ F' l = Option.none) : ObsOk K F' τ σ H' := by
 have lof : ∀ {i : Nat} {c : Str} {a : Addr}, ObS τ[i]? c → σ[i]? = some (some (.ref a)) → Lof H' c a = Lof H c a := fun {i c a} h e => by
  obtain ⟨a', C, dx, vs, fs, h1, h2, _⟩ := o.get h
  rw [e] at h1; cases h1
  rw [Lof.ins h2, Lof.ins (hi _ _ _ _ h2)]
 refine ⟨fun i m c fs h => ?_, o.dis, fun i c fs h => ?_, fun i j m c c' fs a a' l hij h1 h2 h3 h4 h5 h6 => ?_, fun i j c ds a l h1 h2 h3 h4 h5 => ?_⟩
 ·obtain ⟨a, h1, C, dx, vs, h2, h3, h4, h5, h6, h7⟩ := o.at_ i m c fs h
  exact ⟨a, h1, C, dx, vs, hi _ _ _ _ h2, hn _ _ _ _ h2 h3, h4, h5.keep hf fun l ws q => hl i c a l ws (.inl ⟨m, fs, h⟩) h1 (by rw [Lof.ins h2]; exact q), hd _ _ h6, h7⟩
 ·obtain ⟨a, C, dx, vs, h1, h2, h4, h5⟩ := o.rd i c fs h
  exact ⟨a, C, dx, vs, h1, hi _ _ _ _ h2, h4, h5.keep hf fun l ws q => hl i c a l ws (.inr ⟨fs, h⟩) h1 (by rw [Lof.ins h2]; exact q)⟩
 ·rw [lof (.inl ⟨m, fs, h1⟩) h3] at h5
  rw [lof h2 h4] at h6
  exact o.ll i j m c c' fs a a' l hij h1 h2 h3 h4 h5 h6
 ·rw [lof h1 h3] at h5
  exact o.lo i j c ds a l h1 h2 h3 h4 h5
theorem ObsOk.ext {K : PySem.W.Frag} {F H F' H' : Hp} {τ : DS} {σ : St} (o : ObsOk K F τ σ H) (x : Ext F H F' H') : ObsOk K F' τ σ H' := by
 have nF : ∀ {a : Addr} {u : HO}, H a = some u → F a = Option.none → F' a = Option.none := fun {a u} h h3 => by
  cases q : F' a with
  | none => rfl
  | some w =>
   rcases x.nw a w q with z | z
   ·rw [h3] at z; cases z
   ·rw [h] at z; cases z
 exact o.keep x.ff (fun a C dx vs h => x.hh _ _ h) (fun a C dx vs h => nF h) (fun d a h => x.hh _ _ h) fun i c a l ws _ _ _ h h3 => ⟨x.hh _ _ h, nF h h3⟩
theorem ObsOk.updL {K : PySem.W.Frag} {F H : Hp} {τ : DS} {σ : St} {p : Addr} {u : HO} (o : ObsOk K F τ σ H) (hl : H p = .none ∨ ∃ vs, H p = some (.lst vs)) (hp : ∀ (i : Nat) (c : Str) (a : Addr), ObS τ[i]? c → σ[i]? = some (some (.ref a)) → p ∉ Lof H c a) : ObsOk K F τ σ (upd H p u) := by
 have ne : ∀ {a : Addr} {w : HO}, H a = some w → (∀ vs, w ≠ .lst vs) → a ≠ p := fun {a w} h n z => by
  subst z
  rcases hl with z | ⟨ws, z⟩
  ·rw [z] at h; cases h
  ·rw [z] at h; cases h; exact n _ rfl
 refine o.keep (Same.refl F) (fun a C dx vs h => ?_) (fun a C dx vs _ h => h) (fun d a h => ?_) fun i c a l ws h1 h2 h3 h4 h5 => ⟨?_, h5⟩
 ·rw [zb3 (ne h fun _ z => nomatch z)]; exact h
 ·rw [zb3 (ne h fun _ z => nomatch z)]; exact h
 ·have : l ≠ p := fun z => by subst z; exact hp i c a h1 h2 h3
  rw [zb3 this]; exact h4
omit [Tabs] in
theorem zi3 {τ : DS} {i j : Nat} {s u : Option Sl} (hs : isOb s = false) (hu : isOb u = true) (h : (τ.set i s)[j]? = some u) : i ≠ j ∧ τ[j]? = some u := by
 by_cases hij : i = j
 ·subst hij
  rw [List.getElem?_set] at h
  simp only [if_true] at h
  split at h
  ·cases h; rw [hs] at hu; cases hu
  ·cases h
 ·rw [List.getElem?_set_ne hij] at h; exact ⟨hij, h⟩
omit [Tabs] in
theorem zA7 {τ : DS} {i j : Nat} {s : Option Sl} {c : Str} (hs : isOb s = false) (h : ObS (τ.set i s)[j]? c) : i ≠ j ∧ ObS τ[j]? c := by
 rcases h with ⟨n, fs, h⟩ | ⟨fs, h⟩
 ·obtain ⟨a, b⟩ := zi3 hs rfl h; exact ⟨a, .inl ⟨n, fs, b⟩⟩
 ·obtain ⟨a, b⟩ := zi3 hs rfl h; exact ⟨a, .inr ⟨fs, b⟩⟩
theorem ObsOk.put {K : PySem.W.Frag} {F H : Hp} {τ : DS} {σ : St} {i : Nat} {s : Option Sl} {v : Option V} (o : ObsOk K F τ σ H) (hs : isOb s = false) (hw : ∀ ds l, s = some (.own ds) → v = some (.ref l) → ∀ (j : Nat) (c : Str) (a : Addr), ObS τ[j]? c → σ[j]? = some (some (.ref a)) → l ∉ Lof H c a) : ObsOk K F (τ.set i s) (σ.set i v) H :=
 ⟨fun j m c fs h => by
  obtain ⟨n, h⟩ := zi3 hs rfl h
  rw [List.getElem?_set_ne n]; exact o.at_ j m c fs h,
  fun j k m c c' fs a hjk h1 h2 h3 h4 => by
   obtain ⟨n1, h1⟩ := zi3 hs rfl h1
   obtain ⟨n2, h2⟩ := zA7 hs h2
   rw [List.getElem?_set_ne n1] at h3
   rw [List.getElem?_set_ne n2] at h4
   exact o.dis j k m c c' fs a hjk h1 h2 h3 h4,
  fun j c fs h => by
   obtain ⟨n, h⟩ := zi3 hs rfl h
   rw [List.getElem?_set_ne n]; exact o.rd j c fs h,
  fun j k m c c' fs a a' l hjk h1 h2 h3 h4 => by
   obtain ⟨n1, h1⟩ := zi3 hs rfl h1
   obtain ⟨n2, h2⟩ := zA7 hs h2
   rw [List.getElem?_set_ne n1] at h3
   rw [List.getElem?_set_ne n2] at h4
   exact o.ll j k m c c' fs a a' l hjk h1 h2 h3 h4,
  fun j k c ds a l h1 h2 h3 h4 h5 => by
   obtain ⟨n1, g1⟩ := zA7 hs h1
   rw [List.getElem?_set_ne n1] at h3
   by_cases e : i = k
   ·subst e
    rw [List.getElem?_set] at h2 h4
    simp only [if_true] at h2 h4
    split at h2
    ·split at h4
     ·exact hw ds l (by simpa using h2) (by simpa using h4) j c a g1 h3 h5
     ·cases h4
    ·cases h2
   ·rw [List.getElem?_set_ne e] at h2 h4
    exact o.lo j k c ds a l g1 h2 h3 h4 h5⟩
theorem ObsOk.putS {K : PySem.W.Frag} {F H : Hp} {τ : DS} {σ : St} {i : Nat} {ds es : List D} (o : ObsOk K F τ σ H) (hi : τ[i]? = some (some (.own ds))) : ObsOk K F (τ.set i (some (.own es))) σ H :=
 ⟨fun j m c fs h => o.at_ j m c fs (zi3 (s := some (.own es)) rfl rfl h).2, fun j k m c c' fs a hjk h1 h2 => o.dis j k m c c' fs a hjk (zi3 (s := some (.own es)) rfl rfl h1).2 (zA7 (s := some (.own es)) rfl h2).2, fun j c fs h => o.rd j c fs (zi3 (s := some (.own es)) rfl rfl h).2,
  fun j k m c c' fs a a' l hjk h1 h2 => o.ll j k m c c' fs a a' l hjk (zi3 (s := some (.own es)) rfl rfl h1).2 (zA7 (s := some (.own es)) rfl h2).2, fun j k c ds' a l h1 h2 h3 h4 h5 => by
   have h1 := (zA7 (s := some (.own es)) rfl h1).2
   by_cases e : i = k
   ·subst e; exact o.lo j i c ds a l h1 hi h3 h4 h5
   ·rw [List.getElem?_set_ne e] at h2; exact o.lo j k c ds' a l h1 h2 h3 h4 h5⟩
theorem ObsOk.fresh {K : PySem.W.Frag} {F H : Hp} {τ : DS} {σ : St} {p : Addr} (o : ObsOk K F τ σ H) (hp : H p = .none) : ∀ (i : Nat) (c : Str) (a : Addr), ObS τ[i]? c → σ[i]? = some (some (.ref a)) → p ∉ Lof H c a := fun i c a h e hl => by
 obtain ⟨a', C, dx, vs, fs, h1, h2, h3⟩ := o.get h
 rw [e] at h1; cases h1
 rw [Lof.ins h2] at hl
 obtain ⟨_, ws, q⟩ := h3.own hl
 rw [hp] at q; cases q
theorem ObsOk.lof {K : PySem.W.Frag} {F H : Hp} {τ : DS} {σ : St} {i : Nat} {c : Str} {a p : Addr} {u : HO} (o : ObsOk K F τ σ H) (h1 : ObS τ[i]? c) (h2 : σ[i]? = some (some (.ref a))) (hl : H p = .none ∨ ∃ vs, H p = some (.lst vs)) : Lof (upd H p u) c a = Lof H c a := by
 obtain ⟨a', C, dx, vs, fs, h3, h4, _⟩ := o.get h1
 rw [h2] at h3; cases h3
 have : a ≠ p := fun z => by
  subst z
  rcases hl with z | ⟨ws, z⟩
  ·rw [z] at h4; cases h4
  ·rw [z] at h4; cases h4
 rw [Lof.ins h4, Lof.ins (show upd H p u a = some (.ins C dx vs) by rw [zb3 this]; exact h4)]
structure RV (K : PySem.W.Frag) (F : Hp) (τ : DS) (σ : St) (H : Hp) : Prop where
 fh : Same F H
 len : τ.length = σ.length
 val : ∀ (i : Nat) (d : D), τ[i]? = some (some (.val d)) → ∃ v, σ[i]? = some (some v) ∧ Rep K F d v
 own : ∀ (i : Nat) (ds : List D), τ[i]? = some (some (.own ds)) → ∃ a vs, σ[i]? = some (some (.ref a)) ∧ H a = some (.lst vs) ∧ F a = none ∧ Reps K F ds vs
 dis : ∀ (i j : Nat) (ds es : List D) (a : Addr), i ≠ j → τ[i]? = some (some (.own ds)) → τ[j]? = some (some (.own es)) → σ[i]? = some (some (.ref a)) → σ[j]? = some (some (.ref a)) → False
 tt : TbT F H
 ob : ObsOk K F τ σ H
theorem RV.ext {K : PySem.W.Frag} {F H F' H' : Hp} {τ : DS} {σ : St} (R : RV K F τ σ H) (x : Ext F H F' H') : RV K F' τ σ H' :=
 ⟨x.fh, R.len, fun i d e => by
  obtain ⟨v, h1, h2⟩ := R.val i d e
  exact ⟨v, h1, h2.mono x.ff⟩,
  fun i ds e => by
   obtain ⟨a, vs, h1, h2, h3, h4⟩ := R.own i ds e
   refine ⟨a, vs, h1, x.hh _ _ h2, ?_, h4.mono x.ff⟩
   cases q : F' a with
   | none => rfl
   | some o =>
    rcases x.nw a o q with z | z
    ·rw [h3] at z; cases z
    ·rw [h2] at z; exact absurd z (by simp),
  R.dis, x.tt R.tt, R.ob.ext x⟩
structure RS (K : PySem.W.Frag) (B Z F : Hp) (τ : DS) (σ : St) (H : Hp) : Prop where
 rv : RV K F τ σ H
 bh : Hh B H
 zf : Same Z F
 nb : ∀ a o, F a = some o → Z a = some o ∨ B a = none
 ob : ∀ (i : Nat) (ds : List D) (a : Addr), τ[i]? = some (some (.own ds)) → σ[i]? = some (some (.ref a)) → B a = none
 oo : ∀ (i n : Nat) (c : Str) (fs : List (Str × D)) (a : Addr), τ[i]? = some (some (.obj n c fs)) → σ[i]? = some (some (.ref a)) → B a = none ∧ ∀ l ∈ Lof H c a, B l = none
 sf : ∀ (a0 dx : Addr), B dx = some (.own a0) → B a0 = none → ∀ (i n : Nat) (c : Str) (fs : List (Str × D)), τ[i]? = some (some (.obj (n + 1) c fs)) → σ[i]? = some (some (.ref a0))
 ro : ∀ (i : Nat) (c : Str) (fs : List (Str × D)) (a : Addr), τ[i]? = some (some (.obr c fs)) → σ[i]? = some (some (.ref a)) → ∃ C dx vs, B a = some (.ins C dx vs) ∧ ∀ l ∈ ownL c vs, ∃ ws, B l = some (.lst ws)
theorem RS.ext {K : PySem.W.Frag} {B Z F H F' H' : Hp} {τ : DS} {σ : St} (R : RS K B Z F τ σ H) (x : Ext F H F' H') : RS K B Z F' τ σ H' :=
 ⟨R.rv.ext x, R.bh.trans x.hh, R.zf.trans x.ff, fun a o e => by
  rcases x.nw a o e with q | q
  ·exact R.nb a o q
  ·exact .inr (zl5 R.bh q), R.ob, fun i n c fs a h1 h2 => by
  obtain ⟨q1, q2⟩ := R.oo i n c fs a h1 h2
  refine ⟨q1, fun l hl => q2 l ?_⟩
  obtain ⟨a', h3, C, dx, vs, h4, _⟩ := R.rv.ob.at_ i n c fs h1
  rw [h2] at h3; cases h3
  rw [Lof.ins h4]
  rw [Lof.ins (x.hh _ _ h4 : H' a = some (.ins C dx vs))] at hl
  exact hl, R.sf, R.ro⟩
theorem RS.out {K : PySem.W.Frag} {B Z F H : Hp} {τ : DS} {σ : St} (R : RS K B Z F τ σ H) : Ext Z B F H := ⟨R.zf, R.bh, R.rv.fh, R.nb, fun _ => R.rv.tt⟩
def Xob (X : Cx) (c : Str) : Prop := ∀ e s', X.xe e s'
def Ok (X : Cx) {α : Type} (r : Rs α) (P : α → Prop) : Prop := match r with
 | .ok a => P a
 | .ex c => Xob X c
 | .no => False
theorem Ok.bind {X : Cx} {α β : Type} {r : Rs α} {k : α → Rs β} {P : β → Prop} (h : Ok X (r.bind k) P) : Ok X r fun a => Ok X (k a) P := by
 cases r <;> exact h
theorem Ok.imp {X : Cx} {α : Type} {r : Rs α} {P Q : α → Prop} (h : Ok X r P) (f : ∀ a, P a → Q a) : Ok X r Q := by
 cases r with
 | ok a => exact f a h
 | ex c => exact h
 | no => exact h
abbrev FE := DS → Rs D
abbrev FA := DS → Rs (List D)
abbrev FT := DS → Rs Bool
def Ev (K : PySem.W.Frag) (F H : Hp) (Q : VK) (d : D) : Prop := ∀ v F' H', Ext F H F' H' → Rep K F' d v → Q v H'
def Evs (K : PySem.W.Frag) (F H : Hp) (Q : List V → Hp → Prop) (ds : List D) : Prop := ∀ vs F' H', Ext F H F' H' → Reps K F' ds vs → Q vs H'
def Evb (F H : Hp) (Q : Bool → Hp → Prop) (b : Bool) : Prop := ∀ F' H', Ext F H F' H' → Q b H'
theorem Ev.ext {K : PySem.W.Frag} {F H F1 H1 : Hp} {Q : VK} {d : D} (h : Ev K F H Q d) (x : Ext F H F1 H1) : Ev K F1 H1 Q d := fun v F' H' y r => h v F' H' (x.trans y) r
theorem Evs.ext {K : PySem.W.Frag} {F H F1 H1 : Hp} {Q : List V → Hp → Prop} {d : List D} (h : Evs K F H Q d) (x : Ext F H F1 H1) : Evs K F1 H1 Q d := fun v F' H' y r => h v F' H' (x.trans y) r
theorem Evb.ext {F H F1 H1 : Hp} {Q : Bool → Hp → Prop} {d : Bool} (h : Evb F H Q d) (x : Ext F H F1 H1) : Evb F1 H1 Q d := fun F' H' y => h F' H' (x.trans y)
def tE (X : Cx) (f : FE) : TE := fun σ H Q => ∃ F τ, RV X.K F τ σ H ∧ Ok X (f τ) (Ev X.K F H Q)
def tAs (X : Cx) (f : FA) : TA := fun σ H Q => ∃ F τ, RV X.K F τ σ H ∧ Ok X (f τ) (Evs X.K F H Q)
def tTs (X : Cx) (f : FT) : TT := fun σ H Q => ∃ F τ, RV X.K F τ σ H ∧ Ok X (f τ) (Evb F H Q)
def PDE (X : Cx) (e : Expr) (f : FE) : Prop := PE X e (tE X f)
def PDA (X : Cx) (e : List Expr) (f : FA) : Prop := PA X e (tAs X f)
def PDT (X : Cx) (e : Expr) (f : FT) : Prop := PT X e (tTs X f)
def PDW (X : Cx) (e : Expr) (f : FT) : Prop := PW X e (tTs X f)
theorem _root_.L2.PE.imp {X : Cx} {e : Expr} {t t' : TE} (h : PE X e t) (f : ∀ σ H Q, t' σ H Q → t σ H Q) : PE X e t' := fun pins s σ H Q I q => h pins s σ H Q I (f _ _ _ q)
theorem _root_.L2.PT.imp {X : Cx} {e : Expr} {t t' : TT} (h : PT X e t) (f : ∀ σ H Q, t' σ H Q → t σ H Q) : PT X e t' := fun pins s σ H Q I q => h pins s σ H Q I (f _ _ _ q)
theorem _root_.L2.PW.imp {X : Cx} {e : Expr} {t t' : TT} (h : PW X e t) (f : ∀ σ H Q, t' σ H Q → t σ H Q) : PW X e t' := fun w pins s σ H Q I q => h w pins s σ H Q I (f _ _ _ q)
theorem _root_.L2.PA.imp {X : Cx} {e : List Expr} {t t' : TA} (h : PA X e t) (f : ∀ σ H Q, t' σ H Q → t σ H Q) : PA X e t' := fun p pins s σ H Q I q => h p pins s σ H Q I (f _ _ _ q)
theorem _root_.L2.PS.imp {X : Cx} {e : Stmt} {t t' : TS} (h : PS X e t) (f : ∀ E σ H, t' E σ H → t E σ H) : PS X e t' := fun pins s σ H Q I q => h pins s σ H Q I (f _ _ _ q)
theorem _root_.L2.PSs.imp {X : Cx} {e : List Stmt} {t t' : TS} (h : PSs X e t) (f : ∀ E σ H, t' E σ H → t E σ H) : PSs X e t' := fun pins s σ H Q I q => h pins s σ H Q I (f _ _ _ q)
theorem tE.of {X : Cx} {f : FE} {F H : Hp} {τ : DS} {σ : St} {Q : VK} {G : D → Prop} (R : RV X.K F τ σ H) (h : Ok X (f τ) G)
  (k : ∀ d v F1 H1, G d → Ext F H F1 H1 → RV X.K F1 τ σ H1 → Rep X.K F1 d v → Q v H1) : tE X f σ H Q :=
 ⟨F, τ, R, h.imp fun d g v F1 H1 x r => k d v F1 H1 g x (R.ext x) r⟩
theorem tAs.of {X : Cx} {f : FA} {F H : Hp} {τ : DS} {σ : St} {Q : List V → Hp → Prop} {G : List D → Prop} (R : RV X.K F τ σ H) (h : Ok X (f τ) G)
  (k : ∀ d v F1 H1, G d → Ext F H F1 H1 → RV X.K F1 τ σ H1 → Reps X.K F1 d v → Q v H1) : tAs X f σ H Q :=
 ⟨F, τ, R, h.imp fun d g v F1 H1 x r => k d v F1 H1 g x (R.ext x) r⟩
theorem tTs.of {X : Cx} {f : FT} {F H : Hp} {τ : DS} {σ : St} {Q : Bool → Hp → Prop} {G : Bool → Prop} (R : RV X.K F τ σ H) (h : Ok X (f τ) G)
  (k : ∀ b F1 H1, G b → Ext F H F1 H1 → RV X.K F1 τ σ H1 → Q b H1) : tTs X f σ H Q :=
 ⟨F, τ, R, h.imp fun d g F1 H1 x => k d F1 H1 g x (R.ext x)⟩
def eVar (i : Nat) : FE := fun τ => match τ[i]? with
 | some (some (.val d)) => .ok d
 | _ => .no
section
variable {X : Cx} {pos : Pos}
theorem za1 {i : Nat} {x : Str} (h : PE X (.Name x pos) (tVar i)) : PDE X (.Name x pos) (eVar i) := h.imp fun σ H Q ⟨F, τ, R, q⟩ => by
 unfold eVar at q
 cases e : τ[i]? with
 | none => rw [e] at q; exact q.elim
 | some o =>
  cases o with
  | none => rw [e] at q; exact q.elim
  | some sl =>
   cases sl with
   | own ds => rw [e] at q; exact q.elim
   | obj n c fs => rw [e] at q; exact q.elim
   | obr c fs => rw [e] at q; exact q.elim
   | val d =>
    rw [e] at q
    obtain ⟨v, h1, h2⟩ := R.val i d e
    exact ⟨v, h1, q v F H (Ext.refl R.fh) h2⟩
def eC (d : D) : FE := fun _ => .ok d
theorem pde_c {e : Expr} {v : V} {d : D} (h : PE X e (tC v)) (r : ∀ F, Rep X.K F d v) : PDE X e (eC d) := h.imp fun σ H Q ⟨F, τ, R, q⟩ => q v F H (Ext.refl R.fh) (r F)
theorem za6 {i j} : PDE X (.Constant (.int i) j pos) (eC (.int i)) := pde_c pe_int fun _ => by simp only [Rep]
theorem zv2 {i j} : PDE X (.Constant (.bool i) j pos) (eC (.bl i)) := pde_c pe_bl fun _ => by simp only [Rep]
theorem zO3 {j} : PDE X (.Constant .none j pos) (eC .non) := pde_c pe_non fun _ => by simp only [Rep]
theorem zq7 {i j} : PDE X (.Constant (.str i) j pos) (eC (.str i)) := pde_c pe_str fun _ => by simp only [Rep]
end
def OpD (X : Cx) (g : Value → Value → Sem Value) (op : D → D → Rs D) : Prop := ∃ r : R2, OpR X g r ∧
 ∀ F H x y dx dy Q, Same F H → Rep X.K F dx x → Rep X.K F dy y → Ok X (op dx dy) (Ev X.K F H Q) → r x y H Q
def eOp (op : D → D → Rs D) (fa fb : FE) : FE := fun τ => (fa τ).bind fun x => (fb τ).bind fun y => op x y
section
variable {X : Cx} {pos : Pos} {a b c : Expr} {fa fb fc : FE}
theorem op_of {r : R2} {op : D → D → Rs D} (hl : ∀ F H x y dx dy Q, Same F H → Rep X.K F dx x → Rep X.K F dy y → Ok X (op dx dy) (Ev X.K F H Q) → r x y H Q)
  (σ : St) (H : Hp) (Q : VK) (h : tE X (eOp op fa fb) σ H Q) : tOp r (tE X fa) (tE X fb) σ H Q := by
 obtain ⟨F, τ, R, h⟩ := h
 refine tE.of R h.bind fun x u F1 H1 g x1 R1 r1 => ?_
 refine tE.of R1 g.bind fun y v F2 H2 g2 x2 R2 r2 => ?_
 exact hl F2 H2 u v x y Q R2.fh (r1.mono x2.ff) r2 (g2.imp fun d e => e.ext (x1.trans x2))
theorem zb6 {o : Operator} {op : D → D → Rs D} (ho : OpD X (binaryOp o) op) (ha : PDE X a fa) (hb : PDE X b fb) : PDE X (.BinOp a o b pos) (eOp op fa fb) := by
 obtain ⟨r, h1, h2⟩ := ho
 exact (pe_op h1 ha hb).imp (op_of h2)
theorem zv1 {o : CmpOp} {op : D → D → Rs D} (ho : OpD X (compareOp o) op) (ha : PDE X a fa) (hb : PDE X b fb) (hm : behindInMarks o b = false) : PDE X (.Compare a [o] [b] pos) (eOp op fa fb) := by
 obtain ⟨r, h1, h2⟩ := ho
 exact (pe_cmpR h1 ha hb hm).imp (op_of h2)
def tB (f : FE) : FT := fun τ => (f τ).bind fun d => match d with
 | .bl b => .ok b
 | _ => .no
theorem test_of {t : FE} {u : TE} (hi : ∀ σ H Q, tE X t σ H Q → u σ H Q) (σ : St) (H : Hp) (Q : Bool → Hp → Prop) (h : tTs X (tB t) σ H Q) : tTest u σ H Q := by
 obtain ⟨F, τ, R, h⟩ := h
 refine hi σ H _ (tE.of R h.bind fun d v F1 H1 g x R1 r => ?_)
 cases d with
 | bl k => simp only [Rep] at r; exact ⟨k, r, g F1 H1 x⟩
 | _ => exact g.elim
theorem zc8 {o : CmpOp} {op : D → D → Rs D} (ho : OpD X (compareOp o) op) (ha : PDE X a fa) (hb : PDE X b fb) (hm : behindInMarks o b = false) : PDT X (.Compare a [o] [b] pos) (tB (eOp op fa fb)) := by
 obtain ⟨r, h1, h2⟩ := ho
 exact (zX1 h1 ha hb hm).imp (test_of (op_of h2))
def truD : D → Rs Bool
 | .non => .ok false
 | .bl b => .ok b
 | .int i => .ok (i != 0)
 | .str x => if x.length ≤ sizeLine then .ok ((x.length : Int) != 0) else .no
 | .lst ds => .ok (!ds.isEmpty)
 | .tup ds => .ok (!ds.isEmpty)
 | .scr ns => .ok (!ns.isEmpty)
 | .raw _ => .no
 | .exc _ => .no
theorem zC9 {K : PySem.W.Frag} {F : Hp} {ds : List D} {vs : List V} (h : Reps K F ds vs) : ds.isEmpty = vs.isEmpty := by
 have := h.length
 cases ds <;> cases vs <;> simp_all
theorem yf8 {F H : Hp} {d : D} {v : V} {Q : Bool → Hp → Prop} (fh : Same F H) (r : Rep X.K F d v) (h : Ok X (truD d) (fun b => Q b H)) : ∃ k, TruV X.K v H k ∧ Q k H := by
 cases d with
 | non => simp only [Rep] at r; subst r; exact ⟨_, rfl, h⟩
 | bl b => simp only [Rep] at r; subst r; exact ⟨_, rfl, h⟩
 | int i => simp only [Rep] at r; subst r; exact ⟨_, rfl, h⟩
 | str x =>
  simp only [Rep] at r; subst r
  simp only [truD] at h
  by_cases z : x.length ≤ sizeLine
  ·rw [if_pos z] at h; exact ⟨_, ⟨z, rfl⟩, h⟩
  ·rw [if_neg z] at h; exact h.elim
 | lst ds =>
  simp only [Rep] at r; obtain ⟨a, vs, rfl, e, q⟩ := r
  refine ⟨!vs.isEmpty, .inl ⟨vs, SqL.of (fh _ _ e), rfl⟩, ?_⟩
  rw [← zC9 q]; exact h
 | tup ds =>
  simp only [Rep] at r; obtain ⟨a, vs, rfl, e, q⟩ := r
  refine ⟨!vs.isEmpty, .inr (.inl ⟨vs, Same.seqT fh e, rfl⟩), ?_⟩
  rw [← zC9 q]; exact h
 | scr ns =>
  simp only [Rep] at r; obtain ⟨a, rfl, e⟩ := r
  refine ⟨!(ns.map V.int).isEmpty, .inl ⟨_, fh.seq e, rfl⟩, ?_⟩
  have e2 : (ns.map V.int).isEmpty = ns.isEmpty := by cases ns <;> rfl
  rw [e2]; exact h
 | raw u => exact h.elim
 | exc c => exact h.elim
def tTru (f : FE) : FT := fun τ => (f τ).bind truD
theorem zG4 (ha : PDE X a fa) (he : ∀ whole, isTrue a X.env whole = (do let v ← whole; standAt a.pos; holding [v] (truthy v)) := by intro _; rfl) : PDT X a (tTru fa) :=
 (pt_truth ha he).imp fun σ H Q ⟨F, τ, R, h⟩ => tE.of R h.bind fun d v F1 H1 g x R1 r => yf8 R1.fh r (g.imp fun b e => e F1 H1 x)
def tAndD (f g : FT) : FT := fun τ => (f τ).bind fun b => if b = true then g τ else .ok false
def tOrD (f g : FT) : FT := fun τ => (f τ).bind fun b => if b = true then .ok true else g τ
def tNotD (f : FT) : FT := fun τ => (f τ).bind fun b => .ok (!b)
variable {ga gb : FT} {rest : List Expr}
theorem zy7 (ha : PDT X a ga) : PDW X (.BoolOp .And [a] pos) ga := pw_and1 ha
theorem zN6 (ha : PDT X a ga) : PDW X (.BoolOp .Or [a] pos) ga := pw_or1 ha
theorem zG3 (ha : PDT X a ga) (hb : PDW X (.BoolOp .And (b :: rest) pos) gb) : PDW X (.BoolOp .And (a :: b :: rest) pos) (tAndD ga gb) :=
 PW.imp (pw_and ha hb) fun σ H Q ⟨F, τ, R, h⟩ => tTs.of R h.bind fun k F1 H1 g x R1 => by
  cases k with
  | true => rw [if_pos rfl]; rw [if_pos rfl] at g; exact ⟨F1, τ, R1, g.imp fun d e => e.ext x⟩
  | false => rw [if_neg (by simp)]; rw [if_neg (by simp)] at g; exact g F1 H1 x
theorem ya7 (ha : PDT X a ga) (hb : PDW X (.BoolOp .Or (b :: rest) pos) gb) : PDW X (.BoolOp .Or (a :: b :: rest) pos) (tOrD ga gb) :=
 PW.imp (pw_or ha hb) fun σ H Q ⟨F, τ, R, h⟩ => tTs.of R h.bind fun k F1 H1 g x R1 => by
  cases k with
  | false => rw [if_neg (by simp)]; rw [if_neg (by simp)] at g; exact ⟨F1, τ, R1, g.imp fun d e => e.ext x⟩
  | true => rw [if_pos rfl]; rw [if_pos rfl] at g; exact g F1 H1 x
theorem pdt_w {e : Expr} (h : PDW X e ga) : PDT X e ga := PW.pt h
theorem pdt_not (ha : PDT X a ga) : PDT X (.UnaryOp .Not a pos) (tNotD ga) :=
 PT.imp (pt_not ha) fun σ H Q ⟨F, τ, R, h⟩ => tTs.of R h.bind fun k F1 H1 g x R1 => g F1 H1 x
def eIf (g : FT) (fa fb : FE) : FE := fun τ => (g τ).bind fun b => if b = true then fa τ else fb τ
theorem pde_if (hc : PDT X c ga) (ha : PDE X a fa) (hb : PDE X b fb) : PDE X (.IfExp c a b pos) (eIf ga fa fb) :=
 PE.imp (pe_ifExp hc ha hb) fun σ H Q ⟨F, τ, R, h⟩ => tTs.of R h.bind fun k F1 H1 g x R1 => by
  cases k with
  | true => rw [if_pos rfl]; rw [if_pos rfl] at g; exact ⟨F1, τ, R1, g.imp fun d e => e.ext x⟩
  | false => rw [if_neg (by simp)]; rw [if_neg (by simp)] at g; exact ⟨F1, τ, R1, g.imp fun d e => e.ext x⟩
def eAnd (fa fb : FE) : FE := fun τ => (fa τ).bind fun x => (truD x).bind fun b => if b = true then fb τ else .ok x
def eOr (fa fb : FE) : FE := fun τ => (fa τ).bind fun x => (truD x).bind fun b => if b = true then .ok x else fb τ
theorem zO2 {op} (h : PDE X a fa) : PDE X (.BoolOp op [a] pos) fa := pe_one h
theorem zX4 (ha : PDE X a fa) (hb : PDE X (.BoolOp .And (b :: rest) pos) fb) : PDE X (.BoolOp .And (a :: b :: rest) pos) (eAnd fa fb) := by
 intro pins s σ H Q I ⟨F, τ, R, h⟩
 refine BoolOp_and (thn (ha pins s σ H _ I (tE.of R h.bind fun d v F1 H1 g x R1 r => (⟨d, F1, g, x, R1, r⟩ : ∃ d F1, Ok X ((truD d).bind fun b => if b = true then fb τ else .ok d) (Ev X.K F H Q) ∧ Ext F H F1 H1 ∧ RV X.K F1 τ σ H1 ∧ Rep X.K F1 d v))) fun v s1 ⟨x, H1, I1, r1, d, F1, g, x1, R1, r⟩ => ?_)
 refine thn (tru_ok pins s1 σ H1 x v (fun b H2 => H2 = H1 ∧ Ok X (if b = true then fb τ else .ok d) (Ev X.K F H Q)) I1 r1 (yf8 (Q := fun b H2 => H2 = H1 ∧ Ok X (if b = true then fb τ else .ok d) (Ev X.K F H Q)) R1.fh r (g.bind.imp fun b e => ⟨rfl, e⟩))) fun k s2 ⟨H2, I2, e2, q⟩ => ?_
 subst e2
 cases k with
 | true => rw [if_pos rfl] at q ⊢; exact hb pins s2 σ _ Q I2 ⟨F1, τ, R1, q.imp fun d e => e.ext x1⟩
 | false => rw [if_neg (by simp)] at q ⊢; exact ⟨x, _, I2, r1, q x F1 _ x1 r⟩
theorem pde_or (ha : PDE X a fa) (hb : PDE X (.BoolOp .Or (b :: rest) pos) fb) : PDE X (.BoolOp .Or (a :: b :: rest) pos) (eOr fa fb) := by
 intro pins s σ H Q I ⟨F, τ, R, h⟩
 refine BoolOp_or (thn (ha pins s σ H _ I (tE.of R h.bind fun d v F1 H1 g x R1 r => (⟨d, F1, g, x, R1, r⟩ : ∃ d F1, Ok X ((truD d).bind fun b => if b = true then .ok d else fb τ) (Ev X.K F H Q) ∧ Ext F H F1 H1 ∧ RV X.K F1 τ σ H1 ∧ Rep X.K F1 d v))) fun v s1 ⟨x, H1, I1, r1, d, F1, g, x1, R1, r⟩ => ?_)
 refine thn (tru_ok pins s1 σ H1 x v (fun b H2 => H2 = H1 ∧ Ok X (if b = true then .ok d else fb τ) (Ev X.K F H Q)) I1 r1 (yf8 (Q := fun b H2 => H2 = H1 ∧ Ok X (if b = true then .ok d else fb τ) (Ev X.K F H Q)) R1.fh r (g.bind.imp fun b e => ⟨rfl, e⟩))) fun k s2 ⟨H2, I2, e2, q⟩ => ?_
 subst e2
 cases k with
 | false => rw [if_neg (by simp)] at q ⊢; exact hb pins s2 σ _ Q I2 ⟨F1, τ, R1, q.imp fun d e => e.ext x1⟩
 | true => rw [if_pos rfl] at q ⊢; exact ⟨x, _, I2, r1, q x F1 _ x1 r⟩
end
section
variable {X : Cx} {pos : Pos} {e : Expr} {es : List Expr} {fe : FE} {fs : FA}
def aNil : FA := fun _ => .ok []
def aCons (f : FE) (g : FA) : FA := fun τ => (f τ).bind fun x => (g τ).bind fun r => .ok (x :: r)
theorem za4 : PDA X [] aNil := PA.imp zH1 fun σ H Q ⟨F, τ, R, h⟩ => h [] F H (Ext.refl R.fh) Reps.nil
theorem za0 (ha : PDE X e fe) (hr : PDA X es fs) (hs : starEach (e :: es) X.env = (false, eval e X.env) :: starEach es X.env := by rfl) : PDA X (e :: es) (aCons fe fs) :=
 PA.imp (zt6 ha hr hs) fun σ H Q ⟨F, τ, R, h⟩ => tE.of R h.bind fun x v F1 H1 g x1 R1 r1 => tAs.of R1 g.bind fun ys vs F2 H2 g2 x2 R2 r2 =>
  g2 (v :: vs) F2 H2 (x1.trans x2) (Reps.cons (r1.mono x2.ff) r2)
def eTup (f : FA) : FE := fun τ => (f τ).bind fun ds => if ds.length ≤ sizeLine then .ok (.tup ds) else .no
def eLst (f : FA) : FE := fun τ => (f τ).bind fun ds => if ds.length ≤ sizeLine then .ok (.lst ds) else .no
theorem zj4 {X : Cx} {α : Type} {c : Prop} [Decidable c] {a : α} {P : α → Prop} (h : Ok X (if c then .ok a else .no) P) : c ∧ P a := by
 by_cases z : c
 ·rw [if_pos z] at h; exact ⟨z, h⟩
 ·rw [if_neg z] at h; exact h.elim
theorem zg3 {x1} (h : PDA X es fs) : PDE X (.Tuple es x1 pos) (eTup fs) :=
 PE.imp (pe_tup h) fun σ H Q ⟨F, τ, R, hq⟩ => tAs.of R hq.bind fun ds vs F1 H1 g x R1 r => by
  obtain ⟨z, g⟩ := zj4 g
  refine ⟨by rw [← r.length]; exact z, fun p hp => g (.ref p) _ _ (x.trans (Ext.new R1.fh hp)) ?_⟩
  simp only [Rep]
  exact ⟨p, vs, rfl, SqT.of zb2, r.mono (zf7 (zc6 R1.fh hp))⟩
theorem zu9 (h : PDA X es fs) : PDE X (.List es pos) (eLst fs) :=
 PE.imp (pe_lst h) fun σ H Q ⟨F, τ, R, hq⟩ => tAs.of R hq.bind fun ds vs F1 H1 g x R1 r => by
  obtain ⟨z, g⟩ := zj4 g
  refine ⟨by rw [← r.length]; exact z, fun p hp => g (.ref p) _ _ (x.trans (Ext.new R1.fh hp)) ?_⟩
  simp only [Rep]
  exact ⟨p, vs, rfl, zb2, r.mono (zf7 (zc6 R1.fh hp))⟩
end
inductive Fl where
 | nx (τ : DS) | rt (d : D) | bk (τ : DS) | ct (τ : DS) | ex (c : Str) | no
 | rs (c : Str) (τ : DS)
 | ro (d : D) (τ : DS)
 | rb (i : Nat) (τ : DS)
def Nw (X : Cx) (H : Hp) (b : Addr) : Prop := H b = none ∧ X.s₀.heap.get? b = none ∧ ∀ p ∈ X.pn, p.1 ≠ b
def ExcAt (X : Cx) (H : Hp) (h : Heap) (a : Addr) (cls : Value) : Prop := Nw X H a ∧ ∃ oe vs, h.get? a = some oe ∧ oe.cls = cls ∧ oe.dict = none ∧ oe.data = .fields vs ∧
 (vs[1]? = some .none ∨ ∃ T oT ts, vs[1]? = some (.ref T) ∧ Nw X H T ∧ T ≠ a ∧ h.get? T = some oT ∧ oT.data = .fields ts ∧ ts[3]? = some .none) ∧ vs[2]? = some .none
def XA (X : Cx) (c : Str) (σ : St) (H : Hp) : Prop := ∀ s a cls, PySem.W.nsIn X.K mainGlobals c = some (some cls) → Inv X [] σ H s → ExcAt X H s.heap a cls → X.xe (.ref a) s
abbrev FS := DS → Fl
def Post (X : Cx) (B Z F : Hp) (E : Ends) : Fl → Prop
 | .nx τ => ∀ σ F' H', Same F F' → RS X.K B Z F' τ σ H' → E.nx σ H'
 | .bk τ => ∀ σ F' H', Same F F' → RS X.K B Z F' τ σ H' → E.bk σ H'
 | .ct τ => ∀ σ F' H', Same F F' → RS X.K B Z F' τ σ H' → E.ct σ H'
 | .rt d => ∀ v F' H', Ext Z B F' H' → Rep X.K F' d v → E.rt v H'
 | .ex c => Xob X c
 | .no => False
 | .rs c τ => ∀ σ F' H', Same F F' → RS X.K B Z F' τ σ H' → XA X c σ H'
 | .ro d τ => ∀ v σ F' H', Same F F' → RS X.K B Z F' τ σ H' → Rep X.K F' d v → E.rt v H'
 | .rb i τ => ∀ v σ F' H', Same F F' → RS X.K B Z F' τ σ H' → σ[i]? = some (some v) → E.rt v H'
theorem Post.same {X : Cx} {B Z F F1 : Hp} {E : Ends} {r : Fl} (h : Post X B Z F E r) (f : Same F F1) : Post X B Z F1 E r := by
 cases r with
 | nx τ => exact fun σ F' H' g R => h σ F' H' (f.trans g) R
 | bk τ => exact fun σ F' H' g R => h σ F' H' (f.trans g) R
 | ct τ => exact fun σ F' H' g R => h σ F' H' (f.trans g) R
 | rt d => exact h
 | ex c => exact h
 | no => exact h
 | rs c τ => exact fun σ F' H' g R => h σ F' H' (f.trans g) R
 | ro d τ => exact fun v σ F' H' g R r => h v σ F' H' (f.trans g) R r
 | rb i τ => exact fun v σ F' H' g R r => h v σ F' H' (f.trans g) R r
def tS (X : Cx) (f : FS) : TS := fun E σ H => ∃ B Z F τ, RS X.K B Z F τ σ H ∧ Post X B Z F E (f τ)
def PDS (X : Cx) (st : Stmt) (f : FS) : Prop := PS X st (tS X f)
def PDSs (X : Cx) (st : List Stmt) (f : FS) : Prop := PSs X st (tS X f)
def Fl.of {α : Type} (r : Rs α) (k : α → Fl) : Fl := match r with
 | .ok a => k a
 | .ex c => .ex c
 | .no => .no
@[simp] theorem Fl.of_ok {α : Type} (a : α) (k : α → Fl) : Fl.of (.ok a) k = k a := rfl
theorem Post.of {X : Cx} {B Z F : Hp} {E : Ends} {α : Type} {r : Rs α} {k : α → Fl} (h : Post X B Z F E (Fl.of r k)) : Ok X r fun a => Post X B Z F E (k a) := by
 cases r <;> exact h
section
variable {X : Cx} {pos : Pos} {e : Expr} {es : List Expr} {fe : FE} {fs : FA} {st : Stmt} {rest : List Stmt} {f g : FS} {c : Expr} {gc : FT}
def sNext : FS := fun τ => .nx τ
def sSeq (f g : FS) : FS := fun τ => match f τ with
 | .nx τ' => g τ'
 | r => r
theorem zd2 : PDSs X [] sNext := PSs.imp pss_nil fun E σ H ⟨B, Z, F, τ, R, h⟩ => h σ F H (Same.refl F) R
theorem za8 (h : PDS X st f) : PDSs X [st] f := pss_one h
theorem za5 (h1 : PDS X st f) (h2 : PDSs X rest g) : PDSs X (st :: rest) (sSeq f g) :=
 PSs.imp (pss_cons h1 h2) fun E σ H ⟨B, Z, F, τ, R, h⟩ => by
  refine ⟨B, Z, F, τ, R, ?_⟩
  unfold sSeq at h
  cases q : f τ with
  | nx τ' => rw [q] at h; exact fun σ' F' H' ff R' => ⟨B, Z, F', τ', R', Post.same h ff⟩
  | rt d => rw [q] at h; exact h
  | bk d => rw [q] at h; exact h
  | ct d => rw [q] at h; exact h
  | ex d => rw [q] at h; exact h
  | no => rw [q] at h; exact h
  | rs c d => rw [q] at h; exact h
  | ro c d => rw [q] at h; exact h
  | rb c d => rw [q] at h; exact h
def sNo : FS := fun _ => .no
theorem zG5 : PDS X st sNo := PS.imp ps_never fun E σ H ⟨B, Z, F, τ, R, h⟩ => h
def sRet (fe : FE) : FS := fun τ => Fl.of (fe τ) fun d => .rt d
theorem tE.at {B Z F H : Hp} {τ : DS} {σ : St} {Q : VK} {G : D → Prop} (R : RS X.K B Z F τ σ H) (h : Ok X (fe τ) G)
  (k : ∀ d v F1 H1, G d → Ext F H F1 H1 → RS X.K B Z F1 τ σ H1 → Rep X.K F1 d v → Q v H1) : tE X fe σ H Q :=
 tE.of R.rv h fun d v F1 H1 g x _ r => k d v F1 H1 g x (R.ext x) r
theorem zc9 (he : PDE X e fe) : PDS X (.Return (some e) pos) (sRet fe) :=
 PS.imp (ya5 he) fun E σ H ⟨B, Z, F, τ, R, h⟩ => tE.at R h.of fun d v F1 H1 g x R1 r => g v F1 H1 R1.out r
def sIf (gc : FT) (f g : FS) : FS := fun τ => Fl.of (gc τ) fun b => if b = true then f τ else g τ
theorem zj3 {a b : List Stmt} (hc : PDT X c gc) (ha : PDSs X a f) (hb : PDSs X b g) : PDS X (.If c a b pos) (sIf gc f g) :=
 PS.imp (ps_if hc ha hb) fun E σ H ⟨B, Z, F, τ, R, h⟩ => tTs.of R.rv h.of fun k F1 H1 q x _ => by
  cases k with
  | true => rw [if_pos rfl] at q ⊢; exact ⟨B, Z, F1, τ, R.ext x, q.same x.ff⟩
  | false => rw [if_neg (by simp)] at q ⊢; exact ⟨B, Z, F1, τ, R.ext x, q.same x.ff⟩
theorem RV.set {K : PySem.W.Frag} {F H : Hp} {τ : DS} {σ : St} {i : Nat} {d : D} {v : V} (R : RV K F τ σ H) (r : Rep K F d v) : RV K F (τ.set i (some (.val d))) (σ.set i (some v)) H := by
 refine ⟨R.fh, by simp [R.len], fun j e h => ?_, fun j es h => ?_, fun j k ds es a hjk h1 h2 h3 h4 => ?_, ?_, ?_⟩
 ·by_cases hij : i = j
  ·subst hij
   have hlt : i < τ.length := by
    rcases Nat.lt_or_ge i τ.length with z | z
    ·exact z
    ·rw [List.getElem?_eq_none_iff.mpr (by simpa using z)] at h; cases h
   rw [List.getElem?_set_self hlt] at h
   cases h
   exact ⟨v, by rw [List.getElem?_set_self (by rw [← R.len]; exact hlt)], r⟩
  ·rw [List.getElem?_set_ne hij] at h ⊢
   exact R.val j e h
 ·by_cases hij : i = j
  ·subst hij
   rw [List.getElem?_set] at h
   simp only [if_true] at h
   split at h <;> cases h
  ·rw [List.getElem?_set_ne hij] at h ⊢
   exact R.own j es h
 ·have n1 : i ≠ j := fun z => by
   subst z
   rw [List.getElem?_set] at h1
   simp only [if_true] at h1
   split at h1 <;> cases h1
  have n2 : i ≠ k := fun z => by
   subst z
   rw [List.getElem?_set] at h2
   simp only [if_true] at h2
   split at h2 <;> cases h2
  rw [List.getElem?_set_ne n1] at h1 h3
  rw [List.getElem?_set_ne n2] at h2 h4
  exact R.dis j k ds es a hjk h1 h2 h3 h4
 ·exact R.tt
 ·exact R.ob.put rfl fun _ _ z => by cases z
theorem RS.set {K : PySem.W.Frag} {B Z F H : Hp} {τ : DS} {σ : St} {i : Nat} {d : D} {v : V} (R : RS K B Z F τ σ H) (r : Rep K F d v) : RS K B Z F (τ.set i (some (.val d))) (σ.set i (some v)) H :=
 ⟨R.rv.set r, R.bh, R.zf, R.nb, fun j ds a h1 h2 => by
  have n1 : i ≠ j := fun z => by
   subst z
   rw [List.getElem?_set] at h1
   simp only [if_true] at h1
   split at h1 <;> cases h1
  rw [List.getElem?_set_ne n1] at h1 h2
  exact R.ob j ds a h1 h2, fun j m c fs a h1 h2 => by
  obtain ⟨n, h1⟩ := zi3 (s := some (.val d)) rfl rfl h1
  rw [List.getElem?_set_ne n] at h2
  exact R.oo j m c fs a h1 h2, fun a0 dx b1 b2 j m c fs h => by
  obtain ⟨n, h⟩ := zi3 (s := some (.val d)) rfl rfl h
  rw [List.getElem?_set_ne n]
  exact R.sf a0 dx b1 b2 j m c fs h, fun j c fs a h1 h2 => by
  obtain ⟨n, h1⟩ := zi3 (s := some (.val d)) rfl rfl h1
  rw [List.getElem?_set_ne n] at h2
  exact R.ro j c fs a h1 h2⟩
def sSet (i : Nat) (fe : FE) : FS := fun τ => Fl.of (fe τ) fun d => .nx (τ.set i (some (.val d)))
theorem ze5 {i : Nat} {x : Str} {pos' : Pos} (hN : X.N.Nodup) (hi : X.N[i]? = some x) (hx : Loc X.env.scope x) (he : PDE X e fe) (hs : swapsWith e (some (.Name x pos')) pos.line X.env = pure false := by rfl) (hf : X.fn x = true ∨ X.env.scope.names.lookup x = some .local := by first | exact .inl rfl | exact .inr rfl | assumption) :
  PDS X (.Assign [.Name x pos'] e pos) (sSet i fe) :=
 PS.imp (zT0 hN hi hx he hs hf) fun E σ H ⟨B, Z, F, τ, R, h⟩ => tE.at R h.of fun d v F1 H1 g x R1 r => g _ F1 H1 x.ff (R1.set r)
def tFr (X : Cx) (f : FA) : TE := fun σ H Q => ∃ F τ, RV X.K F τ σ H ∧ Ok X (f τ) fun ds => ∀ p vs F' H', Ext F H F' H' → H' p = none → Reps X.K F' ds vs → Q (.ref p) (upd H' p (.lst vs))
def PDF (X : Cx) (e : Expr) (f : FA) : Prop := PE X e (tFr X f)
theorem zu8 (h : PDA X es fs) : PDF X (.List es pos) (fun τ => (fs τ).bind fun ds => if ds.length ≤ sizeLine then .ok ds else .no) :=
 PE.imp (pe_lst h) fun σ H Q ⟨F, τ, R, hq⟩ => tAs.of R hq.bind fun ds vs F1 H1 g x R1 r => by
  obtain ⟨z, g⟩ := zj4 g
  exact ⟨by rw [← r.length]; exact z, fun p hp => g p vs F1 H1 x hp r⟩
theorem zL6 {ff : FA} (h : PDF X e ff) : PDE X e (fun τ => (ff τ).bind fun ds => .ok (.lst ds)) :=
 PE.imp h fun σ H Q ⟨F, τ, R, hq⟩ => ⟨F, τ, R, hq.bind.imp fun ds g p vs F1 H1 x hp r => by
  refine g (.ref p) _ _ (x.trans (Ext.new x.fh hp)) ?_
  simp only [Rep]
  exact ⟨p, vs, rfl, zb2, r.mono (zf7 (zc6 x.fh hp))⟩⟩
def sSetO (i : Nat) (ff : FA) : FS := fun τ => Fl.of (ff τ) fun ds => .nx (τ.set i (some (.own ds)))
theorem RV.setO {K : PySem.W.Frag} {F H : Hp} {τ : DS} {σ : St} {i : Nat} {p : Addr} {ds : List D} {vs : List V} (R : RV K F τ σ H) (hp : H p = none) (r : Reps K F ds vs) : RV K F (τ.set i (some (.own ds))) (σ.set i (some (.ref p))) (upd H p (.lst vs)) := by
 have nofr := zc6 R.fh hp
 have hlt : ∀ {o : Sl}, (τ.set i (some (.own ds)))[i]? = some (some o) → i < τ.length := fun {o} h => by
  rcases Nat.lt_or_ge i τ.length with z | z
  ·exact z
  ·rw [List.getElem?_eq_none_iff.mpr (by simpa using z)] at h; cases h
 refine ⟨R.fh.trans (zf7 hp), by simp [R.len], fun j e h => ?_, fun j es h => ?_, fun j k es es' a hjk h1 h2 h3 h4 => ?_, ?_, ?_⟩
 ·by_cases hij : i = j
  ·subst hij
   rw [List.getElem?_set_self (hlt h)] at h; cases h
  ·rw [List.getElem?_set_ne hij] at h ⊢
   exact R.val j e h
 ·by_cases hij : i = j
  ·subst hij
   have l := hlt h
   rw [List.getElem?_set_self l] at h
   cases h
   exact ⟨p, vs, by rw [List.getElem?_set_self (by rw [← R.len]; exact l)], zb2, nofr, r⟩
  ·rw [List.getElem?_set_ne hij] at h ⊢
   obtain ⟨a, ws, q1, q2, q3, q4⟩ := R.own j es h
   exact ⟨a, ws, q1, by rw [zb3 (zc7 q2 hp)]; exact q2, q3, q4⟩
 ·by_cases n1 : i = j
  ·subst n1
   rw [List.getElem?_set_ne hjk] at h2 h4
   obtain ⟨a', ws, q1, q2, q3, q4⟩ := R.own k es' h2
   rw [q1] at h4; cases h4
   have l := hlt h1
   rw [List.getElem?_set_self (by rw [← R.len]; exact l)] at h3
   cases h3
   rw [hp] at q2; cases q2
  ·by_cases n2 : i = k
   ·subst n2
    rw [List.getElem?_set_ne (Ne.symm hjk)] at h1 h3
    obtain ⟨a', ws, q1, q2, q3, q4⟩ := R.own j es h1
    rw [q1] at h3; cases h3
    have l := hlt h2
    rw [List.getElem?_set_self (by rw [← R.len]; exact l)] at h4
    cases h4
    rw [hp] at q2; cases q2
   ·rw [List.getElem?_set_ne n1] at h1 h3
    rw [List.getElem?_set_ne n2] at h2 h4
    exact R.dis j k es es' a hjk h1 h2 h3 h4
 ·exact R.tt.step (fun _ _ e => .inl e) (fun b o e _ => by rw [zb3 (zc7 e hp)]; exact e) (zz4 fun _ z => nomatch z)
 ·have o1 : ObsOk K F (τ.set i (some (.own ds))) (σ.set i (some (.ref p))) H := R.ob.put rfl fun _ l _ z => by
   cases z; exact R.ob.fresh hp
  exact o1.updL (.inl hp) (o1.fresh hp)
theorem RS.setO {K : PySem.W.Frag} {B Z F H : Hp} {τ : DS} {σ : St} {i : Nat} {p : Addr} {ds : List D} {vs : List V} (R : RS K B Z F τ σ H) (hp : H p = none) (r : Reps K F ds vs) : RS K B Z F (τ.set i (some (.own ds))) (σ.set i (some (.ref p))) (upd H p (.lst vs)) :=
 ⟨R.rv.setO hp r, R.bh.trans (.of (zf7 hp)), R.zf, R.nb, fun j es a h1 h2 => by
  by_cases n1 : i = j
  ·subst n1
   have l : i < τ.length := by
    rcases Nat.lt_or_ge i τ.length with z | z
    ·exact z
    ·rw [List.getElem?_eq_none_iff.mpr (by simpa using z)] at h1; cases h1
   rw [List.getElem?_set_self (by rw [← R.rv.len]; exact l)] at h2
   cases h2
   exact zl5 R.bh hp
  ·rw [List.getElem?_set_ne n1] at h1 h2
   exact R.ob j es a h1 h2, fun j m c fs a h1 h2 => by
  obtain ⟨n, h1⟩ := zi3 (s := some (.own ds)) rfl rfl h1
  rw [List.getElem?_set_ne n] at h2
  rw [R.rv.ob.lof (.inl ⟨m, fs, h1⟩) h2 (.inl hp)]
  exact R.oo j m c fs a h1 h2, fun a0 dx b1 b2 j m c fs h => by
  obtain ⟨n, h⟩ := zi3 (s := some (.own ds)) rfl rfl h
  rw [List.getElem?_set_ne n]
  exact R.sf a0 dx b1 b2 j m c fs h, fun j c fs a h1 h2 => by
  obtain ⟨n, h1⟩ := zi3 (s := some (.own ds)) rfl rfl h1
  rw [List.getElem?_set_ne n] at h2
  exact R.ro j c fs a h1 h2⟩
theorem zy8 {i : Nat} {x : Str} {pos' : Pos} {ff : FA} (hN : X.N.Nodup) (hi : X.N[i]? = some x) (hx : Loc X.env.scope x) (he : PDF X e ff) (hs : swapsWith e (some (.Name x pos')) pos.line X.env = pure false := by rfl) (hf : X.fn x = true ∨ X.env.scope.names.lookup x = some .local := by first | exact .inl rfl | exact .inr rfl | assumption) :
  PDS X (.Assign [.Name x pos'] e pos) (sSetO i ff) :=
 PS.imp (zT0 hN hi hx he hs hf) fun E σ H ⟨B, Z, F, τ, R, h⟩ => ⟨F, τ, R.rv, h.of.imp fun ds g p vs F1 H1 x hp r => g _ F1 _ x.ff ((R.ext x).setO hp r)⟩
theorem RV.own_upd {K : PySem.W.Frag} {F H : Hp} {τ : DS} {σ : St} {i : Nat} {p : Addr} {ds es : List D} {ws : List V} (R : RV K F τ σ H) (h : τ[i]? = some (some (.own ds))) (hp : σ[i]? = some (some (.ref p))) (r : Reps K F es ws) :
  RV K F (τ.set i (some (.own es))) σ (upd H p (.lst ws)) := by
 obtain ⟨a, vs, q1, q2, q3, q4⟩ := R.own i ds h
 rw [q1] at hp; cases hp
 have l : i < τ.length := (List.getElem?_eq_some_iff.mp h).1
 refine ⟨fun b o e => ?_, by simp [R.len], fun j e h' => ?_, fun j es' h' => ?_, fun j k e1 e2 b hjk h1 h2 h3 h4 => ?_, ?_, ?_⟩
 ·have n : b ≠ p := fun z => by subst z; rw [q3] at e; cases e
  rw [zb3 n]; exact R.fh b o e
 ·by_cases hij : i = j
  ·subst hij; rw [List.getElem?_set_self l] at h'; cases h'
  ·rw [List.getElem?_set_ne hij] at h'; exact R.val j e h'
 ·by_cases hij : i = j
  ·subst hij
   rw [List.getElem?_set_self l] at h'; cases h'
   exact ⟨p, ws, q1, zb2, q3, r⟩
  ·rw [List.getElem?_set_ne hij] at h'
   obtain ⟨a', vs', z1, z2, z3, z4⟩ := R.own j es' h'
   have n : a' ≠ p := fun z => by subst z; exact R.dis i j ds es' a' hij h h' q1 z1
   exact ⟨a', vs', z1, by rw [zb3 n]; exact z2, z3, z4⟩
 ·have : ∀ {m : Nat} {e : List D}, (τ.set i (some (.own es)))[m]? = some (some (.own e)) → ∃ e', τ[m]? = some (some (.own e')) := fun {m e} z => by
   by_cases him : i = m
   ·subst him; exact ⟨ds, h⟩
   ·rw [List.getElem?_set_ne him] at z; exact ⟨e, z⟩
  obtain ⟨x1, y1⟩ := this h1
  obtain ⟨x2, y2⟩ := this h2
  exact R.dis j k x1 x2 b hjk y1 y2 h3 h4
 ·exact R.tt.step (fun _ _ e => .inl e) (fun b o e n => by
   have : b ≠ p := fun z => by subst z; rw [q2] at e; cases e; exact n _ rfl
   rw [zb3 this]; exact e) (zz4 fun _ z => nomatch z)
 ·exact (R.ob.updL (.inr ⟨vs, q2⟩) fun j c a g1 g2 hl => R.ob.lo j i c ds a p g1 h g2 q1 hl).putS h
theorem RS.own_upd {K : PySem.W.Frag} {B Z F H : Hp} {τ : DS} {σ : St} {i : Nat} {p : Addr} {ds es : List D} {ws : List V} (R : RS K B Z F τ σ H) (h : τ[i]? = some (some (.own ds))) (hp : σ[i]? = some (some (.ref p))) (r : Reps K F es ws) :
  RS K B Z F (τ.set i (some (.own es))) σ (upd H p (.lst ws)) := by
 have hb := R.ob i ds p h hp
 refine ⟨R.rv.own_upd h hp r, fun b o e => ?_, R.zf, R.nb, fun j e a h1 h2 => ?_, fun j m c fs a h1 h2 => ?_, fun a0 dx b1 b2 j m c fs h => R.sf a0 dx b1 b2 j m c fs (zi3 (s := some (.own es)) rfl rfl h).2, fun j c fs a h1 h2 => R.ro j c fs a (zi3 (s := some (.own es)) rfl rfl h1).2 h2⟩
 ·have n : b ≠ p := fun z => by subst z; rw [hb] at e; cases e
  rw [zb3 n]; exact R.bh b o e
 ·by_cases him : i = j
  ·subst him; exact R.ob i ds a h h2
  ·rw [List.getElem?_set_ne him] at h1; exact R.ob j e a h1 h2
 ·have h1 := (zi3 (s := some (.own es)) rfl rfl h1).2
  obtain ⟨p', vs, q1, q2, _⟩ := R.rv.own i ds h
  rw [q1] at hp; cases hp
  rw [R.rv.ob.lof (.inl ⟨m, fs, h1⟩) h2 (.inr ⟨vs, q2⟩)]
  exact R.oo j m c fs a h1 h2
def ownAt (τ : DS) (i : Nat) : Rs (List D) := match τ[i]? with
 | some (some (.own ds)) => .ok ds
 | _ => .no
theorem zz1 {τ : DS} {i : Nat} {P : List D → Prop} (h : Ok X (ownAt τ i) P) : ∃ ds, τ[i]? = some (some (.own ds)) ∧ P ds := by
 unfold ownAt at h
 cases q : τ[i]? with
 | none => rw [q] at h; exact h.elim
 | some o =>
  cases o with
  | none => rw [q] at h; exact h.elim
  | some sl =>
   cases sl with
   | val d => rw [q] at h; exact h.elim
   | obj n c fs => rw [q] at h; exact h.elim
   | obr c fs => rw [q] at h; exact h.elim
   | own ds => rw [q] at h; exact ⟨ds, rfl, h⟩
def sApp (i : Nat) (fe : FE) : FS := fun τ => Fl.of (ownAt τ i) fun ds => Fl.of (fe τ) fun d => if ds.length < sizeLine then .nx (τ.set i (some (.own (ds ++ [d])))) else .no
theorem zG8 {i : Nat} {x : Str} {p1 apos cpos : Pos} (hx : PE X (.Name x p1) (tVar i)) (he : PDE X e fe)
  (hfew : ((backTo cpos (starEach [e] X.env)).all (fun x => !x.1) && (backToKw cpos (keywordEach [] X.env)).all (fun x => x.1.isSome)
   && decide ([e].length + ([] : List Keyword).length + (if ([] : List Keyword).isEmpty then 0 else 1) < 30)) = true := by rfl)
  (hline : (apos.endLine == cpos.line) = true := by rfl) (hs : starEach [e] X.env = [(false, eval e X.env)] := by rfl) (hplain : (backTo cpos (starEach [] X.env)).any (·.1) = false := by rfl)
  (hbase : attributeBase (.Name x p1) "append" X.env (eval (.Name x p1) X.env) = eval (.Name x p1) X.env := by rfl)
  (hsw : swapsWith (.Call (.Attribute (.Name x p1) "append" apos) [e] [] cpos) none pos.line X.env = pure false := by rfl) :
  PDS X (.Expr (.Call (.Attribute (.Name x p1) "append" apos) [e] [] cpos) pos) (sApp i fe) :=
 PS.imp (zN2 (pe_bm PySem.F.plainAttrs_list PySem.F.slot_list_append PySem.F.type_list_append zz5 hx (zt6 he zH1 (by rw [hs]; rfl)) hbase hfew hline (by rw [hs]; rfl) hplain) hsw) fun E σ H ⟨B, Z, F, τ, R, h⟩ => by
  obtain ⟨ds, h1, h2⟩ := zz1 (X := X) (Post.of h)
  obtain ⟨a, vs, q1, q2, q3, q4⟩ := R.rv.own i ds h1
  refine ⟨_, q1, .inl ⟨rfl, vs, SqL.of q2⟩, ?_⟩
  refine tE.at R h2.of fun d v F1 H1 g x R1 r => ?_
  by_cases z : ds.length < sizeLine
  ·rw [if_pos z] at g
   refine ⟨a, vs, v, rfl, rfl, x.hh _ _ q2, by rw [← q4.length]; exact z, ?_⟩
   exact g _ F1 _ x.ff (R1.own_upd h1 q1 ((q4.mono x.ff).append (Reps.cons r Reps.nil)))
  ·rw [if_neg z] at g; exact g.elim
def sPut (i : Nat) (fi fe : FE) : FS := fun τ => Fl.of (fe τ) fun d => Fl.of (ownAt τ i) fun ds => Fl.of (fi τ) fun k => match k with
 | .int k => match ixN ds.length k with
  | some j => .nx (τ.set i (some (.own (ds.set j d))))
  | none => .no
 | _ => .no
theorem pds_put {i : Nat} {x : Str} {p1 spos : Pos} {ix : Expr} {fi : FE} (hx : PE X (.Name x p1) (tVar i)) (hi : PDE X ix fi) (he : PDE X e fe)
  (ha : ∀ v, assign (.Subscript (.Name x p1) ix spos) X.env v = (do
   let ov ← holding [v] (eval (.Name x p1) X.env)
   let iv ← holding [v, ov] (eval ix X.env)
   standAt spos
   holding [v, ov, iv] (setItem ov iv v)
   release [v, ov, iv] []) := by intro _; rfl)
  (hs : swapsWithSole [.Subscript (.Name x p1) ix spos] e pos.line X.env = pure false := by rfl) (hw : swappedStores [.Subscript (.Name x p1) ix spos] e X.env = pure none := by rfl)
  (h1 : (assignEach [.Subscript (.Name x p1) ix spos] X.env).map (·.2) = [assign (.Subscript (.Name x p1) ix spos) X.env] := by rfl) :
  PDS X (.Assign [.Subscript (.Name x p1) ix spos] e pos) (sPut i fi fe) :=
 PS.imp (ps_asg he (pg_sub hx hi set_list ha) hs hw h1) fun E σ H ⟨B, Z, F, τ, R, h⟩ => by
  refine tE.at R h.of fun d v F1 H1 g x R1 r => ?_
  obtain ⟨ds, h1, h2⟩ := zz1 (X := X) (Post.of g)
  obtain ⟨a, vs, q1, q2, q3, q4⟩ := R1.rv.own i ds h1
  refine ⟨_, q1, ?_⟩
  refine tE.at R1 h2.of fun k w F2 H2 g2 x2 R2 r2 => ?_
  cases k with
  | int k =>
   simp only [Rep] at r2
   simp only at g2
   cases q : ixN ds.length k with
   | none => rw [q] at g2; exact g2.elim
   | some j =>
    rw [q] at g2
    refine ⟨a, vs, k, j, rfl, r2, x2.hh _ _ q2, by rw [← q4.length]; exact q, ?_⟩
    exact g2 _ F2 _ (x.ff.trans x2.ff) (R2.own_upd h1 q1 (Reps.set (r.mono x2.ff) j (q4.mono x2.ff)))
  | _ => exact g2.elim
def sRetO (i : Nat) : FS := fun τ => Fl.of (ownAt τ i) fun ds => .rt (.lst ds)
theorem zy9 {i : Nat} {x : Str} {p1 : Pos} (hx : PE X (.Name x p1) (tVar i)) : PDS X (.Return (some (.Name x p1)) pos) (sRetO i) :=
 PS.imp (ya5 hx) fun E σ H ⟨B, Z, F, τ, R, h⟩ => by
  obtain ⟨ds, h1, h2⟩ := zz1 (X := X) (Post.of h)
  obtain ⟨a, vs, q1, q2, q3, q4⟩ := R.rv.own i ds h1
  have hb := R.ob i ds a h1 q1
  refine ⟨_, q1, h2 (.ref a) (upd F a (.lst vs)) H ⟨?_, R.bh, fun b o e => ?_, fun b o e => ?_, fun _ => R.rv.tt.freeze q2⟩ ?_⟩
  ·exact R.zf.trans (zf7 q3)
  ·by_cases z : b = a
   ·subst z; rw [zb2] at e; cases e; exact q2
   ·rw [zb3 z] at e; exact R.rv.fh b o e
  ·by_cases z : b = a
   ·subst z; exact .inr hb
   ·rw [zb3 z] at e; exact R.nb b o e
  ·simp only [Rep]
   exact ⟨a, vs, rfl, zb2, q4.mono (zf7 q3)⟩
def eIxO (i : Nat) (fi : FE) : FE := fun τ => (ownAt τ i).bind fun ds => (fi τ).bind fun k => match k with
 | .int k => match atI ds k with
  | some d => .ok d
  | none => .no
 | _ => .no
theorem zF1 {K : PySem.W.Frag} {F : Hp} {ds : List D} {vs : List V} {k : Int} {d : D} (r : Reps K F ds vs) (h : atI ds k = some d) : ∃ v, atI vs k = some v ∧ Rep K F d v := by
 unfold atI at h ⊢
 rw [← r.length]
 cases q : ixN ds.length k with
 | none => rw [q] at h; cases h
 | some j =>
  rw [q] at h
  exact r.get h
theorem pde_ixO {i : Nat} {x : Str} {p1 : Pos} {ix : Expr} {fi : FE} (hx : PE X (.Name x p1) (tVar i)) (hi : PDE X ix fi) (hs : zR7 ix := by intro _ _; rfl) : PDE X (.Subscript (.Name x p1) ix pos) (eIxO i fi) :=
 PE.imp (pe_ix ix_list hx hi hs) fun σ H Q ⟨F, τ, R, h⟩ => by
  obtain ⟨ds, h1, h2⟩ := zz1 (X := X) (Ok.bind h)
  obtain ⟨a, vs, q1, q2, q3, q4⟩ := R.own i ds h1
  refine ⟨_, q1, ?_⟩
  refine tE.of R h2.bind fun k w F2 H2 g2 x2 R2 r2 => ?_
  cases k with
  | int k =>
   simp only [Rep] at r2
   simp only at g2
   cases q : atI ds k with
   | none => rw [q] at g2; exact g2.elim
   | some d =>
    rw [q] at g2
    obtain ⟨v, z1, z2⟩ := zF1 q4 q
    exact ⟨a, vs, k, v, rfl, r2, SqL.of (x2.hh _ _ q2), z1, g2 v F2 H2 x2 (z2.mono x2.ff)⟩
  | _ => exact g2.elim
def eLenO (i : Nat) : FE := fun τ => (ownAt τ i).bind fun ds => .ok (.int ds.length)
theorem zE5 {i : Nat} {x : Str} {p1 p : Pos} (hx : PE X (.Name x p1) (tVar i)) (hg : Gl X "len") (hm : X.mg "len" = none)
  (he : starEach [.Name x p1] X.env = [(false, eval (.Name x p1) X.env)] := by rfl) (hpl : (backTo pos (starEach [] X.env)).any (·.1) = false := by rfl) : PDE X (.Call (.Name "len" p) [.Name x p1] [] pos) (eLenO i) :=
 PE.imp (pe_callB call_len_seq hg hm PySem.boot_len (zt6 hx zH1 (by rw [he]; rfl)) (he := by rw [he]; rfl) (hpl := hpl)) fun σ H Q ⟨F, τ, R, h⟩ => by
  obtain ⟨ds, h1, h2⟩ := zz1 (X := X) (Ok.bind h)
  obtain ⟨a, vs, q1, q2, q3, q4⟩ := R.own i ds h1
  refine ⟨_, q1, a, vs, rfl, .inl (SqL.of q2), ?_⟩
  rw [← q4.length]
  exact h2 (.int ds.length) F H (Ext.refl R.fh) (by simp only [Rep])
end
def ItOk (K : PySem.W.Frag) (J : It) (F1 : Hp) (ds : List D) : Prop := ∀ (i : Nat) (F H : Hp), Same F1 F → Same F H →
 (ds.length ≤ i → J.stop i H) ∧ ∀ d, ds[i]? = some d → J.go i H ∧ ∀ x H', J.yld i H x H' → ∃ F', Ext F H F' H' ∧ Rep K F' d x
theorem ItOk.mono {K : PySem.W.Frag} {J : It} {F1 F2 : Hp} {ds : List D} (h : ItOk K J F1 ds) (f : Same F1 F2) : ItOk K J F2 ds := fun i F H a b => h i F H (f.trans a) b
def tI (X : Cx) (f : FA) : TI := fun σ H R => ∃ F τ, RV X.K F τ σ H ∧ Ok X (f τ) fun ds => ∀ J F1 H1, Ext F H F1 H1 → ItOk X.K J F1 ds → R J H1
def PDI (X : Cx) (tg iter : Expr) (f : FA) : Prop := PI X tg iter (tI X f)
theorem _root_.L2.PI.imp {X : Cx} {tg e : Expr} {t t' : TI} (h : PI X tg e t) (f : ∀ σ H Q, t' σ H Q → t σ H Q) : PI X tg e t' := fun pins s σ H Q I q => h pins s σ H Q I (f _ _ _ q)
section
variable {X : Cx} {pos : Pos} {e tg : Expr} {es : List Expr} {fe : FE} {fs : FA}
theorem ym5 {K : PySem.W.Frag} {a : Addr} {F1 : Hp} {ds : List D} {vs : List V} (e : SqL K F1 a vs) (r : Reps K F1 ds vs) : ItOk K (Itl K a) F1 ds := fun i F H f1 f2 => by
 have q : SqL K H a vs := (f1.trans f2).seq e
 refine ⟨fun h => ⟨vs, q, by rw [← r.length]; exact h⟩, fun d hd => ?_⟩
 obtain ⟨v, h1, h2⟩ := r.get hd
 refine ⟨⟨vs, v, q, h1⟩, fun x H' y => ?_⟩
 obtain ⟨e1, y⟩ := y
 subst e1
 have h3 := y vs q
 rw [h1] at h3; cases h3
 exact ⟨F, Ext.refl f2, h2.mono f1⟩
theorem it_tup {K : PySem.W.Frag} {a : Addr} {F1 : Hp} {ds : List D} {vs : List V} (e : SqT K F1 a vs) (r : Reps K F1 ds vs) : ItOk K (Itt K a) F1 ds := fun i F H f1 f2 => by
 have q : SqT K H a vs := Same.seqT (f1.trans f2) e
 refine ⟨fun h => ⟨vs, q, by rw [← r.length]; exact h⟩, fun d hd => ?_⟩
 obtain ⟨v, h1, h2⟩ := r.get hd
 refine ⟨⟨vs, v, q, h1⟩, fun x H' y => ?_⟩
 obtain ⟨e1, y⟩ := y
 subst e1
 have h3 := y vs q
 rw [h1] at h3; cases h3
 exact ⟨F, Ext.refl f2, h2.mono f1⟩
def rngD (lo : Int) (n : Nat) : List D := (List.range n).map fun (k : Nat) => D.int (lo + k)
theorem it_rng {K : PySem.W.Frag} {F1 : Hp} {lo : Int} {n : Nat} : ItOk K (Itr lo n) F1 (rngD lo n) := fun i F H f1 f2 => by
 have hl : (rngD lo n).length = n := by simp [rngD]
 refine ⟨fun h => by rw [hl] at h; exact h, fun d hd => ?_⟩
 have hi : i < n := by have := (List.getElem?_eq_some_iff.mp hd).1; rw [hl] at this; exact this
 refine ⟨hi, fun x H' y => ?_⟩
 obtain ⟨e1, y⟩ := y
 subst e1
 refine ⟨F, Ext.refl f2, ?_⟩
 simp [rngD, hi] at hd
 subst hd
 simp only [Rep]; exact y
def int1 : List D → Option Int
 | [.int j] => some j
 | _ => none
def int2 : List D → Option (Int × Int)
 | [.int i, .int j] => some (i, j)
 | _ => none
def pair2 : D → Option (D × D)
 | .tup [x, y] => some (x, y)
 | _ => none
theorem ym8 {ds : List D} {j : Int} (h : int1 ds = some j) : ds = [.int j] := by
 unfold int1 at h; split at h <;> cases h; rfl
theorem zY5 {ds : List D} {i j : Int} (h : int2 ds = some (i, j)) : ds = [.int i, .int j] := by
 unfold int2 at h; split at h <;> cases h; rfl
theorem pair2_eq {d x y : D} (h : pair2 d = some (x, y)) : d = .tup [x, y] := by
 unfold pair2 at h; split at h <;> cases h; rfl
def iRg1 (fs : FA) : FA := fun τ => (fs τ).bind fun ds => match int1 ds with
 | some j => if -(2 ^ 62) ≤ j ∧ j < 2 ^ 62 then .ok (rngD 0 j.toNat) else .no
 | none => .no
theorem zi4 {a : Expr} {p : Pos} (hg : Gl X "range") (hm : X.mg "range" = none) (ha : PDA X [a] fs) (hs : starEach [a] X.env = [(false, eval a X.env)] := by rfl) : PDI X tg (.Call (.Name "range" p) [a] [] pos) (iRg1 fs) :=
 PI.imp (yi3 hg hm ha hs) fun σ H R ⟨F, τ, Rv, h⟩ => tAs.of Rv h.bind fun ds vs F1 H1 g x R1 r => by
  cases q1 : int1 ds with
  | none => rw [q1] at g; exact g.elim
  | some j =>
   rw [q1] at g
   have e := ym8 q1
   subst e
   obtain ⟨v, rfl, q⟩ := r.one
   simp only [Rep] at q; subst q
   obtain ⟨z, g⟩ := zj4 g
   exact ⟨j, rfl, z.1, z.2, g _ F1 H1 x it_rng⟩
def iRg2 (fs : FA) : FA := fun τ => (fs τ).bind fun ds => match int2 ds with
 | some (i, j) => if (-(2 ^ 62) ≤ i ∧ i < 2 ^ 62) ∧ -(2 ^ 62) ≤ j ∧ j < 2 ^ 62 then .ok (rngD i (j - i).toNat) else .no
 | none => .no
theorem ye1 {a b : Expr} {p : Pos} (hg : Gl X "range") (hm : X.mg "range" = none) (ha : PDA X [a, b] fs) (hs : starEach [a, b] X.env = [(false, eval a X.env), (false, eval b X.env)] := by rfl) (hs2 : starEach [b] X.env = [(false, eval b X.env)] := by rfl) :
  PDI X tg (.Call (.Name "range" p) [a, b] [] pos) (iRg2 fs) :=
 PI.imp (yi2 hg hm ha hs hs2) fun σ H R ⟨F, τ, Rv, h⟩ => tAs.of Rv h.bind fun ds vs F1 H1 g x R1 r => by
  cases q1 : int2 ds with
  | none => rw [q1] at g; exact g.elim
  | some ij =>
   obtain ⟨i, j⟩ := ij
   rw [q1] at g
   have e := zY5 q1
   subst e
   obtain ⟨v, w, rfl, q, q'⟩ := r.two
   simp only [Rep] at q q'; subst q; subst q'
   obtain ⟨z, g⟩ := zj4 g
   exact ⟨i, j, rfl, ⟨z.1.1, z.1.2, z.2.1, z.2.2⟩, g _ F1 H1 x it_rng⟩
abbrev FG := D → DS → Rs DS
def tG (X : Cx) (set : FG) : TG := fun v σ H Q => ∃ F τ d, RV X.K F τ σ H ∧ Rep X.K F d v ∧ Ok X (set d τ) fun τ' => ∀ σ', RV X.K F τ' σ' H → (∀ B Z, RS X.K B Z F τ σ H → RS X.K B Z F τ' σ' H) → σ'.length = σ.length → Q σ' H
def PDG (X : Cx) (tg : Expr) (set : FG) : Prop := PG X tg (tG X set)
theorem _root_.L2.PG.imp {X : Cx} {e : Expr} {t t' : TG} (h : PG X e t) (f : ∀ v σ H Q, t' v σ H Q → t v σ H Q) : PG X e t' := fun pins s σ H v u Q I r q => h pins s σ H v u Q I r (f _ _ _ _ q)
def gNm (i : Nat) : FG := fun d τ => .ok (τ.set i (some (.val d)))
theorem zf8 {i : Nat} {x : Str} (hN : X.N.Nodup) (hi : X.N[i]? = some x) (hx : Loc X.env.scope x) (hf : X.fn x = true ∨ X.env.scope.names.lookup x = some .local := by first | exact .inl rfl | exact .inr rfl | assumption) : PDG X (.Name x pos) (gNm i) :=
 PG.imp (zX2 hN hi hx hf) fun v σ H Q ⟨F, τ, d, R, r, h⟩ => h _ (R.set r) (fun B Z R' => R'.set r) (by simp)
def gPr (i j : Nat) : FG := fun d τ => match pair2 d with
 | some (x, y) => .ok ((τ.set i (some (.val x))).set j (some (.val y)))
 | none => .no
theorem yb1 {i j k : Nat} {x y : Str} {px py : Pos} (hc : X.calm = true) (hN : X.N.Nodup) (hi : X.N[i]? = some x) (hx : Loc X.env.scope x) (hj : X.N[j]? = some y) (hy : Loc X.env.scope y)
  (hf : X.fn x = true ∨ X.env.scope.names.lookup x = some .local := by first | exact .inl rfl | exact .inr rfl | assumption) (hf' : X.fn y = true ∨ X.env.scope.names.lookup y = some .local := by first | exact .inl rfl | exact .inr rfl | assumption) :
  PDG X (.Tuple [.Name x px, .Name y py] k pos) (gPr i j) :=
 PG.imp (pg_tup (n := 2) hc (ya6 (zX2 hN hi hx hf) (ya6 (zX2 hN hj hy hf') pgs_nil))) fun v σ H Q ⟨F, τ, d, R, r, h⟩ => by
  unfold gPr at h
  cases q1 : pair2 d with
  | none => rw [q1] at h; exact h.elim
  | some xy =>
   obtain ⟨x, y⟩ := xy
   rw [q1] at h
   have e := pair2_eq q1
   subst e
   simp only [Rep] at r
   obtain ⟨a, vs, rfl, q, t⟩ := r
   obtain ⟨v1, v2, rfl, r1, r2⟩ := t.two
   exact ⟨a, _, rfl, Same.seqT R.fh q, rfl, v1, [v2], rfl, v2, [], rfl, rfl, h _ ((R.set r1).set r2) (fun B Z R' => (R'.set r1).set r2) (by simp)⟩
def loopD (set : FG) (body : FS) : List D → DS → Fl
 | [], τ => .nx τ
 | d :: r, τ => Fl.of (set d τ) fun τ1 => match body τ1 with
  | .nx τ' => loopD set body r τ'
  | .ct τ' => loopD set body r τ'
  | .bk τ' => .nx τ'
  | .rt d => .rt d
  | .ro d τ' => .ro d τ'
  | .rb d τ' => .rb d τ'
  | .ex c => .ex c
  | .no => .no
  | .rs c τ' => .rs c τ'
def sFor (fi : FA) (set : FG) (body : FS) : FS := fun τ => Fl.of (fi τ) fun ds => loopD set body ds τ
theorem zn7 {iter : Expr} {body : List Stmt} {fi : FA} {set : FG} {fb : FS} (hp : PassesOwn (model X.prog X.w) X.A X.env X.xe) (hc : X.calm = true) (hi : PDI X tg iter fi) (hg : PDG X tg set) (hb : PDSs X body fb)
  (hs : ∀ x, foldedSetIterable iter X.env x = pure x := by intro _; rfl) : PDS X (.For tg iter body [] pos) (sFor fi set fb) :=
 PS.imp (ps_for hp hc hi hg hb hs) fun E σ H ⟨B, Z, F, τ, R, h⟩ => by
  refine ⟨F, τ, R.rv, h.of.imp fun ds g J F1 H1 x io => ?_⟩
  refine ⟨fun i m σ H => m = ds.length - i ∧ i ≤ ds.length ∧ ∃ F' τ', Same F1 F' ∧ RS X.K B Z F' τ' σ H ∧ Post X B Z F' E (loopD set fb (ds.drop i) τ'), ⟨ds.length, by simp, Nat.zero_le _, F1, τ, Same.refl _, R.ext x, g.same x.ff⟩, ?_⟩
  rintro i m σ2 H2 ⟨rfl, hi, F2, τ2, f2, R2, p2⟩
  obtain ⟨i1, i2⟩ := io i F2 H2 f2 R2.rv.fh
  by_cases hlt : i < ds.length
  ·have hd : ds.drop i = ds[i] :: ds.drop (i + 1) := List.drop_eq_getElem_cons hlt
   rw [hd] at p2
   obtain ⟨go, yl⟩ := i2 ds[i] (by simp [hlt])
   refine .inr ⟨go, fun σ' H' => ∃ F' τ', Same F2 F' ∧ RS X.K B Z F' τ' σ' H' ∧ Post X B Z F' E (loopD set fb (ds.drop (i + 1)) τ'), fun σ' H' ⟨F', τ', a, b, c⟩ => ⟨ds.length - (i + 1), by omega, rfl, hlt, F', τ', f2.trans a, b, c⟩, fun y H' yy => ?_⟩
   obtain ⟨F3, x3, r3⟩ := yl y H' yy
   have R3 := R2.ext x3
   refine ⟨F3, τ2, ds[i], R3.rv, r3, (Post.of p2).imp fun τ4 p4 σ4 _ R4 _ => ⟨B, Z, F3, τ4, R4 B Z R3, ?_⟩⟩
   cases q : fb τ4 with
   | nx τ5 => rw [q] at p4; exact fun σ' F' H' ff RR => ⟨F', τ5, x3.ff.trans ff, RR, Post.same p4 (x3.ff.trans ff)⟩
   | ct τ5 => rw [q] at p4; exact fun σ' F' H' ff RR => ⟨F', τ5, x3.ff.trans ff, RR, Post.same p4 (x3.ff.trans ff)⟩
   | bk τ5 => rw [q] at p4; exact fun σ' F' H' ff RR => p4 σ' F' H' (x3.ff.trans ff) RR
   | rt d => rw [q] at p4; exact p4
   | ro d τ' => rw [q] at p4; exact fun v σ' F' H' ff RR rr => p4 v σ' F' H' (x3.ff.trans ff) RR rr
   | rb d τ' => rw [q] at p4; exact fun v σ' F' H' ff RR rr => p4 v σ' F' H' (x3.ff.trans ff) RR rr
   | ex c => rw [q] at p4; exact p4
   | no => rw [q] at p4; exact p4
   | rs c τ5 => rw [q] at p4; exact fun σ' F' H' ff RR => p4 σ' F' H' (x3.ff.trans ff) RR
  ·have e : i = ds.length := by omega
   subst e
   rw [List.drop_length] at p2
   exact .inl ⟨i1 (Nat.le_refl _), p2 σ2 F2 H2 (Same.refl _) R2⟩
end
def noEx (r : Rs D) : Rs D := match r with
 | .ok d => .ok d
 | _ => .no
def spD (K : PySem.W.Frag) (n : Nat) (g : List D → Rs D) : Sp := fun vs H Q E => vs.length = n ∧ ∃ ds F, Same F H ∧ TbT F H ∧ Reps K F ds vs ∧ match g ds with
 | .ok d => Ev K F H Q d
 | _ => False
def zf3 (N : Nat) (ds : List D) : DS := ds.map (fun d => some (.val d)) ++ List.replicate (N - ds.length) none
def flRes : Fl → Rs D
 | .rt d => .ok d
 | .ro d _ => .ok d
 | .nx _ => .ok .non
 | .rs c _ => .ex c
 | _ => .no
def runF (N : Nat) (fb : FS) (ds : List D) : Rs D := flRes (fb (zf3 N ds))
theorem ya2 {K : PySem.W.Frag} {F H : Hp} {N : List Str} {ds : List D} {vs : List V} (fh : Same F H) (tt : TbT F H) (r : Reps K F ds vs) : RS K H F F (zf3 N.length ds) (L2.start N vs) H := by
 have hl := r.length
 have hval : ∀ (i : Nat) (o : Sl), (zf3 N.length ds)[i]? = some (some o) → ∃ d, ds[i]? = some d ∧ o = .val d := fun i o h => by
  unfold zf3 at h
  by_cases hi : i < ds.length
  ·rw [List.getElem?_append_left (by simpa using hi), List.getElem?_map] at h
   cases e : ds[i]? with
   | none => rw [e] at h; cases h
   | some d => rw [e] at h; cases h; exact ⟨d, rfl, rfl⟩
  ·rw [List.getElem?_append_right (by simpa using hi), List.getElem?_replicate] at h
   split at h <;> cases h
 refine ⟨⟨fh, ?_, fun i d h => ?_, fun i es h => ?_, fun i j es es' a _ h1 _ _ _ => ?_, tt, ObsOk.none fun i s h => ?_⟩, Hh.refl H, Same.refl F, fun a o e => .inl e, fun i es a h1 _ => ?_, fun i m c fs a h1 _ => ?_, fun a0 dx _ _ j m c fs h1 => ?_, fun j c fs a h1 _ => ?_⟩
 ·simp [zf3, L2.start, hl]
 ·obtain ⟨d', h1, h2⟩ := hval i _ h
  cases h2
  obtain ⟨v, q1, q2⟩ := r.get h1
  refine ⟨v, ?_, q2⟩
  have hi : i < vs.length := (List.getElem?_eq_some_iff.mp q1).1
  unfold L2.start
  rw [List.getElem?_append_left (by simpa using hi), List.getElem?_map, q1]; rfl
 ·obtain ⟨_, _, h2⟩ := hval i _ h; cases h2
 ·obtain ⟨_, _, h2⟩ := hval i _ h1; cases h2
 ·cases s with
  | none => rfl
  | some o => obtain ⟨_, _, h2⟩ := hval i _ h; rw [h2]; rfl
 ·obtain ⟨_, _, h2⟩ := hval i _ h1; cases h2
 ·obtain ⟨_, _, h2⟩ := hval i _ h1; cases h2
 ·obtain ⟨_, _, h2⟩ := hval j _ h1; cases h2
 ·obtain ⟨_, _, h2⟩ := hval j _ h1; cases h2
section
variable {P : Program} {w : World} {K : PySem.W.Frag} {mg : Str → Option Value} {base : Heap}
theorem fnD {x qual : Str} {st : Stmt} {f : Addr} {fd : FuncData} {N ps : List Str} {k n : Nat} {fb : FS} (F : Fun K x qual st f fd) (S : zb8 N ps (za3 st)) (hn : ps.length = n)
  (hbody : ∀ (cdv : Value) (A : Around) (outer : List Env) (s : Shared) (H : Hp) (E : XK), Room k (A.deeper (envOfC qual (za3 st) s.heap.objs.size f cdv)) →
   PDSs (cxOf CX0 P w K mg base N qual (za3 st) f cdv A outer s H E).nox (zb1 st) fb) : FnOk P w K mg base CX0 (k + 1) f fd ps (spD K n (runF N.length fb)) := by
 refine F.ok S (fun vs H Q E h => by rw [hn]; exact h.1) fun cdv A outer s H vs Q E hr h => ⟨_, hbody cdv A outer s H E hr, ?_⟩
 obtain ⟨hl, ds, Fz, fh, tt, r, h⟩ := h
 refine ⟨H, Fz, Fz, zf3 N.length ds, ya2 fh tt r, ?_⟩
 unfold runF at h
 cases q : fb (zf3 N.length ds) with
 | nx τ => rw [q] at h; exact fun σ F' H' ff RR => h .non F' H' RR.out (by simp only [Rep])
 | rt d => rw [q] at h; exact fun v F' H' x rr => h v F' H' x rr
 | ro d τ => rw [q] at h; exact fun v σ F' H' ff RR rr => h v F' H' RR.out rr
 | rb d τ => rw [q] at h; exact h.elim
 | bk τ => rw [q] at h; exact h.elim
 | ct τ => rw [q] at h; exact h.elim
 | ex c => rw [q] at h; exact h.elim
 | no => rw [q] at h; exact h.elim
 | rs c τ => rw [q] at h; exact h.elim
theorem FnD.to {CX : CXT} {f : Addr} {fd : FuncData} {ps : List Str} {k n : Nat} {g g' : List D → Rs D} (F : FnOk P w K mg base CX k f fd ps (spD K n g)) (h : ∀ ds d, ds.length = n → g' ds = .ok d → g ds = .ok d) : FnOk P w K mg base CX k f fd ps (spD K n g') :=
 F.imp fun vs H Q E ⟨hl, ds, Fz, fh, tt, r, q⟩ => ⟨hl, ds, Fz, fh, tt, r, by
  cases e : g' ds with
  | ok d => rw [e] at q; rw [h ds d (by rw [r.length]; exact hl) e]; exact q
  | ex c => rw [e] at q; exact q.elim
  | no => rw [e] at q; exact q.elim⟩
end
section
variable {X : Cx} {pos : Pos} {e tg : Expr} {es : List Expr} {fe : FE} {fs : FA}
def eCall (g : List D → Rs D) (fs : FA) : FE := fun τ => (fs τ).bind fun ds => noEx (g ds)
theorem pde_call {k n : Nat} {f : Addr} {fd : FuncData} {ps : List Str} {g : List D → Rs D} {x : Str} {p : Pos} (F : FnOk X.prog X.w X.K X.mg X.base CX0 k f fd ps (spD X.K n g)) (hr : Room k X.A) (hg : Gl X x) (hm : X.mg x = some (.ref f)) (hk : PySem.W.keepIn X.K (.ref f) = true) (hb : Binds X.K fd ps [])
  (ha : PDA X (e :: es) fs) (hn : (e :: es).length = n) (hfs : ∀ τ ds, fs τ = .ok ds → ds.length = (e :: es).length) (hdb : (x == ("__debug__" : Str)) = false := by decide) (he : starEach (e :: es) X.env = (false, eval e X.env) :: starEach es X.env := by rfl) (hpl : (backTo pos (starEach es X.env)).any (·.1) = false := by rfl) :
  PDE X (.Call (.Name x p) (e :: es) [] pos) (eCall g fs) :=
 PE.imp (zX3 F hr hg hm hk hb .nil (E := E0) pass0 ha hdb he hpl) fun σ H Q ⟨Fz, τ, R, h⟩ => by
  have hb := h.bind
  refine ⟨Fz, τ, R, ?_⟩
  cases q : fs τ with
  | no => rw [q] at hb; exact hb
  | ex c => rw [q] at hb; exact hb
  | ok ds =>
   rw [q] at hb
   intro vs F1 H1 x r
   rw [List.append_nil]
   refine ⟨by rw [← r.length, hfs τ ds q, hn], ds, F1, x.fh, x.tt R.tt, r, ?_⟩
   have hb : Ok X (noEx (g ds)) (Ev X.K Fz H Q) := hb
   cases z : g ds with
   | ok d => rw [z] at hb; exact Ev.ext hb x
   | ex c => rw [z] at hb; exact hb.elim
   | no => rw [z] at hb; exact hb.elim
theorem za9 (τ : DS) (ds : List D) (h : aNil τ = .ok ds) : ds.length = 0 := by cases h; rfl
theorem za2 {f : FE} {g : FA} {n : Nat} (hg : ∀ τ ds, g τ = .ok ds → ds.length = n) (τ : DS) (ds : List D) (h : aCons f g τ = .ok ds) : ds.length = n + 1 := by
 unfold aCons at h
 cases q : f τ with
 | no => rw [q] at h; cases h
 | ex c => rw [q] at h; cases h
 | ok d =>
  rw [q] at h
  cases q2 : g τ with
  | no => rw [q2] at h; cases h
  | ex c => rw [q2] at h; cases h
  | ok r => rw [q2] at h; cases h; simp [hg τ r q2]
def CallD (X : Cx) (f : Value) (g : List D → Rs D) : Prop := ∃ r, CallR X f r ∧ ∀ F H vs ds Q, Same F H → Reps X.K F ds vs → Ok X (g ds) (Ev X.K F H Q) → r vs H Q
def eBlt (g : List D → Rs D) (fs : FA) : FE := fun τ => (fs τ).bind g
theorem zd3 {id : String} {x : Str} {p : Pos} {g : List D → Rs D} (hc : CallD X (.builtin id) g) (hg : Gl X x) (hm : X.mg x = none) (hv : bootBuiltins x = some (.builtin id)) (ha : PDA X (e :: es) fs) (hn : x ≠ "__name__" := by decide) (hdb : (x == ("__debug__" : Str)) = false := by decide)
  (he : starEach (e :: es) X.env = (false, eval e X.env) :: starEach es X.env := by rfl) (hpl : (backTo pos (starEach es X.env)).any (·.1) = false := by rfl) : PDE X (.Call (.Name x p) (e :: es) [] pos) (eBlt g fs) := by
 obtain ⟨r, h1, h2⟩ := hc
 exact PE.imp (L2.pe_callB h1 hg hm hv ha hn hdb he hpl) fun σ H Q ⟨Fz, τ, R, h⟩ => tAs.of R h.bind fun ds vs F1 H1 q x R1 rr => h2 F1 H1 vs ds Q R1.fh rr (q.imp fun d e => e.ext x)
theorem ye2 {id : String} {x : Str} {p : Pos} {g : List D → Rs D} (hc : CallD X (.type id) g) (hg : Gl X x) (hm : X.mg x = none) (hv : bootBuiltins x = some (.type id)) (ha : PDA X (e :: es) fs) (hn : x ≠ "__name__" := by decide) (hdb : (x == ("__debug__" : Str)) = false := by decide)
  (he : starEach (e :: es) X.env = (false, eval e X.env) :: starEach es X.env := by rfl) (hpl : (backTo pos (starEach es X.env)).any (·.1) = false := by rfl) : PDE X (.Call (.Name x p) (e :: es) [] pos) (eBlt g fs) := by
 obtain ⟨r, h1, h2⟩ := hc
 exact PE.imp (L2.pe_callTy h1 hg hm hv ha hn hdb he hpl) fun σ H Q ⟨Fz, τ, R, h⟩ => tAs.of R h.bind fun ds vs F1 H1 q x R1 rr => h2 F1 H1 vs ds Q R1.fh rr (q.imp fun d e => e.ext x)
def IxD (X : Cx) (op : D → D → Rs D) : Prop := ∃ r : R2, IxR X r ∧ ∀ F H x y dx dy Q, Same F H → Rep X.K F dx x → Rep X.K F dy y → Ok X (op dx dy) (Ev X.K F H Q) → r x y H Q
theorem zd5 {a b : Expr} {fa fb : FE} {op : D → D → Rs D} (hr : IxD X op) (ha : PDE X a fa) (hb : PDE X b fb) (hs : zR7 b := by intro _ _; rfl) : PDE X (.Subscript a b pos) (eOp op fa fb) := by
 obtain ⟨r, h1, h2⟩ := hr
 exact PE.imp (pe_ix h1 ha hb hs) (op_of h2)
def ixD : D → D → Rs D
 | .lst ds, .int k => match atI ds k with
  | some d => .ok d
  | none => .no
 | .tup ds, .int k => match atI ds k with
  | some d => .ok d
  | none => .no
 | .scr ns, .int k => match atI ns k with
  | some d => .ok (.int d)
  | none => .no
 | .str x, .int k => match atI x.cps.toList k with
  | some c => if x.length ≤ sizeLine then .ok (.str ⟨#[c]⟩) else .no
  | none => .no
 | _, _ => .no
theorem atI_map {α β : Type} {f : α → β} {xs : List α} {k : Int} {a : α} (h : atI xs k = some a) : atI (xs.map f) k = some (f a) := by
 unfold atI at h ⊢
 rw [List.length_map]
 cases q : ixN xs.length k with
 | none => rw [q] at h; cases h
 | some j =>
  rw [q] at h
  have h : xs[j]? = some a := h
  show (xs.map f)[j]? = _
  rw [List.getElem?_map, h]; rfl
theorem ix_ok : IxD X ixD := ⟨_, ix_seq, fun F H x y dx dy Q fh r1 r2 h => by
 cases dx with
 | lst ds =>
  cases dy with
  | int k =>
   simp only [Rep] at r1 r2; obtain ⟨a, vs, rfl, q, t⟩ := r1; subst r2
   simp only [ixD] at h
   cases z : atI ds k with
   | none => rw [z] at h; exact h.elim
   | some d =>
    rw [z] at h
    obtain ⟨v, z1, z2⟩ := zF1 t z
    exact .inl ⟨a, vs, k, v, rfl, rfl, SqL.of (fh _ _ q), z1, h v F H (Ext.refl fh) z2⟩
  | _ => exact h.elim
 | tup ds =>
  cases dy with
  | int k =>
   simp only [Rep] at r1 r2; obtain ⟨a, vs, rfl, q, t⟩ := r1; subst r2
   simp only [ixD] at h
   cases z : atI ds k with
   | none => rw [z] at h; exact h.elim
   | some d =>
    rw [z] at h
    obtain ⟨v, z1, z2⟩ := zF1 t z
    exact .inr (.inl ⟨a, vs, k, v, rfl, rfl, Same.seqT fh q, z1, h v F H (Ext.refl fh) z2⟩)
  | _ => exact h.elim
 | scr ns =>
  cases dy with
  | int k =>
   simp only [Rep] at r1 r2; obtain ⟨a, rfl, q⟩ := r1; subst r2
   simp only [ixD] at h
   cases z : atI ns k with
   | none => rw [z] at h; exact h.elim
   | some d =>
    rw [z] at h
    exact .inl ⟨a, _, k, .int d, rfl, rfl, fh.seq q, atI_map z, h (.int d) F H (Ext.refl fh) (by simp only [Rep])⟩
  | _ => exact h.elim
 | str x =>
  cases dy with
  | int k =>
   simp only [Rep] at r1 r2; subst r1; subst r2
   simp only [ixD] at h
   cases z : atI x.cps.toList k with
   | none => rw [z] at h; exact h.elim
   | some c =>
    rw [z] at h
    obtain ⟨z2, h⟩ := zj4 h
    exact .inr (.inr ⟨x, k, c, rfl, rfl, z2, z, h _ F H (Ext.refl fh) (by simp only [Rep])⟩)
  | _ => exact h.elim
 | _ => cases dy <;> exact h.elim⟩
end
mutual
def toPy : D → PyData
 | .non => .none
 | .bl b => .bool b
 | .int i => .int i
 | .str x => .str x
 | .lst ds => .list (toPys ds)
 | .tup ds => .tuple (toPys ds)
 | .scr ns => .list (ns.map .int)
 | .raw _ => .none
 | .exc _ => .none
def toPys : List D → List PyData
 | [] => []
 | d :: r => toPy d :: toPys r
end
mutual
def zn6 : D → Bool
 | .lst ds => zt5 ds
 | .tup ds => zt5 ds
 | .raw _ => false
 | .exc _ => false
 | _ => true
def zt5 : List D → Bool
 | [] => true
 | d :: r => zn6 d && zt5 r
end
theorem zy6 {h : Heap} : ∀ {ns : List Int} {us : List Value}, Vals (ns.map V.int) us → ReadsAll h us (ns.map .int) []
 | [], _, .nil => .nil
 | n :: ns, _, .cons r t => by
  obtain ⟨tk, rfl⟩ := r
  exact .cons (as := []) (bs := []) (.int n tk) (zy6 t)
section
variable {X : Cx} {pins : List (Addr × Obj)} {σ : St} {F H : Hp} {s : Shared}
mutual
theorem zt4 (I : Inv X pins σ H s) (fh : Same F H) : ∀ (d : D) {v : V} {u : Value}, Rep X.K F d v → RelV v u → zn6 d = true → ∃ as, Reads s.heap u (toPy d) as
 | .non, v, u, r, rv, _ => by simp only [Rep] at r; subst r; cases rv; exact ⟨[], .none⟩
 | .bl b, v, u, r, rv, _ => by simp only [Rep] at r; subst r; cases rv; exact ⟨[], .bool b⟩
 | .int i, v, u, r, rv, _ => by simp only [Rep] at r; subst r; obtain ⟨t, rfl⟩ := rv; exact ⟨[], .int i t⟩
 | .str x, v, u, r, rv, _ => by simp only [Rep] at r; subst r; obtain ⟨t, rfl⟩ := rv; exact ⟨[], .str x t⟩
 | .lst ds, v, u, r, rv, hp => by
  simp only [Rep] at r; obtain ⟨a, vs, rfl, q, t⟩ := r
  cases rv
  obtain ⟨its, rr, ⟨o, n, e, c, _, dd⟩, _⟩ := I.list (SqL.of (K := X.K) (fh _ _ q))
  obtain ⟨as, ra⟩ := zG2 I fh ds t rr (by simpa only [zn6] using hp)
  exact ⟨a :: as, by rw [toPy]; exact .list e c dd (by simpa using ra)⟩
 | .tup ds, v, u, r, rv, hp => by
  simp only [Rep] at r; obtain ⟨a, vs, rfl, q, t⟩ := r
  cases rv
  obtain ⟨its, rr, ⟨o, e, c, n, dd⟩, _⟩ := I.tuple (Same.seqT fh q)
  obtain ⟨as, ra⟩ := zG2 I fh ds t rr (by simpa only [zn6] using hp)
  exact ⟨as, by rw [toPy]; exact .tuple e c dd (by simpa using ra)⟩
 | .scr ns, v, u, r, rv, hp => by
  simp only [Rep] at r; obtain ⟨a, rfl, q⟩ := r
  cases rv
  obtain ⟨its, rr, ⟨o, n, e, c, _, dd⟩, _⟩ := I.list (fh.seq q)
  exact ⟨[a], by rw [toPy]; exact .list e c dd (by simpa using zy6 rr)⟩
 | .raw w, v, u, r, rv, hp => by simp [zn6] at hp
 | .exc w, v, u, r, rv, hp => by simp [zn6] at hp
theorem zG2 (I : Inv X pins σ H s) (fh : Same F H) : ∀ (ds : List D) {vs : List V} {us : List Value}, Reps X.K F ds vs → Vals vs us → zt5 ds = true → ∃ as, ReadsAll s.heap us (toPys ds) as
 | [], vs, us, r, rv, _ => by simp only [Reps] at r; subst r; cases rv; exact ⟨[], by rw [toPys]; exact .nil⟩
 | d :: ds, vs, us, r, rv, hp => by
  simp only [Reps] at r
  obtain ⟨v, r', rfl, q, t⟩ := r
  simp only [zt5, Bool.and_eq_true] at hp
  cases rv with
  | cons r1 r2 =>
   obtain ⟨as, h1⟩ := zt4 I fh d q r1 hp.1
   obtain ⟨bs, h2⟩ := zG2 I fh ds t r2 hp.2
   exact ⟨as ++ bs, by rw [toPys]; exact .cons h1 h2⟩
end
end
def okD (d : D) : Bool := zn6 d && (toPy d).canLay0 && decide ((toPy d).depth ≤ 60)
theorem zB5 {d : D} (h : okD d = true) : zn6 d = true ∧ (toPy d).canLay0 = true ∧ (toPy d).depth ≤ 60 := by
 simpa [okD, and_assoc] using h
def eqvD (d e : D) : Bool := PyData.eqv (toPy d) (toPy e)
def eqD : D → D → Rs D
 | .str x, .str y => .ok (.bl (x == y))
 | .int x, .int y => .ok (.bl (x == y))
 | d, e => if okD d = true ∧ okD e = true then .ok (.bl (eqvD d e)) else .no
def neD : D → D → Rs D
 | .str x, .str y => .ok (.bl (!(x == y)))
 | .int x, .int y => .ok (.bl (!(x == y)))
 | d, e => if okD d = true ∧ okD e = true then .ok (.bl (!eqvD d e)) else .no
section
variable {X : Cx}
def rDeep (K : PySem.W.Frag) (b : D → D → Bool) : R2 := fun x y H Q => ∃ F d e, Same F H ∧ Rep K F d x ∧ Rep K F e y ∧ okD d = true ∧ okD e = true ∧ Q (.bl (b d e)) H
theorem yj7 (hu : X.A.units + 64 < cLine) : OpR X (compareOp .Eq) (rDeep X.K eqvD) := by
 intro pins s σ H x y v u Q I rx ry h
 obtain ⟨F, d, e, fh, r1, r2, o1, o2, q⟩ := h
 obtain ⟨p1, c1, e1⟩ := zB5 o1
 obtain ⟨p2, c2, e2⟩ := zB5 o2
 obtain ⟨as, h1⟩ := zt4 I fh d r1 rx p1
 obtain ⟨bs, h2⟩ := zt4 I fh e r2 ry p2
 exact SeqAt.compareEq_reads h1 h2 c1 c2 (by omega) ⟨.bl _, H, I, rfl, q⟩
theorem yj5 (hu : X.A.units + 64 < cLine) : OpR X (compareOp .NotEq) (rDeep X.K fun d e => !eqvD d e) := by
 intro pins s σ H x y v u Q I rx ry h
 obtain ⟨F, d, e, fh, r1, r2, o1, o2, q⟩ := h
 obtain ⟨p1, c1, e1⟩ := zB5 o1
 obtain ⟨p2, c2, e2⟩ := zB5 o2
 obtain ⟨as, h1⟩ := zt4 I fh d r1 rx p1
 obtain ⟨bs, h2⟩ := zt4 I fh e r2 ry p2
 exact SeqAt.compareNe_reads h1 h2 c1 c2 (by omega) ⟨.bl _, H, I, rfl, q⟩
theorem zn9 (hu : X.A.units + 64 < cLine) : OpD X (compareOp .Eq) eqD := ⟨_, op_eq.or (yj7 hu), fun F H x y dx dy Q fh r1 r2 h => by
 have gen : (Ok X (if okD dx = true ∧ okD dy = true then .ok (.bl (eqvD dx dy)) else .no) (Ev X.K F H Q)) → rEq x y H Q ∨ rDeep X.K eqvD x y H Q := fun h => by
  obtain ⟨z, h⟩ := zj4 h
  exact .inr ⟨F, dx, dy, fh, r1, r2, z.1, z.2, h _ F H (Ext.refl fh) (by simp only [Rep])⟩
 cases dx with
 | str a =>
  cases dy with
  | str b =>
   simp only [Rep] at r1 r2; subst r1; subst r2
   exact .inl ⟨rfl, by rw [zR2]; exact h _ F H (Ext.refl fh) (by simp only [Rep])⟩
  | _ => exact gen h
 | int a =>
  cases dy with
  | int b =>
   simp only [Rep] at r1 r2; subst r1; subst r2
   exact .inl ⟨rfl, by rw [zR3]; exact h _ F H (Ext.refl fh) (by simp only [Rep])⟩
  | _ => exact gen h
 | _ => exact gen h⟩
theorem zq8 (hu : X.A.units + 64 < cLine) : OpD X (compareOp .NotEq) neD := ⟨_, op_ne.or (yj5 hu), fun F H x y dx dy Q fh r1 r2 h => by
 have gen : (Ok X (if okD dx = true ∧ okD dy = true then .ok (.bl (!eqvD dx dy)) else .no) (Ev X.K F H Q)) → rNe x y H Q ∨ rDeep X.K (fun d e => !eqvD d e) x y H Q := fun h => by
  obtain ⟨z, h⟩ := zj4 h
  exact .inr ⟨F, dx, dy, fh, r1, r2, z.1, z.2, h _ F H (Ext.refl fh) (by simp only [Rep])⟩
 cases dx with
 | str a =>
  cases dy with
  | str b =>
   simp only [Rep] at r1 r2; subst r1; subst r2
   exact .inl ⟨rfl, by rw [zR2]; exact h _ F H (Ext.refl fh) (by simp only [Rep])⟩
  | _ => exact gen h
 | int a =>
  cases dy with
  | int b =>
   simp only [Rep] at r1 r2; subst r1; subst r2
   exact .inl ⟨rfl, by rw [zR3]; exact h _ F H (Ext.refl fh) (by simp only [Rep])⟩
  | _ => exact gen h
 | _ => exact gen h⟩
def intOp (C : Int → Int → Bool) (g : Int → Int → D) : D → D → Rs D
 | .int i, .int j => if C i j = true then .ok (g i j) else .no
 | _, _ => .no
theorem yj4 {f : Value → Value → Sem Value} {C' : Int → Int → Prop} {C : Int → Int → Bool} {gv : Int → Int → V} {g : Int → Int → D} (h : OpR X f (rI C' gv)) (hc : ∀ i j, C i j = true → C' i j) (hg : ∀ F i j, Rep X.K F (g i j) (gv i j)) : OpD X f (intOp C g) :=
 ⟨_, h, fun F H x y dx dy Q fh r1 r2 q => by
  cases dx with
  | int i =>
   cases dy with
   | int j =>
    simp only [Rep] at r1 r2; subst r1; subst r2
    obtain ⟨z, q⟩ := zj4 q
    exact ⟨i, j, rfl, rfl, hc i j z, q _ F H (Ext.refl fh) (hg F i j)⟩
   | _ => exact q.elim
  | _ => cases dy <;> exact q.elim⟩
def zU8 (g : Int → Int → D) : D → D → Rs D
 | .int i, .int j => .ok (g i j)
 | _, _ => .no
theorem zE6 {f : Value → Value → Sem Value} {gv : Int → Int → V} {g : Int → Int → D} (h : OpR X f (rI0 gv)) (hg : ∀ F i j, Rep X.K F (g i j) (gv i j)) : OpD X f (zU8 g) :=
 ⟨_, h, fun F H x y dx dy Q fh r1 r2 q => by
  cases dx with
  | int i =>
   cases dy with
   | int j =>
    simp only [Rep] at r1 r2; subst r1; subst r2
    exact ⟨i, j, rfl, rfl, q _ F H (Ext.refl fh) (hg F i j)⟩
   | _ => exact q.elim
  | _ => cases dy <;> exact q.elim⟩
def subD := zU8 fun i j => .int (i - j)
theorem zm4 : OpD X (binaryOp .Sub) subD := zE6 op_sub fun _ _ _ => by simp only [Rep]
def modD := intOp (fun _ j => decide (0 < j)) fun i j => .int (i % j)
theorem zB2 : OpD X (binaryOp .Mod) modD := yj4 op_mod (fun i j h => by simpa using h) fun _ _ _ => by simp only [Rep]
def fdivD := intOp (fun _ j => decide (0 < j ∧ j < 1073741824)) fun i j => .int (i / j)
theorem zE7 : OpD X (binaryOp .FloorDiv) fdivD := yj4 op_fdiv (fun i j h => by have h' : 0 < j ∧ j < 1073741824 := of_decide_eq_true h; exact h') fun _ _ _ => by simp only [Rep]
def ltI := zU8 fun i j => .bl (decide (i < j))
def gtD := zU8 fun i j => .bl (decide (j < i))
def geD := zU8 fun i j => .bl (decide (j ≤ i))
theorem opd_lt : OpD X (compareOp .Lt) ltI := zE6 op_lt fun _ _ _ => by simp only [Rep]
theorem yb3 : OpD X (compareOp .Gt) gtD := zE6 op_gt fun _ _ _ => by simp only [Rep]
theorem opd_ge : OpD X (compareOp .GtE) geD := zE6 op_ge fun _ _ _ => by simp only [Rep]
def addD : D → D → Rs D
 | .int i, .int j => .ok (.int (i + j))
 | .str i, .str j => if i.length + j.length ≤ sizeLine then .ok (.str (i ++ j)) else .no
 | .lst i, .lst j => if i.length + j.length ≤ sizeLine then .ok (.lst (i ++ j)) else .no
 | _, _ => .no
theorem zc3 : OpD X (binaryOp .Add) addD := ⟨_, op_add.or (op_add_str.or op_cat), fun F H x y dx dy Q fh r1 r2 q => by
 cases dx with
 | int i =>
  cases dy with
  | int j =>
   simp only [Rep] at r1 r2; subst r1; subst r2
   exact .inl ⟨i, j, rfl, rfl, q _ F H (Ext.refl fh) (by simp only [Rep])⟩
  | _ => exact q.elim
 | str i =>
  cases dy with
  | str j =>
   simp only [Rep] at r1 r2; subst r1; subst r2
   obtain ⟨z, q⟩ := zj4 q
   exact .inr (.inl ⟨i, j, rfl, rfl, z, q _ F H (Ext.refl fh) (by simp only [Rep])⟩)
  | _ => exact q.elim
 | lst i =>
  cases dy with
  | lst j =>
   simp only [Rep] at r1 r2
   obtain ⟨a, vs, rfl, e1, t1⟩ := r1
   obtain ⟨b, ws, rfl, e2, t2⟩ := r2
   obtain ⟨z, q⟩ := zj4 q
   refine .inr (.inr ⟨a, b, vs, ws, rfl, rfl, fh _ _ e1, fh _ _ e2, by rw [← t1.length, ← t2.length]; exact z, fun p hp => q _ _ _ (Ext.new fh hp) ?_⟩)
   simp only [Rep]
   exact ⟨p, vs ++ ws, rfl, zb2, (t1.append t2).mono (zf7 (zc6 fh hp))⟩
  | _ => exact q.elim
 | _ => cases dy <;> exact q.elim⟩
def mulD : D → D → Rs D
 | .int i, .int j => if (-(18446744073709551616) < i ∧ i < 18446744073709551616) ∨ (-(18446744073709551616) < j ∧ j < 18446744073709551616) then .ok (.int (i * j)) else .no
 | .lst i, .int k => if k < 16777216 ∧ -16777216 < k ∧ i.length * k.toNat ≤ sizeLine then .ok (.lst (List.replicate k.toNat i).flatten) else .no
 | _, _ => .no
theorem zp4 : OpD X (binaryOp .Mult) mulD := ⟨_, op_mul.or op_rep, fun F H x y dx dy Q fh r1 r2 q => by
 cases dx with
 | int i =>
  cases dy with
  | int j =>
   simp only [Rep] at r1 r2; subst r1; subst r2
   obtain ⟨z, q⟩ := zj4 q
   refine .inl ⟨i, j, rfl, rfl, ?_, q _ F H (Ext.refl fh) (by simp only [Rep])⟩
   unfold CMul
   rcases z with z | z
   ·exact .inl (by omega)
   ·exact .inr (by omega)
  | _ => exact q.elim
 | lst i =>
  cases dy with
  | int k =>
   simp only [Rep] at r1 r2
   obtain ⟨a, vs, rfl, e1, t1⟩ := r1
   subst r2
   obtain ⟨z, q⟩ := zj4 q
   refine .inr ⟨a, k, vs, rfl, rfl, fh _ _ e1, by omega, by omega, by rw [← t1.length]; exact z.2.2, fun p hp => q _ _ _ (Ext.new fh hp) ?_⟩
   simp only [Rep]
   exact ⟨p, _, rfl, zb2, (t1.rep k.toNat).mono (zf7 (zc6 fh hp))⟩
  | _ => exact q.elim
 | _ => cases dy <;> exact q.elim⟩
def strIn (i j : Str) : Bool := !(Builtin.Str.occurrences j i 0 j.length 1).isEmpty
def inD : D → D → Rs D
 | .str i, .str j => .ok (.bl (strIn i j))
 | d, .lst xs => if okD d = true ∧ okD (.lst xs) = true then .ok (.bl (xs.any fun y => eqvD y d)) else .no
 | d, .tup xs => if okD d = true ∧ okD (.tup xs) = true then .ok (.bl (xs.any fun y => eqvD y d)) else .no
 | _, _ => .no
theorem zS0 : ∀ xs : List D, toPys xs = xs.map toPy
 | [] => rfl
 | d :: r => by rw [toPys, zS0 r, List.map_cons]
theorem zW2 (xs : List D) (d : D) : ((toPys xs).any fun y => PyData.eqv y (toPy d)) = xs.any fun y => eqvD y d := by
 rw [zS0, List.any_map]; rfl
def rInD (K : PySem.W.Frag) (neg : Bool) : R2 := fun x y H Q => ∃ F d e xs, Same F H ∧ Rep K F d x ∧ Rep K F e y ∧ okD d = true ∧ okD e = true ∧ (e = .lst xs ∨ e = .tup xs) ∧ Q (.bl (if neg then !(xs.any fun y => eqvD y d) else xs.any fun y => eqvD y d)) H
theorem yj6 (hu : X.A.units + 128 < cLine) : OpR X (compareOp .In) (rInD X.K false) := by
 intro pins s σ H x y v u Q I rx ry h
 obtain ⟨F, d, e, xs, fh, r1, r2, o1, o2, he, q⟩ := h
 obtain ⟨p1, c1, e1⟩ := zB5 o1
 obtain ⟨p2, c2, e2⟩ := zB5 o2
 obtain ⟨as, h1⟩ := zt4 I fh d r1 rx p1
 obtain ⟨bs, h2⟩ := zt4 I fh e r2 ry p2
 rcases he with rfl | rfl
 ·rw [toPy] at h2 c2 e2
  refine SeqAt.in_list_reads h2 h1 (by simpa only [PyData.canLay0] using c2) c1 (by omega) ⟨.bl _, H, I, rfl, ?_⟩
  rw [zW2]; exact q
 ·rw [toPy] at h2 c2 e2
  refine SeqAt.in_tuple_reads h2 h1 (by simpa only [PyData.canLay0] using c2) c1 (by omega) ⟨.bl _, H, I, rfl, ?_⟩
  rw [zW2]; exact q
theorem zL7 (hu : X.A.units + 128 < cLine) : OpD X (compareOp .In) inD := ⟨_, op_in_str.or (yj6 hu), fun F H x y dx dy Q fh r1 r2 q => by
 cases dy with
 | lst xs =>
  have q' : Ok X (if okD dx = true ∧ okD (.lst xs) = true then .ok (.bl (xs.any fun y => eqvD y dx)) else .no) (Ev X.K F H Q) := by cases dx <;> exact q
  obtain ⟨z, q⟩ := zj4 q'
  exact .inr ⟨F, dx, _, xs, fh, r1, r2, z.1, z.2, .inl rfl, q _ F H (Ext.refl fh) (by simp only [Rep]; rfl)⟩
 | tup xs =>
  have q' : Ok X (if okD dx = true ∧ okD (.tup xs) = true then .ok (.bl (xs.any fun y => eqvD y dx)) else .no) (Ev X.K F H Q) := by cases dx <;> exact q
  obtain ⟨z, q⟩ := zj4 q'
  exact .inr ⟨F, dx, _, xs, fh, r1, r2, z.1, z.2, .inr rfl, q _ F H (Ext.refl fh) (by simp only [Rep]; rfl)⟩
 | str j =>
  cases dx with
  | str i =>
   simp only [Rep] at r1 r2; subst r1; subst r2
   exact .inl ⟨i, j, rfl, rfl, q _ F H (Ext.refl fh) (by simp only [Rep, strIn])⟩
  | _ => exact q.elim
 | _ => cases dx <;> exact q.elim⟩
def isN : D → Rs Bool
 | .non => .ok true
 | .raw _ => .no
 | .exc _ => .no
 | _ => .ok false
def isD (d e : D) : Rs D := match e with
 | .non => (isN d).bind fun b => .ok (.bl b)
 | _ => .no
def zz6 (d e : D) : Rs D := match e with
 | .non => (isN d).bind fun b => .ok (.bl (!b))
 | _ => .no
theorem ym6 {F : Hp} {d : D} {v : V} {P : Bool → Prop} (r : Rep X.K F d v) (h : Ok X (isN d) P) : P (decide (v = .non)) := by
 cases d with
 | non => simp only [Rep] at r; subst r; exact h
 | bl b => simp only [Rep] at r; subst r; exact h
 | int b => simp only [Rep] at r; subst r; exact h
 | str b => simp only [Rep] at r; subst r; exact h
 | lst b => simp only [Rep] at r; obtain ⟨a, vs, rfl, _⟩ := r; exact h
 | tup b => simp only [Rep] at r; obtain ⟨a, vs, rfl, _⟩ := r; exact h
 | scr b => simp only [Rep] at r; obtain ⟨a, rfl, _⟩ := r; exact h
 | raw b => exact h.elim
 | exc b => exact h.elim
theorem opd_is : OpD X (compareOp .Is) isD := ⟨_, op_isN, fun F H x y dx dy Q fh r1 r2 q => by
 cases dy with
 | non => simp only [Rep] at r2; exact ⟨r2, ym6 r1 (Ok.bind q) _ F H (Ext.refl fh) (by simp only [Rep])⟩
 | _ => exact q.elim⟩
theorem zT4 : OpD X (compareOp .IsNot) zz6 := ⟨_, op_notN, fun F H x y dx dy Q fh r1 r2 q => by
 cases dy with
 | non => simp only [Rep] at r2; have q' : Ok X ((isN dx).bind fun b => Rs.ok (D.bl (!b))) (Ev X.K F H Q) := q; have q2 := ym6 (P := fun b => Ok X (Rs.ok (D.bl (!b))) (Ev X.K F H Q)) r1 (Ok.bind q'); exact ⟨r2, q2 _ F H (Ext.refl fh) (by simp only [Rep])⟩
 | _ => exact q.elim⟩
def eNeg (fa : FE) : FE := fun τ => (fa τ).bind fun d => match d with
 | .int i => .ok (.int (-i))
 | _ => .no
theorem zn8 {a : Expr} {pos : Pos} {fa : FE} (ha : PDE X a fa) : PDE X (.UnaryOp .USub a pos) (eNeg fa) :=
 PE.imp (pe_un un_neg ha) fun σ H Q ⟨F, τ, R, h⟩ => tE.of R h.bind fun d v F1 H1 g x R1 r => by
  cases d with
  | int i => simp only [Rep] at r; exact ⟨i, r, g _ F1 H1 x (by simp only [Rep])⟩
  | _ => exact g.elim
end
def zi2 (env : Env) (cs : List (Str × Addr)) (y : Str × NameKind) : List (Str × Addr) := if y.2 == NameKind.free then (y.1, (env.cells.lookup y.1).getD 0) :: cs else cs
def zp8 (scope : Scope) (env : Env) : List (Str × Addr) := scope.names.foldl (zi2 env) []
theorem zt9 {scope : Scope} {env : Env} (h : ∀ y ∈ scope.names, y.2 = .free → (env.cells.lookup y.1).isSome = true) : closureFor scope env = pure (zp8 scope env) := by
 unfold closureFor zp8
 generalize scope.names = names at h
 have gen : ∀ (cs : List (Str × Addr)), (forIn names cs fun x r => (do
   if (x.2 == NameKind.free) = true then do
    let c ← cellOf env x.1
    pure PUnit.unit
    pure (ForInStep.yield ((x.1, c) :: r))
   else do
    pure PUnit.unit
    pure (ForInStep.yield r)) : Sem (List (Str × Addr))) = pure (names.foldl (zi2 env) cs) := by
  induction names with
  | nil => intro cs; rfl
  | cons y r ih =>
   intro cs
   rw [List.forIn_cons, List.foldl_cons]
   by_cases hk : y.2 = .free
   ·obtain ⟨c, hc⟩ := Option.isSome_iff_exists.mp (h y List.mem_cons_self hk)
    have e : zi2 env cs y = (y.1, c) :: cs := by simp [zi2, hk, hc]
    rw [e, ← ih (fun z hz => h z (List.mem_cons_of_mem _ hz))]
    simp only [hk, beq_self_eq_true, if_true, cellOf, hc]
    rfl
   ·have hb : (y.2 == NameKind.free) = false := by simpa using hk
    have e : zi2 env cs y = cs := by simp [zi2, hb]
    rw [e, ← ih (fun z hz => h z (List.mem_cons_of_mem _ hz))]
    simp only [hb, Bool.false_eq_true, if_false]
    rfl
 show ((forIn names ([] : List (Str × Addr)) fun x r => (do
   if (x.2 == NameKind.free) = true then do
    let c ← cellOf env x.1
    pure PUnit.unit
    pure (ForInStep.yield ((x.1, c) :: r))
   else do
    pure PUnit.unit
    pure (ForInStep.yield r)) : Sem (List (Str × Addr))) >>= fun s => pure s) = _
 rw [gen []]
 rfl
theorem zJ3 {env : Env} {x : Str} : ∀ {names : List (Str × NameKind)} {cs : List (Str × Addr)} {c : Addr}, (names.foldl (zi2 env) cs).lookup x = some c → cs.lookup x = some c ∨ (∃ y ∈ names, y.1 = x ∧ y.2 = .free ∧ c = (env.cells.lookup x).getD 0)
 | [], cs, c, h => .inl h
 | y :: r, cs, c, h => by
  rw [List.foldl_cons] at h
  rcases zJ3 h with q | ⟨z, hz, e⟩
  ·by_cases hk : y.2 = .free
   ·have e : zi2 env cs y = (y.1, (env.cells.lookup y.1).getD 0) :: cs := by simp [zi2, hk]
    rw [e, List.lookup_cons] at q
    by_cases hx : x = y.1
    ·subst hx
     simp at q
     exact .inr ⟨y, List.mem_cons_self, rfl, hk, q.symm⟩
    ·have hb : (x == y.1) = false := by simpa using hx
     rw [hb] at q
     exact .inl q
   ·have hb : (y.2 == NameKind.free) = false := by simpa using hk
    have e : zi2 env cs y = cs := by simp [zi2, hb]
    rw [e] at q
    exact .inl q
  ·exact .inr ⟨z, List.mem_cons_of_mem _ hz, e⟩
theorem zA3 {env : Env} {x : Str} : ∀ {names : List (Str × NameKind)} {cs : List (Str × Addr)}, ((∃ y ∈ names, y.1 = x ∧ y.2 = .free) ∨ ∃ c, cs.lookup x = some c) → ∃ c, (names.foldl (zi2 env) cs).lookup x = some c
 | [], cs, h => by
  rcases h with ⟨y, hy, _⟩ | h
  ·cases hy
  ·exact h
 | y :: r, cs, h => by
  rw [List.foldl_cons]
  refine zA3 ?_
  by_cases hk : y.2 = .free
  ·have e : zi2 env cs y = (y.1, (env.cells.lookup y.1).getD 0) :: cs := by simp [zi2, hk]
   rw [e]
   by_cases hx : x = y.1
   ·subst hx; exact .inr ⟨(env.cells.lookup y.1).getD 0, by rw [List.lookup_cons]; simp⟩
   ·have hb : (x == y.1) = false := by simpa using hx
    rcases h with ⟨z, hz, e1, e2⟩ | ⟨c, hc⟩
    ·rcases List.mem_cons.mp hz with rfl | hz
     ·exact absurd e1.symm hx
     ·exact .inl ⟨z, hz, e1, e2⟩
    ·exact .inr ⟨c, by rw [List.lookup_cons, hb]; exact hc⟩
  ·have hb : (y.2 == NameKind.free) = false := by simpa using hk
   have e : zi2 env cs y = cs := by simp [zi2, hb]
   rw [e]
   rcases h with ⟨z, hz, e1, e2⟩ | h
   ·rcases List.mem_cons.mp hz with rfl | hz
    ·exact absurd e2 hk
    ·exact .inl ⟨z, hz, e1, e2⟩
   ·exact .inr h
def _root_.L2.Cx.comp (X : Cx) (scope : Scope) (N : List Str) (s : Shared) (H : Hp) (C : Addr) (fp : List Addr) : Cx :=
 { prog := X.prog, w := X.w, K := X.K, mg := X.mg, base := X.base, A := X.A, N := N, s₀ := s, H₀ := H, env := compEnvC scope (zp8 scope X.env) C X.env, outer := X.stack, stack := X.stack, ex := fp, fn := fun _ => false, calm := X.calm, pn := [], xe := fun _ _ => False }
structure zl7 (X : Cx) (scope : Scope) : Prop where
 kind : scope.kind = .function
 nocell : ∀ y ∈ scope.names, y.2 ≠ .cell
 locs : ∀ y ∈ scope.names, y.2 = .local → scope.names.lookup y.1 = some .local
 free : ∀ y ∈ scope.names, y.2 = .free → X.env.kindOf y.1 = some .cell ∨ X.env.kindOf y.1 = some .free
theorem zr0 {env : Env} : ∀ {names : List (Str × NameKind)} {x : Str}, ((names.map fun (n, k) => if (k == NameKind.free && env.scope.kind == .function && env.kindOf n == some .cell) then (n, NameKind.cell) else (n, k)).lookup x = some .cell ∨
  (names.map fun (n, k) => if (k == NameKind.free && env.scope.kind == .function && env.kindOf n == some .cell) then (n, NameKind.cell) else (n, k)).lookup x = some .free) → (∀ y ∈ names, y.2 ≠ .cell) → ∃ y ∈ names, y.1 = x ∧ y.2 = .free
 | [], _, h, _ => by rcases h with h | h <;> simp at h
 | (n, k) :: r, x, h, hc => by
  have hr : ∀ y ∈ r, y.2 ≠ .cell := fun y hy => hc y (List.mem_cons_of_mem _ hy)
  rw [List.map_cons] at h
  by_cases hx : x = n
  ·subst hx
   by_cases hk : k = .free
   ·exact ⟨_, List.mem_cons_self, rfl, hk⟩
   ·have hb : (k == NameKind.free) = false := by simpa using hk
    have hck : k ≠ .cell := hc (x, k) List.mem_cons_self
    simp only [hb, Bool.false_and, Bool.false_eq_true, if_false, List.lookup_cons, beq_self_eq_true] at h
    rcases h with h | h
    ·exact absurd (Option.some.inj h) hck
    ·exact absurd (Option.some.inj h) hk
  ·have hb : (x == n) = false := by simpa using hx
   have step : ∀ q : Str × NameKind, q.1 = n → ((q :: (r.map fun (n, k) => if (k == NameKind.free && env.scope.kind == .function && env.kindOf n == some .cell) then (n, NameKind.cell) else (n, k))).lookup x) = ((r.map fun (n, k) => if (k == NameKind.free && env.scope.kind == .function && env.kindOf n == some .cell) then (n, NameKind.cell) else (n, k)).lookup x) := fun q hq => by
    obtain ⟨q1, q2⟩ := q
    simp only at hq
    subst hq
    rw [List.lookup_cons, hb]
   have h' : ((r.map fun (n, k) => if (k == NameKind.free && env.scope.kind == .function && env.kindOf n == some .cell) then (n, NameKind.cell) else (n, k)).lookup x = some .cell ∨ (r.map fun (n, k) => if (k == NameKind.free && env.scope.kind == .function && env.kindOf n == some .cell) then (n, NameKind.cell) else (n, k)).lookup x = some .free) := by
    rcases h with h | h
    ·left; exact (step _ (by show (if (k == NameKind.free && env.scope.kind == .function && env.kindOf n == some .cell) = true then (n, NameKind.cell) else (n, k)).1 = n; split <;> rfl)).symm.trans h
    ·right; exact (step _ (by show (if (k == NameKind.free && env.scope.kind == .function && env.kindOf n == some .cell) = true then (n, NameKind.cell) else (n, k)).1 = n; split <;> rfl)).symm.trans h
   obtain ⟨y, hy, e⟩ := zr0 h' hr
   exact ⟨y, List.mem_cons_of_mem _ hy, e⟩
theorem zu7 {env : Env} : ∀ {names : List (Str × NameKind)} {x : Str}, names.lookup x = some .free → ¬ (names.map fun (n, k) => if (k == NameKind.free && env.scope.kind == .function && env.kindOf n == some .cell) then (n, NameKind.cell) else (n, k)).lookup x = some .local
 | [], _, h => by simp at h
 | (n, k) :: r, x, h => by
  rw [List.map_cons]
  show ¬ List.lookup x ((if (k == NameKind.free && env.scope.kind == .function && env.kindOf n == some .cell) = true then (n, NameKind.cell) else (n, k)) :: _) = _
  rw [List.lookup_cons] at h
  by_cases hx : x = n
  ·subst hx
   simp only [beq_self_eq_true] at h
   have hk : k = .free := Option.some.inj h
   subst hk
   split <;> simp [List.lookup_cons]
  ·have hb : (x == n) = false := by simpa using hx
   rw [hb] at h
   split
   ·rw [List.lookup_cons, hb]; exact zu7 h
   ·rw [List.lookup_cons, hb]; exact zu7 h
section
variable {X : Cx} {scope : Scope} {N' : List Str}
theorem zJ2 (S : zl7 X scope) (ok : X.Ok) {x : Str} {c : Addr} (h : (zp8 scope X.env).lookup x = some c) : X.env.cells.lookup x = some c := by
 rcases zJ3 h with q | ⟨y, hy, e1, e2, e3⟩
 ·simp at q
 ·subst e1
  obtain ⟨c', hc'⟩ := ok.has y.1 (S.free y hy e2)
  rw [hc'] at e3 ⊢
  rw [e3]; rfl
theorem comp_inv {pins : List (Addr × Obj)} {σ σ' : St} {H : Hp} {s : Shared} {h1 : Heap} {fp : List Addr} {t : Nat} (S : zl7 X scope) (I : Inv X pins σ H s) (hfp : ∀ b ∈ fp, FpOk X pins H b) (hlt : ∀ b ∈ fp, b < s.heap.objs.size)
  (hn : h1.Ns s.heap.objs.size fun _ => none) (hsb : ∀ b o, s.heap.get? b = some o → h1.get? b = some o) (hl : σ'.length = N'.length)
  (hσ : ∀ (i : Nat) (v : V), σ'[i]? = some (some v) → ∃ (x : Str) (j : Nat), N'[i]? = some x ∧ X.N[j]? = some x ∧ σ[j]? = some (some v) ∧ scope.names.lookup x = some .free) :
  Inv (X.comp scope N' s H s.heap.objs.size fp) [] σ' H { s with heap := h1, toks := t } := by
 have hH : H s.heap.objs.size = none := I.hok.fresh (Nat.le_refl _)
 have cl : ∀ {x c}, (zp8 scope X.env).lookup x = some c → X.env.cells.lookup x = some c := fun h => zJ2 S I.ok h
 have kept : ∀ {c v}, s.heap.IsCell c v → h1.IsCell c v := fun ⟨o, e, d⟩ => ⟨o, hsb _ o e, d⟩
 refine ⟨⟨I.ok.mod, S.kind, I.ok.glob, I.ok.blt, Nat.le_refl _, fun x y c e1 e2 => I.ok.inj x y c (cl e1) (cl e2), fun x hx => ?_, fun x c hf _ => absurd hf (by simp [Cx.comp]), I.ok.hd, I.ok.frames, .inl rfl, fun b hb => ?_, I.bs, Nat.le_trans I.ok.bsz I.sz, fun b o e hb => ?_, fun b hb hs => ?_, I.stack, I.stkFree⟩,
  I.os.symm ▸ rfl, I.bare, Un.kept hsb, ⟨_, hn, fun i x v e1 e2 e3 => ?_⟩, fun x c e => ?_, hH, fun x c e => I.freeC x c (cl e), fun p hp => absurd (show p ∈ ([] : List (Addr × Obj)) from hp) (by simp), I.hok.kept hsb, hl⟩
 ·have hx : (relabel scope X.env).names.lookup x = some .cell ∨ (relabel scope X.env).names.lookup x = some .free := hx
  exact zA3 (.inl (zr0 hx S.nocell))
 ·have hb : b ∈ fp := hb
  refine ⟨Nat.ne_of_lt (hlt b hb), fun x c e => (hfp b hb).2.2.2.2.1 x c (cl e)⟩
 ·have hb : b ∈ fp := hb
  rcases (hfp b hb).2.2.2.1 with z | z
  ·exact I.ok.noex b o e z
  ·exact absurd (Nat.lt_of_lt_of_le (Heap.lt_size e) (Nat.le_trans I.ok.bsz z)) (Nat.lt_irrefl _)
 ·have hb : b ∈ fp := hb
  obtain ⟨_, f1, f2, _⟩ := hfp b hb
  rcases List.mem_cons.mp (I.stkSub b hs) with z | z
  ·exact f1 z
  ·exact f2 z
 ·obtain ⟨x', j, e4, e5, e6, e9⟩ := hσ i v e2
  have hy := PySem.mem_of_lookup e9
  have e1' : N'[i]? = some x := e1
  rw [e1'] at e4; cases e4
  have kd := S.free _ hy rfl
  obtain ⟨m, hm, hl⟩ := I.loc
  obtain ⟨u, ru, lk⟩ := hl j x v e5 e6 (kd.elim (fun z => .inr (.inl z)) fun z => .inr (.inr z))
  refine ⟨u, ru, ?_⟩
  rcases lk with ⟨z, _⟩ | ⟨z, c, hc, hcell⟩
  ·rcases kd with k | k <;> rw [k] at z <;> cases z
  ·obtain ⟨c', hc'⟩ := zA3 (env := X.env) (names := scope.names) (cs := []) (x := x) (.inl ⟨_, hy, rfl, rfl⟩)
   have := cl hc'
   rw [hc] at this; cases this
   have e3' : (relabel scope X.env).names.lookup x = some .local ∨ (relabel scope X.env).names.lookup x = some .cell ∨ (relabel scope X.env).names.lookup x = some .free := e3
   rcases e3' with q | q | q
   ·exact absurd q (zu7 e9)
   ·exact .inr ⟨.inl q, c, hc', kept hcell⟩
   ·exact .inr ⟨.inr q, c, hc', kept hcell⟩
 ·obtain ⟨v, z⟩ := I.cell x c (cl e)
  exact ⟨v, kept z⟩
end
theorem yo1 {prog : Program} {w : World} {A : Around} {R : Result → Shared → Prop} {s : Shared} {elt target iter : Expr} {ifs : List Expr} {scope : Scope} {pos : Pos} {it acc : Value} {env : Env} (I : Nat → Shared → Prop)
  (turn : ∀ n s, I n s → wpAny (model prog w) A (pyNext it) (fun r s₁ => match r with
   | none => R (.ok .next) s₁
   | some v => wpAny (model prog w) A (letOwnedTupleGo target it v) (fun _ s0 => wpAny (model prog w) A (assign target env v) (fun _ s₂ =>
     wpAny (model prog w) A (forIn ifs true fun c r => if r = true then do let ok ← isTrue c env (eval c env); pure (ForInStep.yield ok) else pure (ForInStep.yield r)) (fun ok s₃ =>
      if ok = true then wpAny (model prog w) A (eval elt env) (fun x s₄ =>
       wpAny (model prog w) A (call (.builtin "list.append") [acc, x]) (fun _ s₅ => ∃ m, m < n ∧ I m s₅) (fun _ _ => False) s₄) (fun _ _ => False) s₃
      else ∃ m, m < n ∧ I m s₃) (fun _ _ => False) s₂) (fun _ _ => False) s0) (fun _ _ => False) s₁) (fun _ _ => False) s)
  (n : Nat) (h : I n s) :
  codeAny (model prog w) A (.compLoop (.ListComp elt [⟨target, iter, ifs, 0⟩] scope pos) 0 it acc env) R s := by
 refine codeAny_loop rfl I (fun n s hI => ?_) n h
 show wpAny _ A ((compTurn (.ListComp elt [⟨target, iter, ifs, 0⟩] scope pos) 0 it acc env).onRaise (fun x => do noteFrame x env; theTreesLotGoes x)) _ _ s
 refine wpAny_noted ?_
 rw [compTurn_list]
 refine wpAny_bind (wpAny_standAt (wpAny_bind (wpAny_mono (turn n s hI) (fun r s₁ h₁ => ?_) fun _ _ h' => h'.elim)))
 cases r with
 | none => exact wpAny_pure h₁
 | some v =>
  refine wpAny_bind (wpAny_mono h₁ (fun _ s0 h0 => ?_) fun _ _ h' => h'.elim)
  refine wpAny_bind (wpAny_mono h0 (fun _ s₂ h₂ => wpAny_bind (wpAny_mono h₂ (fun ok s₃ h₃ => ?_) fun _ _ h' => h'.elim)) fun _ _ h' => h'.elim)
  cases ok with
  | false => exact wpAny_pure ⟨rfl, h₃⟩
  | true =>
   exact wpAny_bind (wpAny_bind (wpAny_mono h₃ (fun x s₄ h₄ => wpAny_bind (wpAny_mono h₄ (fun _ s₅ h₅ => wpAny_pure (wpAny_pure ⟨rfl, h₅⟩)) fun _ _ h' => h'.elim)) fun _ _ h' => h'.elim))
theorem no_tests {M : Model} {A : Around} {env : Env} {Q : Bool → Shared → Prop} {E : Value → Shared → Prop} {s : Shared} (h : Q true s) :
  wpAny M A (forIn ([] : List Expr) true fun c r => if r = true then do let ok ← isTrue c env (eval c env); pure (ForInStep.yield ok) else pure (ForInStep.yield r)) Q E s := wpAny_pure h
theorem one_test {M : Model} {A : Around} {env : Env} {Q : Bool → Shared → Prop} {E : Value → Shared → Prop} {s : Shared} {c : Expr} (h : wpAny M A (isTrue c env (eval c env)) Q E s) :
  wpAny M A (forIn [c] true fun c r => if r = true then do let ok ← isTrue c env (eval c env); pure (ForInStep.yield ok) else pure (ForInStep.yield r)) Q E s := by
 rw [List.forIn_cons]
 simp only [if_true]
 refine wpAny_bind (wpAny_bind (wpAny_mono h (fun b s' q => wpAny_pure ?_) fun _ _ e => e))
 exact wpAny_pure q
def PTs (Y : Cx) (ifs : List Expr) (t : TT) : Prop := ∀ (pins : List (Addr × Obj)) (s : Shared) (σ : St) (H : Hp) (Q : Bool → Hp → Prop), Inv Y pins σ H s → t σ H Q →
 wpAny (model Y.prog Y.w) Y.A (forIn ifs true fun c r => if r = true then do let ok ← isTrue c Y.env (eval c Y.env); pure (ForInStep.yield ok) else pure (ForInStep.yield r)) (TP Y pins σ Q) Y.xe s
theorem pts_nil {Y : Cx} : PTs Y [] (fun _ H Q => Q true H) := fun pins s σ H Q I h => no_tests ⟨H, I, h⟩
theorem pts_one {Y : Cx} {c : Expr} {t : TT} (h : PT Y c t) : PTs Y [c] t := fun pins s σ H Q I q => one_test (h pins s σ H Q I q)
def tComp (s0 : St → St) (wi : TI) (g : TG) (ti : TT) (te : TE) : TE := fun σ H Q => wi σ H fun J H1 => ∀ acc, H1 acc = none → ∃ W : Nat → Nat → St → Hp → Prop, (∃ m, W 0 m (s0 σ) (upd H1 acc (.lst []))) ∧ ∀ i m σ1 H, W i m σ1 H →
 (J.stop i H ∧ Q (.ref acc) H) ∨ (J.go i H ∧ ∀ x H', J.yld i H x H' → g x σ1 H' fun σ2 H2 => ti σ2 H2 fun b H3 =>
  if b = true then te σ2 H3 fun y H4 => ∃ ys, H4 acc = some (.lst ys) ∧ ys.length < sizeLine ∧ ∃ m', m' < m ∧ W (i + 1) m' σ2 (upd H4 acc (.lst (ys ++ [y]))) else ∃ m', m' < m ∧ W (i + 1) m' σ2 H3)
section
variable {X : Cx} {scope : Scope} {N' : List Str} {tg iter elt : Expr} {ifs : List Expr} {pos : Pos} {wi : TI} {g : TG} {ti : TT} {te : TE} {s0 : St → St}
theorem hok_but {P : Program} {w : World} {H : Hp} {h h' : Heap} {C : Addr} (ok : HOk P w H h) (hC : H C = none) (k : ∀ b o, b ≠ C → h.get? b = some o → h'.get? b = some o) : HOk P w H h' := fun b u e => by
 refine (ok b u e).stay (fun c v hc q => k c v ?_ q) (fun _ q => q) fun _ _ q => q
 rintro rfl
 rcases hc with z | z
 ·subst z; rw [hC] at e; cases e
 ·rw [hC] at z; cases z
theorem zM5 {pins : List (Addr × Obj)} {σ : St} {H : Hp} {s : Shared} {QQ : V → Hp → Prop} {J : It} {fp : List Addr} {it acc : Addr} {tn : Nat → Heap → Prop} {RR : Addr → Result → Shared → Prop} {E : Value → Shared → Prop} {W : Nat → Nat → St → Hp → Prop} {m0 : Nat}
  (S : zl7 X scope) (hc : X.calm = true) (hl : (s0 σ).length = N'.length)
  (hσ : ∀ (i : Nat) (v : V), (s0 σ)[i]? = some (some v) → ∃ (x : Str) (j : Nat), N'[i]? = some x ∧ X.N[j]? = some x ∧ σ[j]? = some (some v) ∧ scope.names.lookup x = some .free)
  (hg : ∀ s H C fp, PG (X.comp scope N' s H C fp) tg g) (ht : ∀ s H C fp, PTs (X.comp scope N' s H C fp) ifs ti) (he : ∀ s H C fp, PE (X.comp scope N' s H C fp) elt te)
  (I : Inv X pins σ H s) (T : Turn X.prog X.w X.K tg J fp it tn) (st : tn 0 s.heap) (hfp : ∀ b ∈ fp, FpOk X pins H b) (hlt : ∀ b ∈ fp, b < s.heap.objs.size) (hacc : acc < s.heap.objs.size)
  (w0 : W 0 m0 (s0 σ) H) (turn : ∀ i m σ1 H, W i m σ1 H → (J.stop i H ∧ QQ (.ref acc) H) ∨ (J.go i H ∧ ∀ x H', J.yld i H x H' → g x σ1 H' fun σ2 H2 => ti σ2 H2 fun b H3 =>
    if b = true then te σ2 H3 fun y H4 => ∃ ys, H4 acc = some (.lst ys) ∧ ys.length < sizeLine ∧ ∃ m', m' < m ∧ W (i + 1) m' σ2 (upd H4 acc (.lst (ys ++ [y]))) else ∃ m', m' < m ∧ W (i + 1) m' σ2 H3))
  (hRR : ∀ s', (∃ m, s'.heap.Ns s.heap.objs.size m) → (∀ h', Heap.SameBut s.heap.objs.size s'.heap h' → EP X pins σ (fun v H' => QQ v H' ∧ H' s.heap.objs.size = none) (.ref acc) { s' with heap := h' }) → RR s.heap.objs.size (.ok .next) s') :
  wpAny (model X.prog X.w) X.A (newFunctionEnv scope X.env.globals (zp8 scope X.env) [] X.env.qual none .none (some X.env)) (fun cenv s₄ =>
   codeAny (model X.prog X.w) X.A (.compStart (.ListComp elt [⟨tg, iter, ifs, 0⟩] scope pos) 0 (.ref it) (.ref acc) { cenv with scope := relabel scope X.env }) (RR cenv.locals) s₄) E s := by
 refine wpAny_newFunctionEnv S.nocell (by intro y hy; simp at hy) (fun h1 hns hsb => ?_) S.kind
 have keep3 : ∀ b o, s.heap.get? b = some o → h1.get? b = some o := fun b o e => hsb.extBut b o (Nat.ne_of_lt (Heap.lt_size e)) (Heap.get?_push_of_some _ e)
 have Y0 : Inv (X.comp scope N' s H s.heap.objs.size fp) [] (s0 σ) H { s with heap := h1, toks := s.toks + ([] : List (Str × Value)).length } := comp_inv S I hfp hlt hns keep3 hl hσ
 have fpY : ∀ {H' : Hp}, (∀ b ∈ fp, H' b = none) → ∀ b ∈ fp, FpOk (X.comp scope N' s H s.heap.objs.size fp) [] H' b := fun {H'} hn b hb => by
  obtain ⟨f0, f1, f2, f3, f4, f5⟩ := hfp b hb
  refine ⟨hn b hb, Nat.ne_of_lt (hlt b hb), fun z => ?_, .inl hb, fun x c e => f4 x c (zJ2 S I.ok e), fun p hp => absurd (show p ∈ ([] : List (Addr × Obj)) from hp) (by simp)⟩
  rcases List.mem_cons.mp (I.stkSub b z) with q | q
  ·exact f1 q
  ·exact f2 q
 have st1 : tn 0 h1 := T.keep _ _ _ st fun b hb o e => keep3 b o e
 have loop : ∀ s3 : Shared, s3 = { s with heap := h1, toks := s.toks + ([] : List (Str × Value)).length } →
   codeAny (model X.prog X.w) X.A (.compLoop (.ListComp elt [⟨tg, iter, ifs, 0⟩] scope pos) 0 (.ref it) (.ref acc) (X.comp scope N' s H s.heap.objs.size fp).env) (RR s.heap.objs.size) s3 := by
  rintro s3 rfl
  refine yo1 (fun n s' => ∃ i σ' H', Inv (X.comp scope N' s H s.heap.objs.size fp) [] σ' H' s' ∧ tn i s'.heap ∧ (∀ b ∈ fp, H' b = none) ∧ W i n σ' H') ?_ m0 ⟨0, s0 σ, H, Y0, st1, fun b hb => (hfp b hb).1, w0⟩
  rintro n s4 ⟨i, σ4, H4, I4, st4, fr4, w4⟩
  rcases turn i n σ4 H4 w4 with ⟨stop, qn⟩ | ⟨go, step⟩
  ·refine thn (T.done (X.comp scope N' s H s.heap.objs.size fp) rfl rfl rfl hc i [] s4 σ4 H4 _ I4 (fpY fr4) st4 stop) fun r s5 ⟨hr, I5⟩ => ?_
   subst hr
   obtain ⟨m5, n5, _⟩ := id I5.loc
   have hC : H4 s.heap.objs.size = none := I5.free
   refine hRR s5 ⟨m5, n5⟩ fun h' sb => ⟨.ref acc, H4, ?_, rfl, qn, hC⟩
   refine I.call' (s' := { s5 with heap := h' }) (ch := fp) I5.os ⟨fun b o e n hb hx => ?_, fun b o e n hb hx => ?_, fun b o e n hx => I5.base.free b o e n hx, fun b o e hx => ?_, I5.base.tups, I5.base.frzs, I5.base.tbls⟩ (hok_but I5.hok hC fun b o hb e => (sb.2 b hb).trans e) I5.bare fun b hb => ?_
   ·exact (sb.2 b (Nat.ne_of_lt (Heap.lt_size e))).trans (I5.base.keep b o e n hb hx)
   ·obtain ⟨sl, q⟩ := I5.base.slot b o e n hb hx
    exact ⟨sl, (sb.2 b (Nat.ne_of_lt (Heap.lt_size e))).trans q⟩
   ·obtain ⟨o', q⟩ := I5.base.there b o e hx
    exact ⟨o', (sb.2 b (Nat.ne_of_lt (Heap.lt_size e))).trans q⟩
   ·obtain ⟨f0, f1, f2, f3, f4, f5⟩ := hfp b hb
    exact ⟨f3, f1, f4, f5⟩
  ·refine thn (T.item (X.comp scope N' s H s.heap.objs.size fp) rfl rfl rfl hc i [] s4 σ4 H4 _ I4 (fpY fr4) st4 go) fun r s5 ⟨u, hr, h5⟩ => ?_
   subst hr
   refine thn h5 fun _ s6 ⟨x, H6, I6, r6, y6, st6, fr6⟩ => ?_
   have I6' := I6.pinned (fpY fr6) (T.obj _ _ st6)
   refine thn (hg _ _ _ _ _ s6 σ4 H6 x u _ I6' r6 (step x H6 y6)) fun _ s7 ⟨σ7, H7, I7, q7⟩ => ?_
   refine thn (ht _ _ _ _ _ s7 σ7 H7 _ I7 q7) fun ok s8 ⟨H8, I8, q8⟩ => ?_
   have again : ∀ {s9 : Shared} {H9 : Hp} {m' : Nat}, Inv (X.comp scope N' s H s.heap.objs.size fp) ([] ++ zT1 fp s6.heap) σ7 H9 s9 → m' < n → W (i + 1) m' σ7 H9 → ∃ m, m < n ∧ ∃ i σ' H', Inv (X.comp scope N' s H s.heap.objs.size fp) [] σ' H' s9 ∧ tn i s9.heap ∧ (∀ b ∈ fp, H' b = none) ∧ W i m σ' H' := fun {s9 H9 m'} I9 hm w9 => by
    refine ⟨m', hm, i + 1, σ7, H9, I9.unpinned, T.keep _ _ _ st6 fun b hb o e => (I9.pin (b, o) (List.mem_append_right _ (List.mem_append_right _ (zx0 hb e)))).1, fun b hb => ?_, w9⟩
    obtain ⟨o, e, d⟩ := T.obj _ _ st6 b hb
    exact (I9.pin (b, o) (List.mem_append_right _ (List.mem_append_right _ (zx0 hb e)))).2.1
   cases ok with
   | false =>
    rw [if_neg (by simp)] at q8
    obtain ⟨m', hm, w8⟩ := q8
    exact again I8 hm w8
   | true =>
    rw [if_pos rfl] at q8
    refine thn (he _ _ _ _ _ s8 σ7 H8 _ I8 q8) fun y s9 ⟨z, H9, I9, r9, ys, e9, l9, m', hm, w9⟩ => ?_
    refine thn (zz5 _ s9 σ7 H9 (.ref acc) [z] (.ref acc) [y] (fun _ H' => H' = upd H9 acc (.lst (ys ++ [z]))) I9 rfl (.cons r9 .nil) ⟨acc, ys, z, rfl, rfl, e9, l9, rfl⟩) fun _ s10 ⟨_, H10, I10, _, e10⟩ => ?_
    subst e10
    exact again I10 hm w9
 exact codeAny_compStart_list (loop _ rfl) (T.self _ 0 _ _ _ st1 (loop _ rfl))
end
section
variable {X : Cx} {scope : Scope} {N' : List Str} {tg iter elt : Expr} {ifs : List Expr} {pos : Pos} {wi : TI} {g : TG} {ti : TT} {te : TE} {s0 : St → St}
theorem fp_lt {pins : List (Addr × Obj)} {σ : St} {H : Hp} {s : Shared} {J : It} {fp : List Addr} {it : Addr} {tn : Nat → Heap → Prop} (T : Turn X.prog X.w X.K tg J fp it tn) (st : tn 0 s.heap) : ∀ b ∈ fp, b < s.heap.objs.size := fun b hb => by
 obtain ⟨o, e, _⟩ := T.obj 0 _ st b hb
 exact Heap.lt_size e
theorem yi5 (S : zl7 X scope) (hc : X.calm = true) (hl : ∀ σ : St, σ.length = X.N.length → (s0 σ).length = N'.length)
  (hσ : ∀ (σ : St) (i : Nat) (v : V), (s0 σ)[i]? = some (some v) → ∃ (x : Str) (j : Nat), N'[i]? = some x ∧ X.N[j]? = some x ∧ σ[j]? = some (some v) ∧ scope.names.lookup x = some .free)
  (hi : PI X tg iter wi) (hg : ∀ s H C fp, PG (X.comp scope N' s H C fp) tg g) (ht : ∀ s H C fp, PTs (X.comp scope N' s H C fp) ifs ti) (he : ∀ s H C fp, PE (X.comp scope N' s H C fp) elt te)
  (hs : ∀ x, foldedSetIterable iter X.env x = pure x := by intro _; rfl) : PE X (.ListComp elt [⟨tg, iter, ifs, 0⟩] scope pos) (tComp s0 wi g ti te) := by
 intro pins s σ H Q I h
 rw [eval_ListComp]
 have hclos := zt9 (scope := scope) (env := X.env) fun y hy hk => Option.isSome_iff_exists.mpr (I.ok.has y.1 (S.free y hy hk))
 refine wpAny_comprehension_free (use := none) rfl hs hclos S.kind S.locs (thn (hi pins s σ H _ I h) fun x s1 h1 => thn h1 fun itv s2 h2 => ?_)
 obtain ⟨it, fp, tn, J, H2, e, I2, T, st2, f2, hw⟩ := h2
 subst e
 have hf : H2 s2.heap.objs.size = none := I2.hok.fresh (Nat.le_refl _)
 obtain ⟨W, ⟨m0, w0⟩, turn⟩ := hw _ hf
 have hlt := fp_lt (pins := pins) (σ := σ) (H := H2) T st2
 refine wpAny_newObj_type ?_
 have I3 : Inv X pins σ (upd H2 s2.heap.objs.size (.lst [])) { s2 with heap := s2.heap.push { cls := .type "list", dict := none, data := .seq ([] : List Value).toArray } } :=
  I2.laid (t' := s2.toks) (o := .lst []) (fun b u e => Heap.get?_push_of_some _ e) (Nat.le_refl _) ⟨Nat.zero_le _, [], 0, .nil, Heap.get?_push_size _ rfl⟩
 have hsz : s2.heap.objs.size < (s2.heap.push { cls := .type "list", dict := none, data := .seq ([] : List Value).toArray }).objs.size := by rw [Heap.size_push]; exact Nat.lt_succ_self _
 refine zM5 (s0 := s0) (QQ := Q) (W := W) (m0 := m0) S hc (hl σ I2.len) (hσ σ) hg ht he I3 T (T.keep _ _ _ st2 fun b hb o e => Heap.get?_push_of_some _ e) (fun b hb => ?_) (fun b hb => Nat.lt_trans (hlt b hb) hsz) hsz w0 turn fun s' ⟨m, hn⟩ hq => ⟨m, hn, fun h' sb => let ⟨v, H', I', r', q', _⟩ := hq h' sb; ⟨v, H', I', r', q'⟩⟩
 obtain ⟨f0, f1, f2, f3⟩ := f2 b hb
 exact ⟨by rw [zb3 (Nat.ne_of_lt (hlt b hb))]; exact f0, f1, f2, f3⟩
theorem yh9 {i : Nat} {y : Str} {py spos : Pos} (hN : X.N.Nodup) (hiN : X.N[i]? = some y) (hy : X.env.scope.names.lookup y = some .local)
  (hsw : swapsWith (.ListComp elt [⟨tg, iter, ifs, 0⟩] scope pos) (some (.Name y py)) spos.line X.env = pure true)
  (S : zl7 X scope) (hc : X.calm = true) (hl : ∀ σ : St, σ.length = X.N.length → (s0 σ).length = N'.length)
  (hσ : ∀ (σ : St) (i : Nat) (v : V), (s0 σ)[i]? = some (some v) → ∃ (x : Str) (j : Nat), N'[i]? = some x ∧ X.N[j]? = some x ∧ σ[j]? = some (some v) ∧ scope.names.lookup x = some .free)
  (hi : PI X tg iter wi) (hg : ∀ s H C fp, PG (X.comp scope N' s H C fp) tg g) (ht : ∀ s H C fp, PTs (X.comp scope N' s H C fp) ifs ti) (he : ∀ s H C fp, PE (X.comp scope N' s H C fp) elt te)
  (hs : ∀ x, foldedSetIterable iter X.env x = pure x := by intro _; rfl) : PS X (.Assign [.Name y py] (.ListComp elt [⟨tg, iter, ifs, 0⟩] scope pos) spos) (tAsg (tComp s0 wi g ti te) (gName i)) := by
 intro pins s σ H D I h
 rw [exec_Assign_Name_used _ _ _ _ hsw]
 refine wpAny_bind (wpAny_standAt (wpAny_bind ?_))
 show wpAny _ X.A (do let _ ← comprehension (.ListComp elt [⟨tg, iter, ifs, 0⟩] scope pos) scope X.env _ (newList []) false (eval iter X.env) (some (assign (.Name y py) X.env))) _ _ s
 have hclos := zt9 (scope := scope) (env := X.env) fun y hy hk => Option.isSome_iff_exists.mpr (I.ok.has y.1 (S.free y hy hk))
 refine wpAny_bind (wpAny_mono (wpAny_comprehension_free (use := some (assign (.Name y py) X.env)) (Q := fun _ s' => SP X pins D .next s') rfl hs hclos S.kind S.locs
  (thn (hi pins s σ H _ I h) fun x s1 h1 => thn h1 fun itv s2 h2 => ?_)) (fun _ s' hq => wpAny_pure (wpAny_pure hq)) fun _ _ e => e)
 obtain ⟨it, fp, tn, J, H2, e, I2, T, st2, f2, hw⟩ := h2
 subst e
 have hf : H2 s2.heap.objs.size = none := I2.hok.fresh (Nat.le_refl _)
 obtain ⟨W, ⟨m0, w0⟩, turn⟩ := hw _ hf
 have hlt := fp_lt (pins := pins) (σ := σ) (H := H2) T st2
 refine wpAny_newObj_type ?_
 have I3 : Inv X pins σ (upd H2 s2.heap.objs.size (.lst [])) { s2 with heap := s2.heap.push { cls := .type "list", dict := none, data := .seq ([] : List Value).toArray } } :=
  I2.laid (t' := s2.toks) (o := .lst []) (fun b u e => Heap.get?_push_of_some _ e) (Nat.le_refl _) ⟨Nat.zero_le _, [], 0, .nil, Heap.get?_push_size _ rfl⟩
 have hsz : s2.heap.objs.size < (s2.heap.push { cls := .type "list", dict := none, data := .seq ([] : List Value).toArray }).objs.size := by rw [Heap.size_push]; exact Nat.lt_succ_self _
 refine zM5 (s0 := s0) (QQ := fun x H1 => gName i x σ H1 D.nx) (W := W) (m0 := m0) S hc (hl σ I2.len) (hσ σ) hg ht he I3 T (T.keep _ _ _ st2 fun b hb o e => Heap.get?_push_of_some _ e) (fun b hb => ?_) (fun b hb => Nat.lt_trans (hlt b hb) hsz) hsz w0 turn fun s' ⟨m, hn⟩ hq => ?_
 ·obtain ⟨f0, f1, f2, f3⟩ := f2 b hb
  exact ⟨by rw [zb3 (Nat.ne_of_lt (hlt b hb))]; exact f0, f1, f2, f3⟩
 ·obtain ⟨v, H5, I5, r5, q5, hC⟩ := hq s'.heap (.refl ..)
  have I5 : Inv X pins σ H5 s' := I5
  show wpAny _ X.A (assign (.Name y py) X.env _) _ _ s'
  refine wpAny_assign_Name (zS2 I5 hN hiN (.inl hy) r5 (fun s6 I6 ⟨a, sb, ha⟩ => ?_) (.inr hy))
  have lt3 := I3.lt
  have ca : ∀ x c, X.env.cells.lookup x = some c → c < (s2.heap.push { cls := .type "list", dict := none, data := .seq ([] : List Value).toArray }).objs.size := fun x c e => by
   obtain ⟨v, z⟩ := I3.cell x c e
   exact z.lt
  have hne : (s2.heap.push { cls := .type "list", dict := none, data := .seq ([] : List Value).toArray }).objs.size ≠ a := by
   rcases ha with rfl | ha
   ·exact Nat.ne_of_gt lt3
   ·exact Nat.ne_of_gt (ca _ _ ha)
  refine ⟨m, hn.sameBut sb hne, fun h' sb' => ⟨_, H5, ?_, q5⟩⟩
  refine I6.turned (t' := s6.toks) (it := (s2.heap.push { cls := .type "list", dict := none, data := .seq ([] : List Value).toArray }).objs.size) (fun b o hb e => (sb'.2 b hb).trans e) hC (Nat.ne_of_gt lt3) (.inr I3.sz) (fun x c e => Nat.ne_of_lt (ca x c e)) fun p hp => ?_
  exact Nat.ne_of_lt (Heap.lt_size (I3.pin p hp).1)
end
def compL (set : FG) (ft : FT) (fe : FE) (τ : DS) : List D → Rs (List D)
 | [] => .ok []
 | d :: r => match set d τ with
  | .ok τ1 => match ft τ1 with
   | .ok true => match fe τ1 with
    | .ok x => (compL set ft fe τ r).bind fun xs => .ok (x :: xs)
    | _ => .no
   | .ok false => compL set ft fe τ r
   | _ => .no
  | _ => .no
def zF3 : Option (Option Sl) → Option Sl
 | some (some (.val d)) => some (.val d)
 | some (some (.obr c fs)) => some (.obr c fs)
 | some (some (.obj _ c fs)) => some (.obr c fs)
 | _ => none
def tau0 (k : Nat) (idx : List Nat) (τ : DS) : DS := List.replicate k none ++ idx.map fun j => zF3 τ[j]?
def sig0 (k : Nat) (idx : List Nat) (σ : St) : St := List.replicate k none ++ idx.map fun j => (σ[j]?).join
def eComp (k : Nat) (idx : List Nat) (fi : FA) (set : FG) (ft : FT) (fe : FE) : FA := fun τ => (fi τ).bind fun ds => match compL set ft fe (tau0 k idx τ) ds with
 | .ok xs => if xs.length ≤ sizeLine then .ok xs else .no
 | _ => .no
def noOwn (τ : DS) : Prop := (∀ (i : Nat) es, τ[i]? ≠ some (some (.own es))) ∧ ∀ (i n : Nat) c fs, τ[i]? ≠ some (some (.obj n c fs))
structure SetOk (set : FG) : Prop where
 ov : ∀ d e τ τ1, set e τ = .ok τ1 → set d τ1 = set d τ
 no : ∀ d τ τ1, set d τ = .ok τ1 → noOwn τ → noOwn τ1
theorem zH9 {τ : DS} {i : Nat} {d : D} (h : noOwn τ) : noOwn (τ.set i (some (.val d))) := ⟨fun j es e => by
 by_cases hij : i = j
 ·subst hij
  rw [List.getElem?_set] at e
  simp only [if_true] at e
  split at e <;> cases e
 ·rw [List.getElem?_set_ne hij] at e; exact h.1 j es e, fun j n c fs e => h.2 j n c fs (zi3 (s := some (.val d)) rfl rfl e).2⟩
theorem zw6 (i : Nat) : SetOk (gNm i) := ⟨fun d e τ τ1 h => by
 unfold gNm at h ⊢; cases h; rw [List.set_set], fun d τ τ1 h n => by unfold gNm at h; cases h; exact zH9 n⟩
theorem setOk_pr (i j : Nat) : SetOk (gPr i j) := ⟨fun d e τ τ1 h => by
 unfold gPr at h ⊢
 cases q : pair2 e with
 | none => rw [q] at h; cases h
 | some xy =>
  obtain ⟨x, y⟩ := xy
  rw [q] at h; cases h
  cases q2 : pair2 d with
  | none => rfl
  | some zw =>
   obtain ⟨z, w⟩ := zw
   by_cases hij : i = j
   ·subst hij; simp [List.set_set]
   ·have e1 : ((τ.set i (some (.val x))).set j (some (.val y))).set i (some (.val z)) = (τ.set i (some (.val z))).set j (some (.val y)) := by
     rw [List.set_comm _ _ (Ne.symm hij), List.set_set]
    simp only
    rw [e1, List.set_set]
    , fun d τ τ1 h n => by
 unfold gPr at h
 cases q : pair2 d with
 | none => rw [q] at h; cases h
 | some xy =>
  obtain ⟨x, y⟩ := xy
  rw [q] at h; cases h
  exact zH9 (zH9 n)⟩
theorem zw9 (k : Nat) (idx : List Nat) (τ : DS) : ∀ (i : Nat) es, (tau0 k idx τ)[i]? ≠ some (some (.own es)) := fun i es e => by
 unfold tau0 at e
 by_cases hi : i < k
 ·rw [List.getElem?_append_left (by simpa using hi), List.getElem?_replicate] at e
  simp [hi] at e
 ·rw [List.getElem?_append_right (by simpa using hi), List.getElem?_map] at e
  cases q : idx[i - (List.replicate k (none : Option Sl)).length]? with
  | none => rw [q] at e; cases e
  | some j =>
   rw [q] at e
   simp only [Option.map_some, Option.some.injEq] at e
   unfold zF3 at e
   split at e <;> cases e
theorem zB7 (k : Nat) (idx : List Nat) (τ : DS) : ∀ (i n : Nat) c fs, (tau0 k idx τ)[i]? ≠ some (some (.obj n c fs)) := fun i n c fs e => by
 unfold tau0 at e
 by_cases hi : i < k
 ·rw [List.getElem?_append_left (by simpa using hi), List.getElem?_replicate] at e
  simp [hi] at e
 ·rw [List.getElem?_append_right (by simpa using hi), List.getElem?_map] at e
  cases q : idx[i - (List.replicate k (none : Option Sl)).length]? with
  | none => rw [q] at e; cases e
  | some j =>
   rw [q] at e
   simp only [Option.map_some, Option.some.injEq] at e
   unfold zF3 at e
   split at e <;> cases e
theorem zo5 (k : Nat) (idx : List Nat) (τ : DS) : noOwn (tau0 k idx τ) := ⟨zw9 k idx τ, zB7 k idx τ⟩
theorem obr_tau0 {k : Nat} {idx : List Nat} {τ : DS} {i : Nat} {c : Str} {fs : List (Str × D)} (e : (tau0 k idx τ)[i]? = some (some (.obr c fs))) : ∃ j, k ≤ i ∧ idx[i - k]? = some j ∧ ((∃ n, τ[j]? = some (some (.obj n c fs))) ∨ τ[j]? = some (some (.obr c fs))) := by
 unfold tau0 at e
 by_cases hi : i < k
 ·rw [List.getElem?_append_left (by simpa using hi), List.getElem?_replicate] at e
  simp [hi] at e
 ·rw [List.getElem?_append_right (by simpa using hi), List.getElem?_map] at e
  simp only [List.length_replicate] at e
  cases q : idx[i - k]? with
  | none => rw [q] at e; cases e
  | some j =>
   rw [q] at e
   simp only [Option.map_some, Option.some.injEq] at e
   unfold zF3 at e
   split at e <;> cases e
   ·exact ⟨j, by omega, rfl, .inr (by assumption)⟩
   ·exact ⟨j, by omega, rfl, .inl ⟨_, by assumption⟩⟩
theorem ObsOk.read {K : PySem.W.Frag} {F H : Hp} {τ : DS} {σ : St} (n : noOwn τ) (h : ∀ (i : Nat) (c : Str) (fs : List (Str × D)), τ[i]? = some (some (.obr c fs)) → ∃ a C dx vs, σ[i]? = some (some (.ref a)) ∧ H a = some (.ins C dx vs) ∧ PySem.W.nsIn K mainGlobals c = some (some (.ref C)) ∧ Flds K F H c fs vs) : ObsOk K F τ σ H :=
 ⟨fun i m c fs h => absurd h (n.2 i m c fs), fun i j m c c' fs a _ h => absurd h (n.2 i m c fs), h, fun i j m c c' fs a a' l _ h => absurd h (n.2 i m c fs), fun i j c ds a l _ h => absurd h (n.1 j ds)⟩
theorem RV.free_upd {K : PySem.W.Frag} {F H : Hp} {τ : DS} {σ : St} {p : Addr} {o : HO} (R : RV K F τ σ H) (n : noOwn τ) (hp : F p = none) (hl : H p = none ∨ ∃ vs, H p = some (.lst vs)) (hq : ∀ (i : Nat) (c : Str) (a : Addr), ObS τ[i]? c → σ[i]? = some (some (.ref a)) → p ∉ Lof H c a) (ho : ∀ a, o ≠ .own a := by intro _ h; cases h) : RV K F τ σ (upd H p o) :=
 ⟨fun b u e => by
  have : b ≠ p := fun z => by subst z; rw [hp] at e; cases e
  rw [zb3 this]; exact R.fh b u e, R.len, R.val, fun i es e => absurd e (n.1 i es), fun i j ds es a _ h => absurd h (n.1 i ds), R.tt.step (fun _ _ e => .inl e) (fun b o e n => by
  have : b ≠ p := fun z => by
   subst z
   rcases hl with z | ⟨vs, z⟩
   ·rw [z] at e; cases e
   ·rw [z] at e; cases e; exact n _ rfl
  rw [zb3 this]; exact e) (zz4 ho), R.ob.updL hl hq⟩
theorem RS.apart {K : PySem.W.Frag} {B Z F H : Hp} {τ : DS} {σ : St} {p : Addr} (R : RS K B Z F τ σ H) (n : noOwn τ) (hp : B p = none) : ∀ (i : Nat) (c : Str) (a : Addr), ObS τ[i]? c → σ[i]? = some (some (.ref a)) → p ∉ Lof H c a := fun i c a h e hm => by
 rcases h with ⟨m, fs, h⟩ | ⟨fs, h⟩
 ·exact n.2 i m c fs h
 ·obtain ⟨C, dx, vs, h1, h2⟩ := R.ro i c fs a h e
  rw [Lof.ins (R.bh _ _ h1)] at hm
  obtain ⟨ws, h3⟩ := h2 p hm
  rw [hp] at h3; cases h3
theorem RS.free_upd {K : PySem.W.Frag} {B Z F H : Hp} {τ : DS} {σ : St} {p : Addr} {vs : List V} (R : RS K B Z F τ σ H) (n : noOwn τ) (hb : B p = none) (hp : F p = none) (hl : H p = none ∨ ∃ vs, H p = some (.lst vs)) : RS K B Z F τ σ (upd H p (.lst vs)) :=
 ⟨R.rv.free_upd n hp hl (R.apart n hb), fun a o e => by
  have : a ≠ p := fun z => by subst z; rw [hb] at e; cases e
  rw [zb3 this]; exact R.bh a o e, R.zf, R.nb, fun i ds a h => absurd h (n.1 i ds), fun i m c fs a h => absurd h (n.2 i m c fs), fun a0 dx h1 h2 i m c fs h => absurd h (n.2 i (m + 1) c fs), R.ro⟩
theorem zW9 {K : PySem.W.Frag} {F H : Hp} {τ : DS} {σ : St} (k : Nat) (idx : List Nat) (R : RV K F τ σ H) : RV K F (tau0 k idx τ) (sig0 k idx σ) H := by
 refine ⟨R.fh, by simp [tau0, sig0], fun i d e => ?_, fun i es e => absurd e (zw9 k idx τ i es), fun i j ds es a _ h => absurd h (zw9 k idx τ i ds), R.tt, ObsOk.read (zo5 k idx τ) fun i c fs e => ?_⟩
 rotate_left
 ·obtain ⟨j, hk, hj, h⟩ := obr_tau0 e
  have es : ∀ v, σ[j]? = some (some v) → (sig0 k idx σ)[i]? = some (some v) := fun v h => by
   unfold sig0
   rw [List.getElem?_append_right (by simpa using hk), List.getElem?_map]
   simp [hj, h]
  rcases h with ⟨n, h⟩ | h
  ·obtain ⟨a, h1, C, dx, vs, h2, _, h4, h5, _⟩ := R.ob.at_ j n c fs h
   exact ⟨a, C, dx, vs, es _ h1, h2, h4, h5⟩
  ·obtain ⟨a, C, dx, vs, h1, h2, h4, h5⟩ := R.ob.rd j c fs h
   exact ⟨a, C, dx, vs, es _ h1, h2, h4, h5⟩
 unfold tau0 at e
 unfold sig0
 by_cases hi : i < k
 ·rw [List.getElem?_append_left (by simpa using hi), List.getElem?_replicate] at e
  simp [hi] at e
 ·rw [List.getElem?_append_right (by simpa using hi), List.getElem?_map] at e
  rw [List.getElem?_append_right (by simpa using hi), List.getElem?_map]
  simp only [List.length_replicate] at e ⊢
  cases q : idx[i - k]? with
  | none => rw [q] at e; cases e
  | some j =>
   rw [q] at e
   simp only [Option.map_some, Option.some.injEq] at e
   have : τ[j]? = some (some (.val d)) := by
    unfold zF3 at e
    split at e <;> cases e
    assumption
   obtain ⟨v, h1, h2⟩ := R.val j d this
   exact ⟨v, by simp [h1], h2⟩
theorem yh7 {K : PySem.W.Frag} {F H : Hp} {τ : DS} {σ : St} (k : Nat) (idx : List Nat) (R : RV K F τ σ H) : RS K H F F (tau0 k idx τ) (sig0 k idx σ) H :=
 ⟨zW9 k idx R, Hh.refl H, Same.refl F, fun a o e => .inl e, fun i ds a h => absurd h (zw9 k idx τ i ds), fun i m c fs a h => absurd h (zB7 k idx τ i m c fs), fun a0 dx h1 h2 i m c fs h => absurd h (zB7 k idx τ i (m + 1) c fs), fun i c fs a h e => by
  obtain ⟨a', C, dx, vs, h1, h2, _, h5⟩ := (zW9 k idx R).ob.rd i c fs h
  rw [e] at h1; cases h1
  exact ⟨C, dx, vs, h2, fun l hl => (h5.own hl).2⟩⟩
def zr3 (H : Hp) (p : Addr) : Hp := fun b => if b = p then none else H b
theorem zr2 (H : Hp) (p : Addr) : zr3 H p p = none := by unfold zr3; rw [if_pos rfl]
theorem zI8 {H : Hp} {p b : Addr} (h : b ≠ p) : zr3 H p b = H b := by unfold zr3; rw [if_neg h]
theorem zy3 (H : Hp) (p : Addr) (o : HO) : upd (zr3 H p) p o = upd H p o := by
 funext b; unfold upd zr3; split <;> rfl
theorem zA1 {F1 H1 F2 Hm F5 H5 : Hp} {acc : Addr} {ls : List V} (a : Ext F1 H1 F2 Hm) (hm : Hm acc = none) (b : Ext F2 (upd Hm acc (.lst ls)) F5 H5) : Ext F1 H1 F5 (zr3 H5 acc) ∧ F5 acc = none := by
 have hf5 : F5 acc = none := by
  cases q : F5 acc with
  | none => rfl
  | some o =>
   rcases b.nw acc o q with z | z
   ·rw [zc6 a.fh hm] at z; cases z
   ·rw [zb2] at z; cases z
 have h1 : H1 acc = none := zl5 a.hh hm
 have ha : H5 acc = some (.lst ls) := b.hh acc _ zb2
 refine ⟨⟨a.ff.trans b.ff, fun c o e => ?_, fun c o e => ?_, fun c o e => ?_, fun t => ?_⟩, hf5⟩
 ·have n : c ≠ acc := fun z => by subst z; rw [h1] at e; cases e
  rw [zI8 n]
  exact ((a.hh.trans (.of (zf7 hm))).trans b.hh) c o e
 ·have n : c ≠ acc := fun z => by subst z; rw [hf5] at e; cases e
  rw [zI8 n]; exact b.fh c o e
 ·rcases b.nw c o e with z | z
  ·exact a.nw c o z
  ·have n : c ≠ acc := fun z' => by subst z'; rw [zb2] at z; cases z
   rw [zb3 n] at z
   exact .inr (zl5 a.hh z)
 ·have t2 := b.tt ((a.tt t).step (F' := F2) (H' := upd Hm acc (.lst ls)) (fun _ _ e => .inl e) (fun c o e _ => by rw [zb3 (zc7 e hm)]; exact e) (zz4 fun _ z => nomatch z))
  exact t2.step (fun _ _ e => .inl e) (fun c o e n => by
   have : c ≠ acc := fun z => by subst z; rw [ha] at e; cases e; exact n _ rfl
   rw [zI8 this]; exact e) fun d a e => by
   unfold zr3 at e
   split at e
   ·cases e
   ·exact e
def FreeOk (scope : Scope) (N : List Str) : List Str → List Nat → Prop
 | [], [] => True
 | x :: xs, j :: js => N[j]? = some x ∧ scope.names.lookup x = some .free ∧ FreeOk scope N xs js
 | _, _ => False
theorem FreeOk.len {scope : Scope} {N : List Str} : ∀ {xs : List Str} {js : List Nat}, FreeOk scope N xs js → xs.length = js.length
 | [], [], _ => rfl
 | _ :: xs, _ :: js, h => by rw [List.length_cons, List.length_cons, FreeOk.len h.2.2]
theorem FreeOk.get {scope : Scope} {N : List Str} : ∀ {xs : List Str} {js : List Nat} {p j : Nat}, FreeOk scope N xs js → js[p]? = some j → ∃ x, xs[p]? = some x ∧ N[j]? = some x ∧ scope.names.lookup x = some .free
 | [], [], _, _, _, e => by simp at e
 | x :: xs, i :: js, 0, j, h, e => by simp at e; subst e; exact ⟨x, rfl, h.1, h.2.1⟩
 | x :: xs, i :: js, p + 1, j, h, e => by
  obtain ⟨y, h1, h2⟩ := FreeOk.get (p := p) h.2.2 (by simpa using e)
  exact ⟨y, by simpa using h1, h2⟩
def zx9 (osc scope : Scope) : Bool := (match scope.kind with | .function => true | _ => false) && scope.names.all (fun y => match y.2 with
 | .cell => false
 | .local => (match scope.names.lookup y.1 with | some .local => true | _ => false)
 | .free => (match osc.names.lookup y.1 with | some .cell => true | some .free => true | _ => false)
 | _ => true)
theorem zp3 {X : Cx} {scope : Scope} (h : zx9 X.env.scope scope = true) : zl7 X scope := by
 unfold zx9 at h
 rw [Bool.and_eq_true, List.all_eq_true] at h
 obtain ⟨h1, h2⟩ := h
 refine ⟨?_, fun y hy z => ?_, fun y hy z => ?_, fun y hy z => ?_⟩
 ·split at h1
  ·assumption
  ·cases h1
 ·have := h2 y hy; rw [z] at this; cases this
 ·have := h2 y hy; rw [z] at this
  simp only at this
  split at this
  ·assumption
  ·cases this
 ·have := h2 y hy; rw [z] at this
  simp only at this
  split at this
  ·left; assumption
  ·right; assumption
  ·cases this
def PDTs (Y : Cx) (ifs : List Expr) (f : FT) : Prop := PTs Y ifs (tTs Y f)
theorem zE1 {Y : Cx} : PDTs Y [] (fun _ => .ok true) := fun pins s σ H Q I ⟨F, τ, R, h⟩ => pts_nil pins s σ H Q I (h F H (Ext.refl R.fh))
theorem zN7 {Y : Cx} {c : Expr} {f : FT} (h : PDT Y c f) : PDTs Y [c] f := pts_one h
section
variable {X : Cx} {scope : Scope} {tn fr : List Str} {idx : List Nat} {tg iter elt : Expr} {ifs : List Expr} {pos : Pos} {fi : FA} {set : FG} {ft : FT} {fe : FE}
theorem zJ1 (so : SetOk set) {Y : Cx} (hK : Y.K = X.K) (σ : St) (H : Hp) (Q : VK) (h : tFr X (eComp tn.length idx fi set ft fe) σ H Q) : tComp (sig0 tn.length idx) (tI X fi) (tG Y set) (tTs Y ft) (tE Y fe) σ H Q := by
 obtain ⟨F, τ, R, h⟩ := h
 refine ⟨F, τ, R, h.bind.imp fun ds gds J F1 H1 x io => fun acc hacc => ?_⟩
 cases q : compL set ft fe (tau0 tn.length idx τ) ds with
 | no => rw [q] at gds; exact gds.elim
 | ex c => rw [q] at gds; exact gds.elim
 | ok xs =>
  rw [q] at gds
  obtain ⟨hz, k⟩ := zj4 gds
  have R1 := R.ext x
  have hF1 : F1 acc = none := zc6 x.fh hacc
  refine ⟨fun i m σ1 Hc => m = ds.length - i ∧ i ≤ ds.length ∧ ∃ F2 Hm τ1 dn rs vs, Ext F1 H1 F2 Hm ∧ Hm acc = none ∧ Hc = upd Hm acc (.lst vs) ∧ Reps X.K F2 dn vs ∧ RS X.K H1 F1 F2 τ1 σ1 Hc ∧ noOwn τ1 ∧ (∀ d, set d τ1 = set d (tau0 tn.length idx τ)) ∧
   compL set ft fe (tau0 tn.length idx τ) (ds.drop i) = .ok rs ∧ xs = dn ++ rs, ⟨ds.length, by simp, Nat.zero_le _, F1, H1, _, [], xs, [], Ext.refl x.fh, hacc, rfl, Reps.nil, ?_, zo5 _ _ _, fun _ => rfl, q, rfl⟩, ?_⟩
  ·exact (yh7 tn.length idx R1).free_upd (zo5 _ _ _) hacc hF1 (.inl hacc)
  rintro i m σ1 Hc ⟨rfl, hi, F2, Hm, τ1, dn, rs, vs, x2, hm, rfl, r2, R2, n2, so2, cl, ex⟩
  obtain ⟨i1, i2⟩ := io i F2 _ x2.ff R2.rv.fh
  by_cases hlt : i < ds.length
  ·have hd : ds.drop i = ds[i] :: ds.drop (i + 1) := List.drop_eq_getElem_cons hlt
   rw [hd, compL] at cl
   obtain ⟨go, yl⟩ := i2 ds[i] (by simp [hlt])
   refine .inr ⟨go, fun y H' yy => ?_⟩
   obtain ⟨F3, x3, r3⟩ := yl y H' yy
   refine ⟨F3, τ1, ds[i], by rw [hK]; exact (R2.ext x3).rv, by rw [hK]; exact r3, ?_⟩
   rw [so2]
   cases e1 : set ds[i] (tau0 tn.length idx τ) with
   | no => rw [e1] at cl; cases cl
   | ex c => rw [e1] at cl; cases cl
   | ok τ2 =>
    rw [e1] at cl
    simp only at cl
    intro σ2 _ RR _
    rw [hK] at RR
    have RR := RR _ _ (R2.ext x3)
    have n3 := so.no _ _ _ e1 (zo5 _ _ _)
    have so3 : ∀ d, set d τ2 = set d (tau0 tn.length idx τ) := fun d => so.ov d _ _ _ e1
    cases e2 : ft τ2 with
    | no => rw [e2] at cl; cases cl
    | ex c => rw [e2] at cl; cases cl
    | ok b =>
     rw [e2] at cl
     refine ⟨F3, τ2, by rw [hK]; exact RR.rv, ?_⟩
     rw [e2]
     intro F4 H4 x4
     have x34 := x3.trans x4
     cases b with
     | false =>
      simp only at cl
      rw [if_neg (by simp)]
      obtain ⟨y1, y2⟩ := zA1 x2 hm x34
      have ha : H4 acc = some (.lst vs) := x34.hh acc _ zb2
      have eH : H4 = upd (zr3 H4 acc) acc (.lst vs) := by
       rw [zy3]; funext b; unfold upd; split
       ·rename_i z; subst z; exact ha
       ·rfl
      refine ⟨ds.length - (i + 1), by omega, rfl, hlt, F4, zr3 H4 acc, τ2, dn, rs, vs, y1, zr2 _ _, eH, r2.mono x34.ff, RR.ext x4, n3, so3, cl, ex⟩
     | true =>
      simp only at cl
      rw [if_pos rfl]
      cases e3 : fe τ2 with
      | no => rw [e3] at cl; cases cl
      | ex c => rw [e3] at cl; cases cl
      | ok z =>
       rw [e3] at cl
       simp only at cl
       cases e4 : compL set ft fe (tau0 tn.length idx τ) (ds.drop (i + 1)) with
       | no => rw [e4] at cl; cases cl
       | ex c => rw [e4] at cl; cases cl
       | ok rs' =>
        rw [e4] at cl
        have ers : z :: rs' = rs := by simpa using cl
        refine ⟨F4, τ2, by rw [hK]; exact (RR.ext x4).rv, ?_⟩
        rw [e3]
        intro v F5 H5 x5 r5
        rw [hK] at r5
        have x35 := x34.trans x5
        obtain ⟨y1, y2⟩ := zA1 x2 hm x35
        refine ⟨vs, x35.hh acc _ zb2, ?_, ds.length - (i + 1), by omega, rfl, hlt, F5, zr3 H5 acc, τ2, dn ++ [z], rs', vs ++ [v], y1, zr2 _ _, by rw [zy3], (r2.mono x35.ff).append (Reps.cons r5 Reps.nil), ?_, n3, so3, e4, ?_⟩
        ·have := congrArg List.length ex
         rw [← ers, List.length_append, List.length_cons, r2.length] at this
         omega
        ·exact ((RR.ext x4).ext x5).free_upd n3 hacc y2 (.inr ⟨_, x35.hh acc _ zb2⟩)
        ·rw [ex, ← ers, List.append_assoc]; rfl
  ·have e : i = ds.length := by omega
   subst e
   rw [List.drop_length, compL] at cl
   cases cl
   rw [List.append_nil] at ex
   subst ex
   exact .inl ⟨i1 (Nat.le_refl _), k acc vs F2 Hm (x.trans x2) hm r2⟩
theorem zF6 (hfr : FreeOk scope X.N fr idx) (σ : St) (i : Nat) (v : V) (h : (sig0 tn.length idx σ)[i]? = some (some v)) : ∃ (x : Str) (j : Nat), (tn ++ fr)[i]? = some x ∧ X.N[j]? = some x ∧ σ[j]? = some (some v) ∧ scope.names.lookup x = some .free := by
 unfold sig0 at h
 by_cases hi : i < tn.length
 ·rw [List.getElem?_append_left (by simpa using hi), List.getElem?_replicate] at h
  simp [hi] at h
 ·rw [List.getElem?_append_right (by simpa using hi), List.getElem?_map] at h
  simp only [List.length_replicate] at h
  cases q : idx[i - tn.length]? with
  | none => rw [q] at h; cases h
  | some j =>
   rw [q] at h
   simp only [Option.map_some, Option.some.injEq] at h
   obtain ⟨x, h1, h2, h3⟩ := hfr.get q
   refine ⟨x, j, by rw [List.getElem?_append_right (by omega)]; exact h1, h2, ?_, h3⟩
   cases z : σ[j]? with
   | none => rw [z] at h; cases h
   | some o => rw [z] at h; simp at h; rw [h]
theorem zE4 (hb : zx9 X.env.scope scope = true) (hc : X.calm = true) (hfr : FreeOk scope X.N fr idx) (so : SetOk set) (hi : PDI X tg iter fi)
  (hg : ∀ s H C fp, PDG (X.comp scope (tn ++ fr) s H C fp) tg set) (ht : ∀ s H C fp, PDTs (X.comp scope (tn ++ fr) s H C fp) ifs ft) (he : ∀ s H C fp, PDE (X.comp scope (tn ++ fr) s H C fp) elt fe)
  (hs : ∀ x, foldedSetIterable iter X.env x = pure x := by intro _; rfl) : PDF X (.ListComp elt [⟨tg, iter, ifs, 0⟩] scope pos) (eComp tn.length idx fi set ft fe) :=
 PE.imp (yi5 (s0 := sig0 tn.length idx) (g := tG (X.comp scope (tn ++ fr) X.s₀ X.H₀ 0 []) set) (ti := tTs (X.comp scope (tn ++ fr) X.s₀ X.H₀ 0 []) ft) (te := tE (X.comp scope (tn ++ fr) X.s₀ X.H₀ 0 []) fe)
  (zp3 hb) hc (fun σ _ => by simp [sig0, hfr.len]) (zF6 hfr) hi hg ht he hs) (zJ1 so rfl)
theorem pds_comp {i : Nat} {y : Str} {py spos : Pos} (hN : X.N.Nodup) (hiN : X.N[i]? = some y) (hy : X.env.scope.names.lookup y = some .local)
  (hsw : swapsWith (.ListComp elt [⟨tg, iter, ifs, 0⟩] scope pos) (some (.Name y py)) spos.line X.env = pure true)
  (hb : zx9 X.env.scope scope = true) (hc : X.calm = true) (hfr : FreeOk scope X.N fr idx) (so : SetOk set) (hi : PDI X tg iter fi)
  (hg : ∀ s H C fp, PDG (X.comp scope (tn ++ fr) s H C fp) tg set) (ht : ∀ s H C fp, PDTs (X.comp scope (tn ++ fr) s H C fp) ifs ft) (he : ∀ s H C fp, PDE (X.comp scope (tn ++ fr) s H C fp) elt fe)
  (hs : ∀ x, foldedSetIterable iter X.env x = pure x := by intro _; rfl) : PDS X (.Assign [.Name y py] (.ListComp elt [⟨tg, iter, ifs, 0⟩] scope pos) spos) (sSet i fun τ => (eComp tn.length idx fi set ft fe τ).bind fun ds => .ok (.lst ds)) :=
 PS.imp (yh9 (s0 := sig0 tn.length idx) (g := tG (X.comp scope (tn ++ fr) X.s₀ X.H₀ 0 []) set) (ti := tTs (X.comp scope (tn ++ fr) X.s₀ X.H₀ 0 []) ft) (te := tE (X.comp scope (tn ++ fr) X.s₀ X.H₀ 0 []) fe) hN hiN hy hsw
  (zp3 hb) hc (fun σ _ => by simp [sig0, hfr.len]) (zF6 hfr) hi hg ht he hs) fun E σ H ⟨B, Z, F, τ, R, h⟩ => by
  refine zJ1 (X := X) (tn := tn) (idx := idx) (fi := fi) (ft := ft) (fe := fe) so (Y := X.comp scope (tn ++ fr) X.s₀ X.H₀ 0 []) rfl σ H (fun x H1 => gName i x σ H1 E.nx) ⟨F, τ, R.rv, ?_⟩
  have h' := h.of.bind
  refine h'.imp fun ds g p vs F1 H1 x hp r => ?_
  have x2 := x.trans (Ext.new (o := .lst vs) x.fh hp)
  refine g _ _ _ x2.ff ((R.ext x2).set ?_)
  simp only [Rep]
  exact ⟨p, vs, rfl, zb2, r.mono (zf7 (zc6 x.fh hp))⟩
theorem yi6 {i : Nat} {y : Str} {py spos : Pos} (hN : X.N.Nodup) (hiN : X.N[i]? = some y) (hy : X.env.scope.names.lookup y = some .local)
  (hsw : swapsWith (.ListComp elt [⟨tg, iter, ifs, 0⟩] scope pos) (some (.Name y py)) spos.line X.env = pure true)
  (hb : zx9 X.env.scope scope = true) (hc : X.calm = true) (hfr : FreeOk scope X.N fr idx) (so : SetOk set) (hi : PDI X tg iter fi)
  (hg : ∀ s H C fp, PDG (X.comp scope (tn ++ fr) s H C fp) tg set) (ht : ∀ s H C fp, PDTs (X.comp scope (tn ++ fr) s H C fp) ifs ft) (he : ∀ s H C fp, PDE (X.comp scope (tn ++ fr) s H C fp) elt fe)
  (hs : ∀ x, foldedSetIterable iter X.env x = pure x := by intro _; rfl) : PDS X (.Assign [.Name y py] (.ListComp elt [⟨tg, iter, ifs, 0⟩] scope pos) spos) (sSetO i (eComp tn.length idx fi set ft fe)) :=
 PS.imp (yh9 (s0 := sig0 tn.length idx) (g := tG (X.comp scope (tn ++ fr) X.s₀ X.H₀ 0 []) set) (ti := tTs (X.comp scope (tn ++ fr) X.s₀ X.H₀ 0 []) ft) (te := tE (X.comp scope (tn ++ fr) X.s₀ X.H₀ 0 []) fe) hN hiN hy hsw
  (zp3 hb) hc (fun σ _ => by simp [sig0, hfr.len]) (zF6 hfr) hi hg ht he hs) fun E σ H ⟨B, Z, F, τ, R, h⟩ => by
  refine zJ1 (X := X) (tn := tn) (idx := idx) (fi := fi) (ft := ft) (fe := fe) so (Y := X.comp scope (tn ++ fr) X.s₀ X.H₀ 0 []) rfl σ H (fun x H1 => gName i x σ H1 E.nx) ⟨F, τ, R.rv, ?_⟩
  exact h.of.imp fun ds g p vs F1 H1 x hp r => g _ F1 _ x.ff ((R.ext x).setO hp r)
end
structure Drw (prog : Program) (w : World) (A : Around) (i : Addr) (n : Nat) (P : Nat → Value → Prop) (st : Nat → Heap → Prop) (rd : Heap → Prop) : Prop where
 at_ : ∀ k h h', st k h → (∀ o, h.get? i = some o → h'.get? i = some o) → st k h'
 live : ∀ k h, st k h → ∃ o n, h.get? i = some o ∧ o.cls = .type n ∧ n ≠ "zip" ∧ n ≠ "tuple" ∧ ∀ v, o.data ≠ .cell v
 rdk : ∀ (h h' : Heap), rd h → (∀ b o, h.get? b = some o → o.cls = .type "list" → h'.get? b = some o) → rd h'
 item : ∀ k (s : Shared) (Q : Value → Shared → Prop) (E : Value → Shared → Prop), k < n → st k s.heap → rd s.heap →
  (∀ x h' tk, P k x → st (k + 1) h' → Heap.SameBut i s.heap h' → Q x { s with heap := h', toks := tk }) → wpAny (model prog w) A (Builtin.SmallTypes.nextOf (.ref i)) Q E s
 done : ∀ k (s : Shared) (Q : Value → Shared → Prop) (E : Value → Shared → Prop), n ≤ k → st k s.heap → rd s.heap →
  (∀ h' e, Heap.ExtBut i s.heap h' → (∃ o, h'.get? e = some o ∧ o.cls = .type "StopIteration") → E (.ref e) { s with heap := h' }) → wpAny (model prog w) A (Builtin.SmallTypes.nextOf (.ref i)) Q E s
theorem Drw.list {prog : Program} {w : World} {A : Around} (hh : A.handled = none) (i l : Addr) (items : Array Value) :
  Drw prog w A i items.size (fun k v => items[k]? = some v) (fun k h => h.IsListIter i l k) (fun h => h.IsList l items) where
 at_ := fun k h h' st hk => st.at hk
 live := fun k h ⟨o, e, c, d⟩ => ⟨o, _, e, c, by decide, by decide, fun v z => by rw [d] at z; cases z⟩
 rdk := fun h h' ⟨o, e, c, r⟩ hk => ⟨o, hk l o e c, c, r⟩
 item := fun k s Q E hk st rd hQ => wpAny_nextOf_list_item st rd (x := items[k]) (by simp [hk]) fun h' st' sb => hQ _ h' s.toks (by simp [hk]) st' sb
 done := fun k s Q E hk st rd hE => wpAny_nextOf_list_end hh st rd (by simp; omega) hE
theorem Drw.str {prog : Program} {w : World} {A : Around} (hh : A.handled = none) (i : Addr) (x : Str) (t : Tok) (ty : String) (hty : ty = "str_ascii_iterator" ∨ ty = "str_iterator") :
  Drw prog w A i x.cps.size (SignAt x) (fun k h => h.IsStrIter i ty x t k) (fun _ => True) where
 at_ := fun k h h' ⟨o, e, r⟩ hk => ⟨o, hk o e, r⟩
 live := fun k h ⟨o, e, c, d⟩ => ⟨o, ty, e, c, by rcases hty with rfl | rfl <;> decide, by rcases hty with rfl | rfl <;> decide, fun v z => by rw [d] at z; cases z⟩
 rdk := fun _ _ _ _ => trivial
 item := fun k s Q E hk st _ hQ => by
  rcases hty with rfl | rfl
  ·exact wpAny_nextOf_ascii_item st (c := x.cps[k]) (by simp [hk]) fun h' st' sb => hQ _ h' _ ⟨_, _, by simp [hk], rfl⟩ st' sb
  ·exact wpAny_nextOf_wide_item st (c := x.cps[k]) (by simp [hk]) fun h' st' sb => hQ _ h' _ ⟨_, _, by simp [hk], rfl⟩ st' sb
 done := fun k s Q E hk st _ hE => by
  rcases hty with rfl | rfl
  ·exact wpAny_nextOf_ascii_end hh st (by simp; omega) hE
  ·exact wpAny_nextOf_wide_end hh st (by simp; omega) hE
section
variable {prog : Program} {w : World} {A : Around} {E : Value → Shared → Prop} {s : Shared} {z TI TO i1 i2 : Addr} {n1 n2 : Nat} {P1 P2 : Nat → Value → Prop} {st1 st2 : Nat → Heap → Prop} {rd1 rd2 : Heap → Prop}
end
def signD (c : Nat) : D := .str ⟨#[c]⟩
def zL3 (x : Str) : List D := x.cps.toList.map signD
def Its (x : Str) : It := ⟨fun i _ => i < x.cps.size, fun i H y H' => H' = H ∧ ∃ c, x.cps[i]? = some c ∧ y = .str ⟨#[c]⟩, fun i _ => x.cps.size ≤ i⟩
theorem turn_str {P : Program} {w : World} {K : PySem.W.Frag} {tg : Expr} {it : Addr} {x : Str} {t : Tok} {ty : String} (hty : ty = "str_ascii_iterator" ∨ ty = "str_iterator") : Turn P w K tg (Its x) [it] it (fun k h => h.IsStrIter it ty x t k) where
 mem := by simp
 obj := fun i h ⟨o, e, c, d⟩ b hb => by
  have z : b = it := by simpa using hb
  subst z
  exact ⟨o, e, fun v z => by rw [d] at z; cases z⟩
 keep := fun i h h' ⟨o, e, r⟩ k => ⟨o, k it (by simp) o e, r⟩
 item := by
  intro X hP hw hK hc i pins s σ H E I hf st hg
  subst hP hw hK
  obtain ⟨f0, f1, f2, f3, f4, f5⟩ := hf it (by simp)
  have hh : X.A.handled = none := I.ok.hd hc
  have W : Walks X.prog X.w X.A it [it] [it] x.cps.size (SignAt x) (fun i h => h.IsStrIter it ty x t i) := by
   rcases hty with rfl | rfl
   ·exact Walks.strAscii hh it x t
   ·exact Walks.strWide hh it x t
  refine W.item i s _ _ hg st fun v h' tk hv st' kk => ?_
  obtain ⟨c, u, ec, rfl⟩ := hv
  have I1 : Inv X pins σ H { s with heap := h', toks := tk } := I.turned (fun b o hb e => kk b o (by simpa using hb) e) f0 f1 f3 f4 f5
  obtain ⟨o, e, cc, d⟩ := id st'
  exact ⟨_, rfl, go_of (s := { s with heap := h', toks := tk }) e cc d (by rcases hty with rfl | rfl <;> decide) ⟨.str ⟨#[c]⟩, H, I1, ⟨u, rfl⟩, ⟨rfl, c, ec, rfl⟩, st', fun b hb => (hf b hb).1⟩⟩
 done := by
  intro X hP hw hK hc i pins s σ H E I hf st hg
  subst hP hw hK
  obtain ⟨f0, f1, f2, f3, f4, f5⟩ := hf it (by simp)
  have hh : X.A.handled = none := I.ok.hd hc
  have hx : x.cps[i]? = none := by have : x.cps.size ≤ i := hg; simp; omega
  rcases hty with rfl | rfl
  ·exact wpAny_pyNext_ascii_end hh st hx fun h' eb => ⟨rfl, I.turned (t' := s.toks) (fun b o hb e => eb b o hb e) f0 f1 f3 f4 f5⟩
  ·exact wpAny_pyNext_wide_end hh st hx fun h' eb => ⟨rfl, I.turned (t' := s.toks) (fun b o hb e => eb b o hb e) f0 f1 f3 f4 f5⟩
 self := fun _ _ _ _ _ st h => by
  rcases hty with rfl | rfl
  ·exact wpAny_pyIter_striter_ascii st h
  ·exact wpAny_pyIter_striter_wide st h
section
variable {X : Cx} {pos : Pos} {e tg : Expr} {es : List Expr} {fe : FE} {fs : FA}
theorem it_str {K : PySem.W.Frag} {F1 : Hp} {x : Str} : ItOk K (Its x) F1 (zL3 x) := fun i F H f1 f2 => by
 have hl : (zL3 x).length = x.cps.size := by simp [zL3]
 refine ⟨fun h => by rw [hl] at h; exact h, fun d hd => ?_⟩
 have hi : i < x.cps.size := by have := (List.getElem?_eq_some_iff.mp hd).1; rw [hl] at this; exact this
 refine ⟨hi, fun y H' yy => ?_⟩
 obtain ⟨e1, c, ec, rfl⟩ := yy
 subst e1
 refine ⟨F, Ext.refl f2, ?_⟩
 have : d = signD c := by
  simp only [zL3, List.getElem?_map] at hd
  have e2 : x.cps.toList[i]? = some c := by simpa using ec
  rw [e2] at hd
  exact (Option.some.inj hd).symm
 subst this
 simp only [signD, Rep]
def Itd (hi : Int) (n : Nat) : It := ⟨fun i _ => i < n, fun i H x H' => H' = H ∧ x = .int (hi - i), fun i _ => n ≤ i⟩
theorem zW3 {P : Program} {w : World} {K : PySem.W.Frag} {tg : Expr} (it : Addr) (hi : Int) (n : Nat) : Turn P w K tg (Itd hi n) [it] it (fun i h => IsRangeIter h it (hi + (i : Nat) * (-1)) ((n : Int) - (i : Nat)) (-1)) where
 mem := by simp
 obj := fun i h st b hb => by
  have e : b = it := by simpa using hb
  subst e
  exact ⟨_, st, fun v z => by
   have z' : Data.fields _ = Data.cell v := z
   cases z'⟩
 keep := fun i h h' st k => k it (by simp) _ st
 item := by
  intro X hP hw hK hc i pins s σ H E I hf st hg
  subst hP hw hK
  obtain ⟨f0, f1, f2, f3, f4, f5⟩ := hf it (by simp)
  have W := Walks.range (prog := X.prog) (w := X.w) (I.ok.hd hc) it hi (-1) n
  refine W.item i s _ _ hg st fun v h' tk hv st' kk => ?_
  obtain ⟨t, rfl⟩ := hv
  have I1 : Inv X pins σ H { s with heap := h', toks := tk } := I.turned (fun b o hb e => kk b o (by simpa using hb) e) f0 f1 f3 f4 f5
  refine ⟨_, rfl, go_of (s := { s with heap := h', toks := tk }) (n := "range_iterator") st' rfl rfl (by decide) ⟨.int (hi - i), H, I1, ⟨t, ?_⟩, ⟨rfl, rfl⟩, st', fun b hb => (hf b hb).1⟩⟩
  congr 1
  omega
 done := by
  intro X hP hw hK hc i pins s σ H E I hf st hg
  subst hP hw hK
  obtain ⟨f0, f1, f2, f3, f4, f5⟩ := hf it (by simp)
  exact wpAny_pyNext_range_end (I.ok.hd hc) st (by have : n ≤ i := hg; omega) fun h' eb => ⟨rfl, I.turned (t' := s.toks) (fun b o hb e => eb b o hb e) f0 f1 f3 f4 f5⟩
 self := fun _ _ _ _ _ st h => wpAny_pyIter_rangeiter st h
end
section
variable {X : Cx} {pos : Pos} {e tg : Expr} {es : List Expr} {fe : FE} {fs : FA}
def len1 : D → Rs D
 | .lst ds => .ok (.int ds.length)
 | .tup ds => .ok (.int ds.length)
 | .scr ns => .ok (.int ns.length)
 | .str x => if x.length ≤ sizeLine then .ok (.int x.length) else .no
 | _ => .no
def lenD : List D → Rs D
 | [d] => len1 d
 | _ => .no
theorem zn4 : CallD X (.builtin "len") lenD := ⟨_, call_len_seq.or zV5, fun F H vs ds Q fh r h => by
 match ds, r, h with
 | [d], r, h =>
  obtain ⟨v, rfl, q⟩ := r.one
  cases d with
  | lst ds =>
   simp only [Rep] at q; obtain ⟨a, ws, rfl, e1, t⟩ := q
   refine .inl ⟨a, ws, rfl, .inl (SqL.of (fh _ _ e1)), ?_⟩
   rw [← t.length]; exact h _ F H (Ext.refl fh) (by simp only [Rep])
  | tup ds =>
   simp only [Rep] at q; obtain ⟨a, ws, rfl, e1, t⟩ := q
   refine .inl ⟨a, ws, rfl, .inr (Same.seqT fh e1), ?_⟩
   rw [← t.length]; exact h _ F H (Ext.refl fh) (by simp only [Rep])
  | scr ns =>
   simp only [Rep] at q; obtain ⟨a, rfl, e1⟩ := q
   refine .inl ⟨a, _, rfl, .inl (fh.seq e1), ?_⟩
   rw [List.length_map]; exact h _ F H (Ext.refl fh) (by simp only [Rep])
  | str x =>
   simp only [Rep] at q; subst q
   obtain ⟨z, h⟩ := zj4 h
   exact .inr ⟨x, rfl, z, h _ F H (Ext.refl fh) (by simp only [Rep])⟩
  | _ => exact h.elim
 | [], _, h => exact h.elim
 | _ :: _ :: _, _, h => exact (show False from h).elim⟩
def min2D (ds : List D) : Rs D := match int2 ds with
 | some (i, j) => .ok (.int (if j < i then j else i))
 | none => .no
def max2D (ds : List D) : Rs D := match int2 ds with
 | some (i, j) => .ok (.int (if j > i then j else i))
 | none => .no
theorem zZ3 (hc : X.calm = true) : CallD X (.builtin "min") min2D := ⟨_, yo5 hc, fun F H vs ds Q fh r h => by
 unfold min2D at h
 cases q : int2 ds with
 | none => rw [q] at h; exact h.elim
 | some ij =>
  obtain ⟨i, j⟩ := ij
  rw [q] at h
  have e := zY5 q
  subst e
  obtain ⟨v, w, rfl, r1, r2⟩ := r.two
  simp only [Rep] at r1 r2; subst r1; subst r2
  exact ⟨i, j, rfl, h _ F H (Ext.refl fh) (by simp only [Rep])⟩⟩
theorem cd_max2 (hc : X.calm = true) : CallD X (.builtin "max") max2D := ⟨_, yo6 hc, fun F H vs ds Q fh r h => by
 unfold max2D at h
 cases q : int2 ds with
 | none => rw [q] at h; exact h.elim
 | some ij =>
  obtain ⟨i, j⟩ := ij
  rw [q] at h
  have e := zY5 q
  subst e
  obtain ⟨v, w, rfl, r1, r2⟩ := r.two
  simp only [Rep] at r1 r2; subst r1; subst r2
  exact ⟨i, j, rfl, h _ F H (Ext.refl fh) (by simp only [Rep])⟩⟩
theorem zx2 (a b : Int) : Builtin.Range.rangeSize a b (-1) = ((a - b).toNat : Int) := by
 unfold Builtin.Range.rangeSize
 rw [if_neg (by decide)]
 by_cases h : a > b
 ·rw [if_pos h, show (- -1 : Int) = 1 from rfl, Int.ediv_one]; omega
 ·rw [if_neg h]; omega
theorem yd8 {a b : Int} (ha : -(2 ^ 62) ≤ a) (ha' : a < 2 ^ 62) (hb : -(2 ^ 62) ≤ b) (hb' : b < 2 ^ 62) : Builtin.Range.small a b (-1) = true := by
 unfold Builtin.Range.small
 rw [zx2]
 simp only [Builtin.Range.rangeFitsLong, Bool.and_eq_true, Bool.or_eq_true, decide_eq_true_eq, beq_iff_eq, show ¬ (-1 : Int) > 0 by decide, if_false]
 omega
def iRngD (ta : TA) : TI := fun σ H R => ta σ H fun vs H1 => ∃ i j : Int, vs = [.int i, .int j, .int (-1)] ∧ (-(2 ^ 62) ≤ i ∧ i < 2 ^ 62 ∧ -(2 ^ 62) ≤ j ∧ j < 2 ^ 62) ∧ R (Itd i (i - j).toNat) H1
theorem yi1 {a b c : Expr} {ta : TA} {p pos : Pos} (hg : Gl X "range") (hm : X.mg "range" = none) (ha : PA X [a, b, c] ta) (hs : starEach [a, b, c] X.env = [(false, eval a X.env), (false, eval b X.env), (false, eval c X.env)] := by rfl) (hs2 : starEach [b, c] X.env = [(false, eval b X.env), (false, eval c X.env)] := by rfl) :
  PI X tg (.Call (.Name "range" p) [a, b, c] [] pos) (iRngD ta) := by
 intro pins s σ H R I h
 refine Call_ (zC8 I hg hm boot_range (PyProof.Rows.callWith_type1 (thn (ha pos pins s σ H _ I h) fun us s1 ⟨vs, H1, I1, r1, q1⟩ => ?_) (by rw [hs, hs2]) (by rw [hs2]; rfl)))
 obtain ⟨i, j, e, ⟨q1, q2, q3, q4⟩, q⟩ := q1
 subst e
 cases r1 with
 | cons r rr =>
  cases rr with
  | cons r' rr =>
   cases rr with
   | cons r'' rr =>
    cases rr
    obtain ⟨t, rfl⟩ := r
    obtain ⟨t', rfl⟩ := r'
    obtain ⟨t'', rfl⟩ := r''
    refine call_range_3 (by decide) ?_ (.inl (PyProof.noPylong_small (by decide)))
    have I2 : Inv X pins σ H1 { s1 with heap := s1.heap.push { cls := .type "range", data := .fields #[.int i t, .int j t', .int (-1) t''] }, toks := s1.toks } := I1.kept fun b o e => Heap.get?_push_of_some _ e
    refine wpAny_pyIter_range (IsRange.new ..) (yd8 q1 q2 q3 q4) ?_
    refine ⟨(s1.heap.push { cls := .type "range", data := .fields #[.int i t, .int j t', .int (-1) t''] }).objs.size, [(s1.heap.push { cls := .type "range", data := .fields #[.int i t, .int j t', .int (-1) t''] }).objs.size], _, _, H1, rfl,
     I2.kept (t' := s1.toks) fun b o e => Heap.get?_push_of_some _ e, zW3 _ i (i - j).toNat, ?_, fun b hb => ?_, q⟩
    ·have e1 : i + ((0 : Nat) : Int) * (-1) = i := by simp
     have e2 : (((i - j).toNat : Nat) : Int) - ((0 : Nat) : Int) = Builtin.Range.rangeSize i j (-1) := by rw [zx2]; omega
     show IsRangeIter _ _ (i + ((0 : Nat) : Int) * (-1)) ((((i - j).toNat : Nat) : Int) - ((0 : Nat) : Int)) (-1)
     rw [e1, e2]
     exact Heap.get?_push_size _ rfl
    ·have e : b = (s1.heap.push { cls := .type "range", data := .fields #[.int i t, .int j t', .int (-1) t''] }).objs.size := by simpa using hb
     subst e
     exact I2.fpOk (Nat.le_refl _) (I2.hok.fresh (Nat.le_refl _))
def rngDn (hi : Int) (n : Nat) : List D := (List.range n).map fun (k : Nat) => D.int (hi - k)
theorem it_rngD {K : PySem.W.Frag} {F1 : Hp} {lo : Int} {n : Nat} : ItOk K (Itd lo n) F1 (rngDn lo n) := fun i F H f1 f2 => by
 have hl : (rngDn lo n).length = n := by simp [rngDn]
 refine ⟨fun h => by rw [hl] at h; exact h, fun d hd => ?_⟩
 have hi : i < n := by have := (List.getElem?_eq_some_iff.mp hd).1; rw [hl] at this; exact this
 refine ⟨hi, fun x H' y => ?_⟩
 obtain ⟨e1, y⟩ := y
 subst e1
 refine ⟨F, Ext.refl f2, ?_⟩
 simp [rngDn, hi] at hd
 subst hd
 simp only [Rep]; exact y
def int3d : List D → Option (Int × Int)
 | [.int i, .int j, .int (-1)] => some (i, j)
 | _ => none
theorem int3d_eq {ds : List D} {i j : Int} (h : int3d ds = some (i, j)) : ds = [.int i, .int j, .int (-1)] := by
 unfold int3d at h; split at h <;> cases h; rfl
def iRg3 (fs : FA) : FA := fun τ => (fs τ).bind fun ds => match int3d ds with
 | some (i, j) => if (-(2 ^ 62) ≤ i ∧ i < 2 ^ 62) ∧ -(2 ^ 62) ≤ j ∧ j < 2 ^ 62 then .ok (rngDn i (i - j).toNat) else .no
 | none => .no
theorem zL5 {a b c : Expr} {p : Pos} (hg : Gl X "range") (hm : X.mg "range" = none) (ha : PDA X [a, b, c] fs) (hs : starEach [a, b, c] X.env = [(false, eval a X.env), (false, eval b X.env), (false, eval c X.env)] := by rfl) (hs2 : starEach [b, c] X.env = [(false, eval b X.env), (false, eval c X.env)] := by rfl) :
  PDI X tg (.Call (.Name "range" p) [a, b, c] [] pos) (iRg3 fs) :=
 PI.imp (yi1 hg hm ha hs hs2) fun σ H R ⟨F, τ, Rv, h⟩ => tAs.of Rv h.bind fun ds vs F1 H1 g x R1 r => by
  cases q1 : int3d ds with
  | none => rw [q1] at g; exact g.elim
  | some ij =>
   obtain ⟨i, j⟩ := ij
   rw [q1] at g
   have e := int3d_eq q1
   subst e
   simp only [Reps] at r
   obtain ⟨v, r1, e1, q, w, r2, e2, q', u, r3, e3, q'', e4⟩ := r
   simp only [Rep] at q q' q''; subst q q' q'' e4 e3 e2 e1
   obtain ⟨z, g⟩ := zj4 g
   exact ⟨i, j, rfl, ⟨z.1.1, z.1.2, z.2.1, z.2.2⟩, g _ F1 H1 x it_rngD⟩
def MtD (X : Cx) (id : String) (g : D → List D → Rs D) : Prop := ∃ r, MtR X id r ∧ ∀ F H v vs d ds Q, Same F H → Rep X.K F d v → Reps X.K F ds vs → Ok X (g d ds) (Ev X.K F H Q) → r v vs H Q
def isTy (T : String) : D → Bool
 | .str _ => T = "str"
 | .int _ => T = "int"
 | .lst _ => T = "list"
 | .scr _ => T = "list"
 | _ => false
def eMt0 (T : String) (g : D → List D → Rs D) (fo : FE) : FE := fun τ => (fo τ).bind fun d => if isTy T d = true then g d [] else .no
theorem tyV_of {F H : Hp} {d : D} {v : V} {T : String} (fh : Same F H) (r : Rep X.K F d v) (h : isTy T d = true) : tyV X.K T v H := by
 cases d with
 | str x => simp only [Rep] at r; subst r; show T = "str"; simpa [isTy] using h
 | int x => simp only [Rep] at r; subst r; show T = "int"; simpa [isTy] using h
 | lst ds => simp only [Rep] at r; obtain ⟨a, vs, rfl, e, t⟩ := r; exact .inl ⟨by simpa [isTy] using h, vs, SqL.of (fh _ _ e)⟩
 | scr ds => simp only [Rep] at r; obtain ⟨a, rfl, e⟩ := r; exact .inl ⟨by simpa [isTy] using h, _, fh.seq e⟩
 | _ => simp [isTy] at h
theorem ok_if {X : Cx} {α : Type} {c : Prop} [Decidable c] {r : Rs α} {P : α → Prop} (h : Ok X (if c then r else .no) P) : c ∧ Ok X r P := by
 by_cases z : c
 ·rw [if_pos z] at h; exact ⟨z, h⟩
 ·rw [if_neg z] at h; exact h.elim
theorem yj1 {T id : String} {name : Str} {o : Expr} {apos cpos : Pos} {fo : FE} {g : D → List D → Rs D} (pa : PlainAttrs T) (slot : Slot T name id) (hty : typeOf (.builtin id) = pure (.type "method_descriptor")) (hm : MtD X id g) (ho : PDE X o fo)
  (hbase : attributeBase o name X.env (eval o X.env) = eval o X.env := by rfl) (hline : (apos.endLine == cpos.line) = true := by rfl) : PDE X (.Call (.Attribute o name apos) [] [] cpos) (eMt0 T g fo) := by
 obtain ⟨r, h1, h2⟩ := hm
 exact PE.imp (pe_bm0 pa slot hty h1 ho hbase hline) fun σ H Q ⟨Fz, τ, R, h⟩ => tE.of R h.bind fun d v F1 H1 q x R1 rr => by
  obtain ⟨z, q⟩ := ok_if q
  exact ⟨tyV_of R1.fh rr z, h2 F1 H1 v [] d [] Q R1.fh rr Reps.nil (q.imp fun d e => e.ext x)⟩
def upD : D → List D → Rs D
 | .str x, [] => if x.length ≤ 5000000 then .ok (.str (Txt.upper x)) else .no
 | _, _ => .no
def loD : D → List D → Rs D
 | .str x, [] => if x.length ≤ 5000000 then .ok (.str (Txt.lower x)) else .no
 | _, _ => .no
theorem mt_up : MtR X "str.upper" (fun v vs H Q => ∃ x, v = .str x ∧ vs = [] ∧ x.length ≤ 5000000 ∧ Q (.str (Txt.upper x)) H) := by
 intro pins s σ H v vs u us Q I r rs h
 obtain ⟨x, rfl, rfl, hx, q⟩ := h
 obtain ⟨t, rfl⟩ := r
 cases rs
 exact SC.upper (fit_upper (by omega)) ⟨.str (Txt.upper x), H, I.tok _, ⟨_, rfl⟩, q⟩
theorem mt_lo : MtR X "str.lower" (fun v vs H Q => ∃ x, v = .str x ∧ vs = [] ∧ x.length ≤ 5000000 ∧ Q (.str (Txt.lower x)) H) := by
 intro pins s σ H v vs u us Q I r rs h
 obtain ⟨x, rfl, rfl, hx, q⟩ := h
 obtain ⟨t, rfl⟩ := r
 cases rs
 exact SC.lower (fit_lower (by omega)) ⟨.str (Txt.lower x), H, I.tok _, ⟨_, rfl⟩, q⟩
theorem md_up : MtD X "str.upper" upD := ⟨_, mt_up, fun F H v vs d ds Q fh r rs h => by
 cases d with
 | str x =>
  cases ds with
  | nil =>
   simp only [Rep] at r; subst r
   simp only [Reps] at rs; subst rs
   obtain ⟨z, h⟩ := zj4 h
   exact ⟨x, rfl, rfl, z, h _ F H (Ext.refl fh) (by simp only [Rep])⟩
  | cons a b => exact h.elim
 | _ => cases ds <;> exact h.elim⟩
theorem md_lo : MtD X "str.lower" loD := ⟨_, mt_lo, fun F H v vs d ds Q fh r rs h => by
 cases d with
 | str x =>
  cases ds with
  | nil =>
   simp only [Rep] at r; subst r
   simp only [Reps] at rs; subst rs
   obtain ⟨z, h⟩ := zj4 h
   exact ⟨x, rfl, rfl, z, h _ F H (Ext.refl fh) (by simp only [Rep])⟩
  | cons a b => exact h.elim
 | _ => cases ds <;> exact h.elim⟩
theorem yi9 {o : Expr} {apos cpos : Pos} {fo : FE} (ho : PDE X o fo) (hbase : attributeBase o "upper" X.env (eval o X.env) = eval o X.env := by rfl) (hline : (apos.endLine == cpos.line) = true := by rfl) : PDE X (.Call (.Attribute o "upper" apos) [] [] cpos) (eMt0 "str" upD fo) :=
 yj1 F.plainAttrs_str F.slot_str_upper F.type_str_upper md_up ho hbase hline
theorem yj2 {o : Expr} {apos cpos : Pos} {fo : FE} (ho : PDE X o fo) (hbase : attributeBase o "lower" X.env (eval o X.env) = eval o X.env := by rfl) (hline : (apos.endLine == cpos.line) = true := by rfl) : PDE X (.Call (.Attribute o "lower" apos) [] [] cpos) (eMt0 "str" loD fo) :=
 yj1 F.plainAttrs_str F.slot_str_lower F.type_str_lower md_lo ho hbase hline
end
section
variable {X : Cx} {pos : Pos} {e tg : Expr} {es : List Expr} {fe : FE} {fs : FA}
end
section
variable {X : Cx} {pos : Pos} {e tg : Expr} {es : List Expr} {fe : FE} {fs : FA}
def rSlS : V → Option Int → Option Int → Hp → VK → Prop := fun x lo hi H Q => ∃ z, x = .str z ∧ z.length ≤ sizeLine ∧ Q (.str (Txt.slice z lo hi)) H
theorem sl_str : SlR X rSlS := by
 intro pins s σ H x v vl vu lo hi sl Q I rx hs pl pu h
 obtain ⟨z, rfl, hz, q⟩ := h
 obtain ⟨t, rfl⟩ := rx
 refine ⟨"str", _, F.slot_str_getitem.lookup, typeIs_str _ _ _, ?_⟩
 obtain ⟨o, e, c, d⟩ := hs
 have fin : ∀ t' k, EP X pins σ Q (.str (Txt.slice z lo hi) t') { s with toks := k } := fun t' k => ⟨.str _, H, I.tok _, ⟨_, rfl⟩, q⟩
 have hl := Nat.le_trans (Txt.slice_le z lo hi) hz
 cases pl with
 | none =>
  cases pu with
  | none => exact wpAny_getItem_str_slice (l := none) (u := none) (st := none) ⟨o, e, c, d⟩ rfl (post_val_or_str ⟨hl, fin⟩)
  | int j uj => exact wpAny_getItem_str_slice (l := none) (u := some (j, uj)) (st := none) ⟨o, e, c, d⟩ rfl (post_val_or_str ⟨hl, fin⟩)
 | int i ui =>
  cases pu with
  | none => exact wpAny_getItem_str_slice (l := some (i, ui)) (u := none) (st := none) ⟨o, e, c, d⟩ rfl (post_val_or_str ⟨hl, fin⟩)
  | int j uj => exact wpAny_getItem_str_slice (l := some (i, ui)) (u := some (j, uj)) (st := none) ⟨o, e, c, d⟩ rfl (post_val_or_str ⟨hl, fin⟩)
def cutD (xs : List D) (lo hi : Option Int) : List D := (xs.drop (HT.sIx xs.length 0 lo)).take (HT.sIx xs.length xs.length hi - HT.sIx xs.length 0 lo)
def slD (d : D) (lo hi : Option Int) : Rs D := match d with
 | .str x => if x.length ≤ sizeLine then .ok (.str (Txt.slice x lo hi)) else .no
 | .lst ds => .ok (.lst (cutD ds lo hi))
 | _ => .no
abbrev FO := DS → Rs (Option Int)
def oNone : FO := fun _ => .ok none
def oSome (fe : FE) : FO := fun τ => (fe τ).bind fun d => match d with
 | .int i => .ok (some i)
 | _ => .no
def tOs (X : Cx) (f : FO) : TO := fun σ H Q => ∃ F τ, RV X.K F τ σ H ∧ Ok X (f τ) fun o => ∀ F' H', Ext F H F' H' → Q o H'
def PDO (X : Cx) (e : Option Expr) (f : FO) : Prop := PO X e (tOs X f)
theorem PO.imp {e : Option Expr} {t t' : TO} (h : PO X e t) (f : ∀ σ H Q, t' σ H Q → t σ H Q) : PO X e t' := fun pins s σ H Q I q => h pins s σ H Q I (f _ _ _ q)
theorem pdo_none : PDO X none oNone := PO.imp po_none fun σ H Q ⟨F, τ, R, h⟩ => h F H (Ext.refl R.fh)
theorem zO1 (h : PDE X e fe) : PDO X (some e) (oSome fe) := PO.imp (po_some h) fun σ H Q ⟨F, τ, R, h⟩ => tE.of R h.bind fun d v F1 H1 g x R1 r => by
 cases d with
 | int i => simp only [Rep] at r; exact ⟨i, r, g F1 H1 x⟩
 | _ => exact g.elim
def eSl (fe : FE) (fl fh : FO) : FE := fun τ => (fe τ).bind fun d => (fl τ).bind fun l => (fh τ).bind fun u => slD d l u
theorem pde_sl {lo hi : Option Expr} {fl fh : FO} {p2 : Pos} (he : PDE X e fe) (hl : PDO X lo fl) (hu : PDO X hi fh) : PDE X (.Subscript e (.Slice lo hi none p2) pos) (eSl fe fl fh) :=
 PE.imp (pe_slice (sl_str.or sl_list) he hl hu) fun σ H Q ⟨F, τ, R, h⟩ => tE.of R h.bind fun d v F1 H1 g x R1 r => by
  refine ⟨F1, τ, R1, g.bind.imp fun l gl F2 H2 x2 => ⟨F2, τ, R1.ext x2, gl.bind.imp fun u gu F3 H3 x3 => ?_⟩⟩
  have f3 := x3.fh
  have x13 := x.trans (x2.trans x3)
  cases d with
  | str z =>
   simp only [Rep] at r
   obtain ⟨zz, gu⟩ := zj4 gu
   exact .inl ⟨z, r, zz, gu _ F3 H3 x13 (by simp only [Rep])⟩
  | lst ds =>
   simp only [Rep] at r; obtain ⟨a, vs, rfl, e1, t⟩ := r
   have gu : Ev X.K F H Q (.lst (cutD ds l u)) := gu
   refine .inr ⟨a, vs, rfl, SqL.of (f3 _ _ (x3.ff _ _ (x2.ff _ _ e1))), fun p hp => gu _ _ _ (x13.trans (Ext.new f3 hp)) ?_⟩
   simp only [Rep]
   refine ⟨p, _, rfl, zb2, ?_⟩
   have t3 : Reps X.K F3 (cutD ds l u) (cutV vs l u) := by
    unfold cutD cutV
    rw [← t.length]
    exact ((t.mono (x2.ff.trans x3.ff)).drop _).take _
   exact t3.mono (zf7 (zc6 f3 hp))
  | _ => exact gu.elim
theorem zL2 {K : PySem.W.Frag} {F : Hp} : ∀ (cs : List Nat), Reps K F (cs.map signD) (cs.map fun c => V.str ⟨#[c]⟩)
 | [] => Reps.nil
 | c :: r => Reps.cons (by simp only [signD, Rep]) (zL2 r)
theorem yf3 (hc : X.calm = true) : CallR X (.type "list") (fun vs H Q => ∃ x, vs = [.str x] ∧ x.cps.size ≤ sizeLine ∧ ∀ l, H l = none → Q (.ref l) (upd H l (.lst (x.cps.toList.map fun c => V.str ⟨#[c]⟩)))) := by
 intro pins s σ H vs us Q I r h
 obtain ⟨x, rfl, hz, q⟩ := h
 obtain ⟨u, rfl, t, rfl⟩ := vals1 r
 refine call_list_str (I.ok.hd hc) x t (fun h' tk acc' c' hk hS' hacc => ?_) hz
 obtain ⟨hsz, hat⟩ := hacc
 have rel : Vals (x.cps.toList.map fun c => V.str ⟨#[c]⟩) acc'.toList := by
  have gen : ∀ (cs : List Nat) (us : List Value), us.length = cs.length → (∀ (j : Nat) (v : Value), us[j]? = some v → ∃ c u, cs[j]? = some c ∧ v = .str ⟨#[c]⟩ u) → Vals (cs.map fun c => V.str ⟨#[c]⟩) us := by
   intro cs
   induction cs with
   | nil => intro us hl _; cases us with
    | nil => exact .nil
    | cons a b => simp at hl
   | cons c r ih =>
    intro us hl ha
    cases us with
    | nil => simp at hl
    | cons a b =>
     obtain ⟨c', u, e1, e2⟩ := ha 0 a rfl
     have e1 : c = c' := by simpa using e1
     subst e1
     exact .cons ⟨u, e2⟩ (ih b (by simpa using hl) fun j v hj => by simpa using ha (j + 1) v (by simpa using hj))
  refine gen _ _ (by simp [hsz]) fun j v hj => ?_
  obtain ⟨c, u, e1, e2⟩ := hat j v (by simpa using hj)
  exact ⟨c, u, by simpa using e1, e2⟩
 refine ⟨.ref s.heap.objs.size, _, I.laid (t' := tk) hk (Nat.le_refl _) (o := .lst (x.cps.toList.map fun c => V.str ⟨#[c]⟩)) ⟨by simpa using hz, acc'.toList, c', rel, by simpa using hS'⟩, rfl, q _ (I.hok.fresh (Nat.le_refl _))⟩
def listD (ds : List D) : Rs D := match ds with
 | [d] => match d with
  | .str x => if x.cps.size ≤ sizeLine then .ok (.lst (zL3 x)) else .no
  | .lst xs => .ok (.lst xs)
  | .tup xs => .ok (.lst xs)
  | .scr ns => .ok (.lst (ns.map .int))
  | _ => .no
 | _ => .no
theorem cd_list (hc : X.calm = true) : CallD X (.type "list") listD := ⟨_, (yf3 hc).or zD2, fun F H vs ds Q fh r h => by
 cases ds with
 | nil => exact h.elim
 | cons d r2 =>
  cases r2 with
  | cons a b => exact h.elim
  | nil =>
   obtain ⟨v, rfl, q⟩ := r.one
   cases d with
   | str x =>
    simp only [Rep] at q; subst q
    obtain ⟨z, h⟩ := zj4 h
    refine .inl ⟨x, rfl, z, fun l hl => h _ _ _ (Ext.new fh hl) ?_⟩
    simp only [Rep]
    exact ⟨l, _, rfl, zb2, zL2 _⟩
   | lst xs =>
    simp only [Rep] at q; obtain ⟨a, ws, rfl, e, t⟩ := q
    have h : Ev X.K F H Q (.lst xs) := h
    refine .inr ⟨a, ws, rfl, .inl (SqL.of (fh _ _ e)), fun l hl => h _ _ _ (Ext.new fh hl) ?_⟩
    simp only [Rep]
    exact ⟨l, _, rfl, zb2, t.mono (zf7 (zc6 fh hl))⟩
   | tup xs =>
    simp only [Rep] at q; obtain ⟨a, ws, rfl, e, t⟩ := q
    have h : Ev X.K F H Q (.lst xs) := h
    refine .inr ⟨a, ws, rfl, .inr (Same.seqT fh e), fun l hl => h _ _ _ (Ext.new fh hl) ?_⟩
    simp only [Rep]
    exact ⟨l, _, rfl, zb2, t.mono (zf7 (zc6 fh hl))⟩
   | scr ns =>
    simp only [Rep] at q; obtain ⟨a, rfl, e⟩ := q
    have h : Ev X.K F H Q (.lst (ns.map .int)) := h
    refine .inr ⟨a, _, rfl, .inl (fh.seq e), fun l hl => h _ _ _ (Ext.new fh hl) ?_⟩
    simp only [Rep]
    exact ⟨l, _, rfl, zb2, Reps.ints ns⟩
   | _ => exact h.elim⟩
theorem pde_gl {x : Str} {v : V} {u : Value} {d : D} (hg : Gl X x) (hm : X.mg x = some u) (r : RelV v u) (rd : ∀ F, Rep X.K F d v) (hd : (x == ("__debug__" : Str)) = false := by decide) : PDE X (.Name x pos) (eC d) := pde_c (pe_glob hg hm r hd) rd
theorem zs0 {x : Str} {y : Str} {t : Tok} (hg : Gl X x) (hm : X.mg x = some (.str y t)) (hd : (x == ("__debug__" : Str)) = false := by decide) : PDE X (.Name x pos) (eC (.str y)) := pde_gl (v := .str y) hg hm ⟨t, rfl⟩ (fun _ => by simp only [Rep]) hd
theorem zv0 {x : Str} {y : Int} {t : Tok} (hg : Gl X x) (hm : X.mg x = some (.int y t)) (hd : (x == ("__debug__" : Str)) = false := by decide) : PDE X (.Name x pos) (eC (.int y)) := pde_gl (v := .int y) hg hm ⟨t, rfl⟩ (fun _ => by simp only [Rep]) hd
end
section
variable {X : Cx} {pos : Pos} {e tg : Expr} {es : List Expr} {fe : FE} {fs : FA}
def iAnyT (K : PySem.W.Frag) (tl : TE) : TI := fun σ H R => tl σ H fun x H1 => (∃ a, x = .ref a ∧ (∃ xs, SqL K H1 a xs) ∧ R (Itl K a) H1) ∨ (∃ a, x = .ref a ∧ (∃ xs, SqT K H1 a xs) ∧ R (Itt K a) H1) ∨ ∃ z, x = .str z ∧ R (Its z) H1
theorem pi_any {l : Expr} {tl : TE} (hl : PE X l tl) : PI X tg l (iAnyT X.K tl) := by
 intro pins s σ H R I h
 refine thn (hl pins s σ H _ I h) fun v s1 ⟨x, H1, I1, r1, q1⟩ => ?_
 rcases q1 with ⟨a, e, ⟨xs, hq⟩, q⟩ | ⟨a, e, ⟨xs, hq⟩, q⟩ | ⟨z, e, q⟩
 ·subst e
  cases r1
  obtain ⟨its, rv, p, hz⟩ := I1.list hq
  refine wpAny_pyIter_list p.isList ?_
  refine ⟨s1.heap.objs.size, [s1.heap.objs.size], _, _, H1, rfl, I1.kept (t' := s1.toks) fun b o e => Heap.get?_push_of_some _ e, zR9 a _, ⟨_, Heap.get?_push_size _ rfl, rfl, rfl⟩, fun b hb => ?_, q⟩
  have e : b = s1.heap.objs.size := by simpa using hb
  subst e
  exact I1.fpOk (Nat.le_refl _) (I1.hok.fresh (Nat.le_refl _))
 ·subst e
  cases r1
  obtain ⟨its, rv, p, hz⟩ := I1.tuple hq
  refine wpAny_pyIter_tuple (show s1.heap.IsTuple a its.toArray from p) ?_
  refine ⟨s1.heap.objs.size, [s1.heap.objs.size], _, _, H1, rfl, I1.kept (t' := s1.toks) fun b o e => Heap.get?_push_of_some _ e, yd1 a _, ⟨_, Heap.get?_push_size _ rfl, rfl, rfl⟩, fun b hb => ?_, q⟩
  have e : b = s1.heap.objs.size := by simpa using hb
  subst e
  exact I1.fpOk (Nat.le_refl _) (I1.hok.fresh (Nat.le_refl _))
 ·subst e
  obtain ⟨t, rfl⟩ := r1
  have fin : ∀ (ty : String), (ty = "str_ascii_iterator" ∨ ty = "str_iterator") → PIE X pins σ tg R (.ref s1.heap.objs.size) { s1 with heap := s1.heap.push { cls := .type ty, data := .fields #[.str z t, .int 0 0] } } := fun ty hty => by
   refine ⟨s1.heap.objs.size, [s1.heap.objs.size], _, _, H1, rfl, I1.kept (t' := s1.toks) fun b o e => Heap.get?_push_of_some _ e, turn_str hty, ⟨_, Heap.get?_push_size _ rfl, rfl, rfl⟩, fun b hb => ?_, q⟩
   have e : b = s1.heap.objs.size := by simpa using hb
   subst e
   exact I1.fpOk (Nat.le_refl _) (I1.hok.fresh (Nat.le_refl _))
  cases ha : z.cps.all (· < 128)
  ·exact wpAny_pyIter_wide ha (fin _ (.inr rfl))
  ·exact wpAny_pyIter_ascii ha (fin _ (.inl rfl))
def iterD : D → Rs (List D)
 | .lst ds => .ok ds
 | .scr ns => .ok (ns.map .int)
 | .tup ds => .ok ds
 | .str x => .ok (zL3 x)
 | _ => .no
def iAny (fe : FE) : FA := fun τ => (fe τ).bind iterD
theorem zB1 (he : PDE X e fe) : PDI X tg e (iAny fe) :=
 PI.imp (pi_any he) fun σ H R ⟨F, τ, Rv, h⟩ => tE.of Rv h.bind fun d v F1 H1 g x R1 r => by
  cases d with
  | lst ds =>
   simp only [Rep] at r; obtain ⟨a, vs, rfl, q, t⟩ := r
   exact .inl ⟨a, rfl, ⟨vs, SqL.of (R1.fh _ _ q)⟩, g _ F1 H1 x (ym5 (SqL.of q) t)⟩
  | scr ns =>
   simp only [Rep] at r; obtain ⟨a, rfl, q⟩ := r
   exact .inl ⟨a, rfl, ⟨_, R1.fh.seq q⟩, g _ F1 H1 x (ym5 q (Reps.ints ns))⟩
  | tup ds =>
   simp only [Rep] at r; obtain ⟨a, vs, rfl, q, t⟩ := r
   exact .inr (.inl ⟨a, rfl, ⟨vs, Same.seqT R1.fh q⟩, g _ F1 H1 x (it_tup q t)⟩)
  | str z => simp only [Rep] at r; exact .inr (.inr ⟨z, r, g _ F1 H1 x it_str⟩)
  | _ => exact g.elim
end
def DefOk (P : Program) (w : World) (K : PySem.W.Frag) (mg : Str → Option Value) (base : Heap) (x : Str) (k n : Nat) (ps : List Str) (g : List D → Rs D) : Prop :=
 ∃ f fd, FnOk P w K mg base CX0 k f fd ps (spD K n g) ∧ Binds K fd ps [] ∧ PySem.W.keepIn K (.ref f) = true ∧ mg x = some (.ref f)
structure DefAt (K : PySem.W.Frag) (mg : Str → Option Value) (x : Str) (st : Stmt) (f : Addr) (fd : FuncData) : Prop where
 fn : Fun K x x st f fd
 at_ : mg x = some (.ref f)
section
variable {P : Program} {w : World} {K : PySem.W.Frag} {mg : Str → Option Value} {base : Heap}
theorem DefOk.mk {x : Str} {st : Stmt} {f : Addr} {fd : FuncData} {N ps : List Str} {k n : Nat} {fb : FS} {g : List D → Rs D} (D : DefAt K mg x st f fd) (S : zb8 N ps (za3 st)) (hn : ps.length = n)
  (hb : ∀ (kV doc pm : Value) (an : Option Addr) (cdv ct : Value) (us : List Value), us.length = ps.length → bindArgs (PySem.W.fnOf x x (zb9 st) (zb1 st) (za3 st) .none kV doc pm an cdv ct) ⟨us, []⟩ = pure (ps.zip us))
  (hbody : ∀ (cdv : Value) (A : Around) (outer : List Env) (s : Shared) (H : Hp) (E : XK), Room k (A.deeper (envOfC x (za3 st) s.heap.objs.size f cdv)) →
   PDSs (cxOf CX0 P w K mg base N x (za3 st) f cdv A outer s H E).nox (zb1 st) fb)
  (hg : ∀ ds d, ds.length = n → g ds = .ok d → runF N.length fb ds = .ok d) : DefOk P w K mg base x (k + 1) n ps g :=
 ⟨f, fd, FnD.to (fnD D.fn S hn hbody) hg, D.fn.binds hb, D.fn.kp, D.at_⟩
theorem DefOk.up {x : Str} {j k n : Nat} {ps : List Str} {g : List D → Rs D} (D : DefOk P w K mg base x j n ps g) (h : j ≤ k) : DefOk P w K mg base x k n ps g :=
 let ⟨f, fd, F, r⟩ := D; ⟨f, fd, F.mono h, r⟩
end
section
variable {X : Cx} {pos : Pos} {e tg : Expr} {es : List Expr} {fe : FE} {fs : FA}
theorem zc4 {k n : Nat} {ps : List Str} {g : List D → Rs D} {x : Str} {p : Pos} (D : DefOk X.prog X.w X.K X.mg X.base x k n ps g) (hr : Room k X.A) (ha : PDA X (e :: es) fs) (hfs : ∀ τ ds, fs τ = .ok ds → ds.length = (e :: es).length) (hn : (e :: es).length = n := by rfl) (hg : Gl X x := by rfl) (hdb : (x == ("__debug__" : Str)) = false := by decide)
  (he : starEach (e :: es) X.env = (false, eval e X.env) :: starEach es X.env := by rfl) (hpl : (backTo pos (starEach es X.env)).any (·.1) = false := by rfl) : PDE X (.Call (.Name x p) (e :: es) [] pos) (eCall g fs) := by
 obtain ⟨f, fd, F, hb, hk, hm⟩ := D
 exact pde_call F hr hg hm hk hb ha hn hfs hdb he hpl
end
theorem zA9 {k : Nat} {A : Around} (r : Room k A) : A.units + 128 < cLine := by have := r.un; omega
section
variable {X : Cx} {pos : Pos} {e a b : Expr} {fe fa fb : FE}
end
def spLaw (K : PySem.W.Frag) : Sp := fun vs H Q _ => ∃ (a : Addr) (ns : List Int) (F : Hp), vs = [.ref a] ∧ Same F H ∧ TbT F H ∧ SqL K F a (ns.map V.int) ∧ ns.length ≤ 63 ∧ ∀ H', Q (.bl true) H'
theorem law_fn {P : Program} {w : World} {K : PySem.W.Frag} {mg : Str → Option Value} {base : Heap} {k : Nat} {g : List D → Rs D} {p : Str} {f : Addr} {fd : FuncData} (F : FnOk P w K mg base CX0 k f fd [p] (spD K 1 g)) (h : ∀ ns : List Int, ns.length ≤ 63 → g [.scr ns] = .ok (.bl true)) :
  FnOk P w K mg base CX0 k f fd [p] (spLaw K) := by
 refine F.imp fun vs H Q E ⟨a, ns, Fz, e, fh, tt, hS, h63, q⟩ => ?_
 subst e
 refine ⟨rfl, [.scr ns], Fz, fh, tt, Reps.cons (by simp only [Rep]; exact ⟨a, rfl, hS⟩) Reps.nil, ?_⟩
 rw [h ns h63]
 intro v F' H' _ r
 simp only [Rep] at r
 subst r
 exact q H'
section
variable {X : Cx} {pos : Pos} {e tg : Expr} {es : List Expr} {fe : FE} {fs : FA}
theorem reps_rng {K : PySem.W.Frag} {F : Hp} (lo : Int) (n : Nat) : Reps K F (rngD lo n) ((List.range n).map fun (k : Nat) => V.int (lo + k)) := by
 unfold rngD
 generalize List.range n = l
 induction l with
 | nil => exact Reps.nil
 | cons a r ih => exact Reps.cons (by simp only [Rep]) ih
theorem vals_rng {lo : Int} {acc : Array Value} {n : Nat} (h : ItemsOf (fun i v => ∃ t, v = Value.int (lo + i * 1) t) acc n) : Vals ((List.range n).map fun (k : Nat) => V.int (lo + k)) acc.toList := by
 obtain ⟨hn, hi⟩ := h
 have key : ∀ (l : List Value) (j : Nat), (∀ k v, l[k]? = some v → ∃ t, v = Value.int (lo + ((j + k : Nat) : Int)) t) → Vals ((List.range' j l.length).map fun (k : Nat) => V.int (lo + k)) l := fun l => by
  induction l with
  | nil => intro j _; exact .nil
  | cons a r ih =>
   intro j hj
   rw [List.length_cons, List.range'_succ, List.map_cons]
   refine .cons ?_ (ih (j + 1) fun k v hv => ?_)
   ·obtain ⟨t, rfl⟩ := hj 0 a rfl
    exact ⟨t, by simp⟩
   ·obtain ⟨t, e⟩ := hj (k + 1) v (by simpa using hv)
    exact ⟨t, by rw [e]; congr 2; omega⟩
 have := key acc.toList 0 fun k v hv => by
  obtain ⟨t, e⟩ := hi k v (by simpa using hv)
  exact ⟨t, by rw [e]; simp⟩
 rw [Array.length_toList, hn, ← List.range_eq_range'] at this
 exact this
def lstRg (fi : FA) : FA := fun τ => (fi τ).bind fun ds => if ds.length ≤ 16777216 then .ok ds else .no
theorem list_rng {pins : List (Addr × Obj)} {σ : St} {F H F1 H1 : Hp} {s1 : Shared} {Q : VK} {lo hi : Int} {t u v : Tok} {tk : Nat} (hc : X.calm = true) (I1 : Inv X pins σ H1 s1) (h1 : -(2 ^ 62) ≤ lo) (h2 : lo < 2 ^ 62) (h3 : -(2 ^ 62) ≤ hi) (h4 : hi < 2 ^ 62) (hz : (rngD lo (hi - lo).toNat).length ≤ 16777216)
  (x : Ext F H F1 H1) (q : ∀ p vs F' H', Ext F H F' H' → H' p = none → Reps X.K F' (rngD lo (hi - lo).toNat) vs → Q (.ref p) (upd H' p (.lst vs))) :
  wpAny (model X.prog X.w) X.A (call (.type "list") [.ref s1.heap.objs.size]) (EP X pins σ Q) X.xe { s1 with heap := s1.heap.push { cls := .type "range", data := .fields #[.int lo t, .int hi u, .int 1 v] }, toks := tk } := by
 have I2 : Inv X pins σ H1 { s1 with heap := s1.heap.push { cls := .type "range", data := .fields #[.int lo t, .int hi u, .int 1 v] }, toks := tk } := I1.kept fun b o e => Heap.get?_push_of_some _ e
 have hl : (rngD lo (hi - lo).toNat).length = (hi - lo).toNat := by simp [rngD]
 rw [hl] at hz
 refine call_list_range (n := (hi - lo).toNat) (I2.ok.hd hc) (IsRange.new ..) (small_one h1 h2 h3 h4) (by rw [rangeSize_one]; split <;> omega) (by omega) fun h' tk' acc' c' hk hS' hacc => ?_
 have rel := vals_rng hacc
 refine ⟨.ref _, _, I2.laid (t' := tk') hk (Nat.le_refl _) (o := .lst ((List.range (hi - lo).toNat).map fun (k : Nat) => V.int (lo + k))) ⟨by rw [List.length_map, List.length_range, sizeLine_eq]; exact hz, acc'.toList, c', rel, by simpa using hS'⟩, rfl, q _ _ _ _ x (I2.hok.fresh (Nat.le_refl _)) (reps_rng _ _)⟩
theorem zH0 {a : Expr} {p p2 pos2 : Pos} (hc : X.calm = true) (hl : Gl X "list") (hml : X.mg "list" = none) (hg : Gl X "range") (hm : X.mg "range" = none) (ha : PDA X [a] fs) (hs : starEach [a] X.env = [(false, eval a X.env)] := by rfl)
  (he : starEach [.Call (.Name "range" p2) [a] [] pos2] X.env = (false, eval (.Call (.Name "range" p2) [a] [] pos2) X.env) :: starEach [] X.env := by rfl) (hpl : (backTo pos (starEach [] X.env)).any (·.1) = false := by rfl) :
  PDF X (.Call (.Name "list" p) [.Call (.Name "range" p2) [a] [] pos2] [] pos) (lstRg (iRg1 fs)) := by
 intro pins s σ H Q I ⟨F, τ, R, h⟩
 refine wpAny_Call_Name_kw (zC8 I hl hml PyProof.Rows.boot_list ?_)
 refine PyProof.Rows.callWith_type1 ?_ he hpl
 rw [he]
 show wpAny _ _ (spliced ((false, eval (.Call (.Name "range" p2) [a] [] pos2) X.env) :: backTo pos (starEach [] X.env))) _ _ s
 refine Calls.spliced_cons ?_
 have h := h.bind
 unfold iRg1 at h
 have h := h.bind
 generalize hG : (fun ds => Ok X (match int1 ds with | some j => if -(2 ^ 62) ≤ j ∧ j < 2 ^ 62 then Rs.ok (rngD 0 j.toNat) else Rs.no | none => Rs.no) fun a => Ok X (if a.length ≤ 16777216 then Rs.ok a else Rs.no) fun ds => ∀ (p : Addr) (vs : List V) (F' H' : Hp), Ext F H F' H' → H' p = none → Reps X.K F' ds vs → Q (V.ref p) (upd H' p (HO.lst vs))) = G at h
 refine Call_ (zC8 I hg hm boot_range (PyProof.Rows.callWith_type1 (thn (ha pos2 pins s σ H (fun vs H1 => ∃ ds F1, G ds ∧ Ext F H F1 H1 ∧ RV X.K F1 τ σ H1 ∧ Reps X.K F1 ds vs) I (tAs.of R h fun ds vs F1 H1 g x R1 r => ⟨ds, F1, g, x, R1, r⟩)) fun us s1 ⟨vs, H1, I1, r1, ds, F1, g, x, R1, r⟩ => ?_) hs rfl))
 subst hG
 cases q1 : int1 ds with
 | none => simp only [q1] at g; exact g.elim
 | some j =>
  simp only [q1] at g
  have e := ym8 q1
  subst e
  obtain ⟨v, rfl, q⟩ := r.one
  simp only [Rep] at q; subst q
  obtain ⟨z, g⟩ := zj4 g
  obtain ⟨zl, g⟩ := zj4 g
  cases r1 with
  | cons ra rr =>
   cases rr
   obtain ⟨t, rfl⟩ := ra
   refine call_range_1 ?_
   refine Calls.spliced_nil ?_
   exact list_rng hc I1 (by decide) (by decide) z.1 z.2 (by rw [Int.sub_zero]; exact zl) x (by rw [Int.sub_zero]; exact g)
end
section
variable {X : Cx}
end
section
variable {rest : List Expr} {env : Env}
end
section
variable {X : Cx} {pos : Pos} {e a b : Expr} {es : List Expr} {fe fa fb : FE} {fs : FA}
end
section
variable {X : Cx} {pos : Pos} {e a b : Expr} {es : List Expr} {fe fa fb : FE} {fs : FA}
end
section
variable {X : Cx} {pos : Pos} {e a b : Expr} {es : List Expr} {fe fa fb : FE} {fs : FA}
end
section
variable {X : Cx} {pos : Pos} {e a b : Expr} {es : List Expr} {fe fa fb : FE} {fs : FA}
end
def BM (mg : Str → Option Value) (base : Heap) : Prop := ∃ bm o, mg "__builtins__" = some (.ref bm) ∧ bm ≠ builtinsNs ∧ base.get? bm = some o ∧ o.cls = .type "module" ∧ o.dict = some builtinsNs ∧ o.data = .plain
def OnlyM (ts : List Addr) (H : Hp) : Prop := ∀ b, H b = none ∨ (∃ o xs, H b = some (.frz o (.lst xs))) ∨ (b ∈ ts ∧ H b = some (.tbl #[]))
theorem ym2 {P : Program} {w : World} {K : PySem.W.Frag} {mg mb : Str → Option Value} {CX : CXT} {k : Nat} {fa a : Addr} {fd : FuncData} {x : Str} {sp : Sp} {s₁ : Shared} {vs : List Value} {ns : List Int} {ts : List Addr}
  (KX : K.In s₁.heap) (hns : s₁.heap.Ns mainGlobals mg) (hb : s₁.heap.Ns builtinsNs mb) (hbb : ∀ x : Str, x ≠ "__name__" → mb x = bootBuiltins x) (hlim : s₁.heap.NoLimit) (hg : s₁.gens = #[])
  (ha : s₁.heap.get? a = some { cls := .type "list", data := .seq vs.toArray }) (hi : IntsAre vs ns) (hl : ns.length ≤ sizeLine) (hr : Room k callerA)
  (tb : ∀ p ∈ ts, K.lookup p = none ∧ s₁.heap.get? p = some (PySem.W.tabObj #[]) ∧ isCodeTable s₁.heap p)
  (hbm : BM mg s₁.heap) (F : ∀ base : Heap, K.In base → base.Ns mainGlobals mg → BM mg base → FnOk P w K mg base CX k fa fd [x] sp) (hbind : ∀ (s : Shared) (u : Value), BindsTo s fd ⟨[u], []⟩ [(x, u)])
  (hsp : ∀ H F : Hp, OnlyM ts H → Same F H → (∀ p ∈ ts, F p = none ∧ H p = some (.tbl #[])) → SqL K F a (ns.map V.int) → sp [.ref a] H (fun v H' => v = .bl true) fun _ _ _ => False)
  (hCX : ∀ H e s', CX [] H s₁ (fun _ _ _ => False) e s' → False) :
  codeAny (model P w) callerA (.call (.ref fa) ⟨[.ref a], []⟩) (fun r s' => r = .ok (.ret (.bool true)) ∧ OldK s₁.heap s'.heap ∧ s'.os = s₁.os ∧ AllBare s'.gens) s₁ := by
 have rv := zF2 hi
 have lenV := hi.length
 have nat : a ∉ ts := fun z => by
  obtain ⟨_, e, _⟩ := tb a z
  rw [ha] at e; cases e
 have core : ∀ H F : Hp, OnlyM ts H → Same F H → (∀ p ∈ ts, F p = none ∧ H p = some (.tbl #[])) → SqL K F a (ns.map V.int) → HOk P w H s₁.heap → (∀ b, H b ≠ none → b = a ∨ b ∈ ts) → (H a ≠ none → K.lookup a = none) →
   codeAny (model P w) callerA (.call (.ref fa) ⟨[.ref a], []⟩) (fun r s' => r = .ok (.ret (.bool true)) ∧ OldK s₁.heap s'.heap ∧ s'.os = s₁.os ∧ AllBare s'.gens) s₁ := by
  intro H Fz hO fh hT hS hok hA hK
  have base_of : ∀ {b : Addr} {o : Obj}, s₁.heap.get? b = some o → H b = none → (hidT s₁.heap H).get? b = some o := fun e n => yc7 e n
  have noA : ∀ {b : Addr} {o : Obj} {es : Array DictEntry} {ep : Nat}, s₁.heap.get? b = some o → o.data = .dict es ep → H b = none := fun {b o es ep} e d => by
   cases q : H b with
   | none => rfl
   | some u =>
    rcases hA b (by rw [q]; simp) with e' | e'
    ·subst e'
     rw [ha] at e; cases e
     have d' : Data.seq vs.toArray _ = Data.dict es ep := d
     cases d'
    ·obtain ⟨_, e2, _⟩ := tb b e'
     rw [e] at e2; cases e2
     cases d
  have nsK : ∀ {b : Addr} {m : Str → Option Value}, s₁.heap.Ns b m → (hidT s₁.heap H).Ns b m := fun {b m} ⟨o, es, ep, e, d, r⟩ => ⟨o, es, ep, base_of e (noA e d), d, r⟩
  have hKb : K.In (hidT s₁.heap H) := fun b o e => base_of (KX b o e) (by
   cases q : H b with
   | none => rfl
   | some u =>
    rcases hA b (by rw [q]; simp) with e' | e'
    ·subst e'
     rw [hK (by rw [q]; simp)] at e; cases e
    ·rw [(tb b e').1] at e; cases e)
  have hM : Mod K mg (hidT s₁.heap H) := ⟨hKb, nsK hns, ⟨mb, nsK hb, hbb⟩, let ⟨mc, h1, h2⟩ := hlim; ⟨mc, nsK h1, h2⟩⟩
  have e0 : Env0 P w K mg (hidT s₁.heap H) callerA [] s₁ H := ⟨rfl, hM, fun b o e => yk3 e, Nat.le_of_eq (zU9 _ _), trivial, fun b hb => absurd (show b ∈ ([] : List Addr) from hb) (by simp), hok, .of_eq hg⟩
  have hbb : BM mg (hidT s₁.heap H) := by
   obtain ⟨bm, o, b1, b2, b3, b4, b5, b6⟩ := hbm
   refine ⟨bm, o, b1, b2, base_of b3 ?_, b4, b5, b6⟩
   cases q : H bm with
   | none => rfl
   | some u =>
    rcases hA bm (by rw [q]; simp) with e' | e'
    ·subst e'
     rw [ha] at b3; cases b3; cases b6
    ·obtain ⟨_, e2, _⟩ := tb bm e'
     rw [b3] at e2; cases e2; cases b6
  refine codeAny_mono ((F _ hKb (nsK hns) hbb).run callerA [] s₁ H ⟨[.ref a], []⟩ [.ref a] [.ref a] _ _ hr e0 (hbind s₁ (.ref a)) (.cons rfl .nil) (hsp H Fz hO fh hT hS)) fun r s' h => ?_
  cases r with
  | error e => exact (hCX H e s' h).elim
  | ok fl =>
   cases fl with
   | next => exact False.elim h
   | brk => exact False.elim h
   | cont => exact False.elim h
   | ret u =>
    obtain ⟨v, H', os, bare, un, hok', r', q'⟩ := h
    subst q'
    obtain rfl : u = Value.bool true := r'
    have was : ∀ b o, s₁.heap.get? b = some o → asItWas s₁.heap s'.heap b o := fun b o e => by
     cases q : H b with
     | none => exact .inl (un.keep b o e q (by intro z; exact absurd (show b ∈ ([] : List Addr) from z) (by simp)) (by simp))
     | some u =>
      rcases hO b with z | ⟨ob, xs, z⟩ | ⟨hb, z⟩
      ·rw [q] at z; cases z
      ·have z2 := un.frzs b ob _ z
       obtain ⟨e1, _⟩ := hok b _ z
       obtain ⟨e2, _⟩ := hok' b _ z2
       rw [e] at e1; cases e1
       exact .inl e2
      ·obtain ⟨more, z2⟩ := un.tbls b _ z
       have e2 : s'.heap.get? b = some { cls := .none, data := .fields (#[] ++ more) } := hok' b _ z2
       obtain ⟨_, e3, e4⟩ := tb b hb
       rw [e] at e3; cases e3
       exact .inr (.inl ⟨e4, rfl, #[], more, rfl, e2⟩)
    refine ⟨rfl, ⟨was, fun b o e => ?_⟩, os, bare⟩
    obtain ⟨o', e'⟩ := un.there b o e (by simp)
    exact ⟨o', e'⟩
 cases hk : K.lookup a with
 | some o =>
  have e := KX a o hk
  rw [ha] at e
  cases e
  refine core (fun b => if b ∈ ts then some (.tbl #[]) else none) (fun _ => none) (fun b => ?_) (fun _ _ z => nomatch z) (fun p hp => ⟨rfl, if_pos hp⟩) (.inr ⟨_, vs.toArray, _, hk, rfl, rfl, rfl, by rw [List.size_toArray, lenV]; exact hl, by simpa using rv⟩) (fun b u z => ?_) (fun b z => ?_) fun z => absurd (if_neg nat) z
  ·by_cases h : b ∈ ts
   ·exact .inr (.inr ⟨h, if_pos h⟩)
   ·exact .inl (if_neg h)
  ·by_cases h : b ∈ ts
   ·have z' := (if_pos h).symm.trans z
    cases z'
    exact (tb b h).2.1
   ·have z' := (if_neg h).symm.trans z
    cases z'
  ·by_cases h : b ∈ ts
   ·exact .inr h
   ·exact absurd (if_neg h) z
 | none =>
  refine core (fun b => if b ∈ ts then some (.tbl #[]) else if b = a then some (.frz { cls := .type "list", data := .seq vs.toArray } (.lst (ns.map V.int))) else none) (fun b => if b = a then some (.frz { cls := .type "list", data := .seq vs.toArray } (.lst (ns.map V.int))) else none) (fun b => ?_) (fun b o z => ?_) (fun p hp => ⟨if_neg (fun z : p = a => nat (z ▸ hp)), if_pos hp⟩) (.inl (.inr ⟨{ cls := .type "list", data := .seq vs.toArray }, if_pos rfl⟩)) (fun b u z => ?_) (fun b z => ?_) fun _ => hk
  ·by_cases h : b ∈ ts
   ·exact .inr (.inr ⟨h, if_pos h⟩)
   ·by_cases hb : b = a
    ·exact .inr (.inl ⟨_, _, (if_neg h).trans (if_pos hb)⟩)
    ·exact .inl ((if_neg h).trans (if_neg hb))
  ·by_cases hb : b = a
   ·have z' := (if_pos hb).symm.trans z
    cases z'
    subst hb
    exact (if_neg nat).trans (if_pos rfl)
   ·have z' := (if_neg hb).symm.trans z
    cases z'
  ·by_cases h : b ∈ ts
   ·have z' := (if_pos h).symm.trans z
    cases z'
    exact (tb b h).2.1
   ·have z1 := (if_neg h).symm.trans z
    by_cases hb : b = a
    ·have z' := (if_pos hb).symm.trans z1
     cases z'
     subst hb
     exact ⟨ha, by rw [List.length_map]; exact hl, vs, _, rv, ha⟩
    ·have z' := (if_neg hb).symm.trans z1
     cases z'
  ·by_cases h : b ∈ ts
   ·exact .inr h
   ·by_cases hb : b = a
    ·exact .inl hb
    ·exact absurd ((if_neg h).trans (if_neg hb)) z
theorem zY2 {K : PySem.W.Frag} {p : Addr} (h : p ∉ K.map (·.1)) : K.lookup p = none := by
 rw [show K.lookup p = List.lookup p K from rfl, List.lookup_eq_none_iff]
 intro q hq
 simp only [bne_iff_ne, ne_eq, beq_eq_false_iff_ne]
 intro z
 exact h (List.mem_map.mpr ⟨q, hq, z.symm⟩)
def TabsIn (K : PySem.W.Frag) : Prop := ∀ r ∈ Tabs.rows, ∃ c, PySem.W.codeHdIn K c r.1 = true
theorem walkM {l : PySem.W.OpenLaw} {q : Program} {loose : List Str} {XP : (Str → Option Value) → Heap → Prop} {d : DefRec} {K : Params → PySem.W.Frag} {k : Nat} {p : Str} {as ts : List Addr} {has : ∀ P, as = (K P).map (·.1)} (hn : l.most = some 63) (hdf : d.params.defaults = []) (hk : Room k callerA)
  (hts : (Tabs.rows.all fun r => ts.contains r.1 && !as.contains r.1) = true)
  (F : ∀ (w : World) (mg : Str → Option Value) (fa : Addr) (h : Heap), (K w.params).In h → h.Ns mainGlobals mg → mg d.name = some (.ref fa) → TabsIn (K w.params) ∧
   ∃ fd : FuncData, (∀ (s : Shared) (u : Value), BindsTo s fd ⟨[u], []⟩ [(p, u)]) ∧ ∀ base : Heap, (K w.params).In base → base.Ns mainGlobals mg → BM mg base → FnOk l.prog w (K w.params) mg base CX0 k fa fd [p] (spLaw (K w.params))) :
  PySem.W.WalkO q loose XP (PySem.W.kmHook K as has ts).says l.row.toRowW d [] (fun f vs => PySem.call f vs) := by
 refine Att.attach_call hn hdf fun w s₀ s₁ mg mb fa o pm cd doc a vs ns G Y ho hd hcd hmg hobj hints hlen hg => ?_
 have KX := PySem.W.km_in_of Y
 have hT := PySem.W.km_tabs_of Y
 obtain ⟨tin, fd, hb, hF⟩ := F w mg fa _ KX G.T.g hmg
 refine ym2 (ts := Tabs.rows.map (·.1)) (CX := CX0) (sp := spLaw (K w.params)) KX G.T.g G.T.b G.T.builtins G.T.nolimit hg hobj hints (Nat.le_trans hlen (by decide)) hk (fun p hp => ?_) ?_ hF hb (fun H Fz hO fh hT hS => ⟨a, ns, Fz, rfl, fh, ⟨fun r hr => ?_, fun d b e => (by rcases hO d with z | ⟨_, _, z⟩ | ⟨_, z⟩ <;> (rw [z] at e; cases e))⟩, hS, hlen, fun _ => rfl⟩) fun H e s' z => z
 ·obtain ⟨r, hr, rfl⟩ := List.mem_map.mp hp
  have z := List.all_eq_true.mp hts r hr
  rw [Bool.and_eq_true] at z
  have hp' := hT r.1 (by simpa using z.1)
  obtain ⟨c, hc⟩ := tin r hr
  refine ⟨zY2 (by rw [← has]; simpa using z.2), hp', ?_⟩
  exact ((PySem.W.codeHd_of_K KX hc).tab hp').isCodeTable
 ·obtain ⟨bm, ob, b1, b2, b3, b4, b5, b6⟩ := G.T.bmain
  exact ⟨bm, ob, b1, b2, b3, b4, b5, b6⟩
 ·obtain ⟨h1, h2⟩ := hT r.1 (List.mem_map.mpr ⟨r, hr, rfl⟩)
  exact ⟨h1, .inl h2⟩
open PySem.W
def lxI : List Int → List Int → Bool
 | [], [] => false
 | [], _ :: _ => true
 | _ :: _, [] => false
 | a :: x, b :: y => if a = b then lxI x y else decide (a < b)
theorem zL9 : ∀ x : List Int, lxI x x = false
 | [] => rfl
 | a :: x => by rw [lxI, if_pos rfl]; exact zL9 x
theorem yl3 : ∀ x y : List Int, lxI x y = false → lxI y x = false → x = y
 | [], [], _, _ => rfl
 | [], _ :: _, h, _ => by simp [lxI] at h
 | _ :: _, [], _, h => by simp [lxI] at h
 | a :: x, b :: y, h1, h2 => by
  rw [lxI] at h1 h2
  by_cases e : a = b
  ·subst e
   rw [if_pos rfl] at h1 h2
   rw [yl3 x y h1 h2]
  ·rw [if_neg e] at h1
   rw [if_neg (Ne.symm e)] at h2
   simp only [decide_eq_false_iff_not] at h1 h2
   omega
theorem zq9 : ∀ x y z : List Int, lxI x y = true → lxI y z = true → lxI x z = true
 | [], [], _, h, _ => by simp [lxI] at h
 | _ :: _, [], _, h, _ => by simp [lxI] at h
 | _, _ :: _, [], _, h => by simp [lxI] at h
 | [], _ :: _, _ :: _, _, _ => rfl
 | a :: x, b :: y, c :: z, h1, h2 => by
  rw [lxI] at h1 h2 ⊢
  by_cases e : a = b
  ·subst e
   rw [if_pos rfl] at h1
   by_cases e2 : a = c
   ·subst e2; rw [if_pos rfl] at h2 ⊢; exact zq9 x y z h1 h2
   ·rw [if_neg e2] at h2 ⊢; exact h2
  ·rw [if_neg e] at h1
   simp only [decide_eq_true_eq] at h1
   by_cases e2 : b = c
   ·subst e2; rw [if_neg e]; simpa using h1
   ·rw [if_neg e2] at h2
    simp only [decide_eq_true_eq] at h2
    rw [if_neg (by omega)]; simp only [decide_eq_true_eq]; omega
theorem yl4 {x y : List Int} (h : lxI x y = true) : lxI y x = false := by
 cases q : lxI y x with
 | false => rfl
 | true => have := zq9 x y x h q; rw [zL9] at this; cases this
theorem zQ2 {x y : List Int} (h : lxI x y = false) (n : x ≠ y) : lxI y x = true := by
 cases q : lxI y x with
 | true => rfl
 | false => exact absurd (yl3 x y h q) n
def Pw {α : Type} (lt : Nat → Nat → Bool) (n : Nat) : KasT α → (α → Prop) → Prop
 | .ret a, G => G a
 | .ask i j k, G => i < n ∧ j < n ∧ Pw lt n (k (lt i j)) G
section
variable {lt : Nat → Nat → Bool} {n : Nat}
theorem pw_t {α : Type} {t u : KasT α} {G : α → Prop} (h : Pw lt n t G) : Pw lt n (if true = true then t else u) G := by rw [if_pos rfl]; exact h
theorem pw_f {α : Type} {t u : KasT α} {G : α → Prop} (h : Pw lt n u G) : Pw lt n (if false = true then t else u) G := by rw [if_neg (by simp)]; exact h
theorem Pw.bind {α β : Type} {f : α → KasT β} {G : β → Prop} : ∀ (t : KasT α), Pw lt n t (fun a => Pw lt n (f a) G) → Pw lt n (t.bind f) G
 | .ret _, h => h
 | .ask i j k, h => ⟨h.1, h.2.1, Pw.bind (k (lt i j)) h.2.2⟩
theorem Pw.mono {α : Type} {G G' : α → Prop} (hg : ∀ a, G a → G' a) : ∀ (t : KasT α), Pw lt n t G → Pw lt n t G'
 | .ret a, h => hg a h
 | .ask i j k, h => ⟨h.1, h.2.1, Pw.mono hg (k (lt i j)) h.2.2⟩
theorem Pw.wp {α : Type} {cmp : Nat → Nat → (Bool → Shared → Prop) → Shared → Prop} {s : Shared} (hc : ∀ (i j : Nat) (C : Bool → Shared → Prop), i < n → j < n → C (lt i j) s → cmp i j C s) {G : α → Prop} {Q : α → Shared → Prop} (hq : ∀ a, G a → Q a s) :
  ∀ (t : KasT α), Pw lt n t G → t.kasWp cmp Q s
 | .ret a, h => hq a h
 | .ask i j k, h => hc i j _ h.1 h.2.1 (Pw.wp hc hq (k (lt i j)) h.2.2)
end
section
variable {n : Nat} {κ : Nat → List Int} {p : Array Nat}
abbrev ltK (κ : Nat → List Int) (i j : Nat) : Bool := lxI (κ i) (κ j)
abbrev gK (κ : Nat → List Int) (p : Array Nat) (k : Nat) : List Int := κ (p.getD k 0)
abbrev PmK (n : Nat) (p : Array Nat) : Prop := p.toList.Perm (List.range n)
theorem zp5 {p : Array Nat} (k : Nat) : p.getD k 0 = (p[k]?).getD 0 := by simp
theorem zN3 (h : PmK n p) : p.size = n := by have := h.length_eq; simpa using this
theorem pm_lt (h : PmK n p) (hn : 0 < n) (k : Nat) : p.getD k 0 < n := by
 rw [zp5]
 cases q : p[k]? with
 | none => exact hn
 | some v =>
  have hv : v ∈ p.toList := by
   have q' : p.toList[k]? = some v := by rw [← q]; simp
   exact List.mem_of_getElem? q'
  have := h.mem_iff.mp hv
  simpa using this
theorem pm_inj (h : PmK n p) {i j : Nat} (hi : i < n) (hj : j < n) (hij : i ≠ j) : p.getD i 0 ≠ p.getD j 0 := by
 have nd : p.toList.Nodup := h.symm.nodup List.nodup_range
 have sz := zN3 h
 have key : ∀ a b : Nat, a < b → b < n → p.getD a 0 ≠ p.getD b 0 := fun a b hab hb => by
  have ha' : a < p.toList.length := by simp [sz]; omega
  have hb' : b < p.toList.length := by simp [sz]; omega
  have := List.pairwise_iff_getElem.mp nd a b ha' hb' hab
  rw [zp5, zp5]
  have ea : p[a]? = some p.toList[a] := by rw [Array.getElem_toList]; exact Array.getElem?_eq_getElem _
  have eb : p[b]? = some p.toList[b] := by rw [Array.getElem_toList]; exact Array.getElem?_eq_getElem _
  rw [ea, eb]
  exact this
 rcases Nat.lt_or_ge i j with z | z
 ·exact key i j z hj
 ·exact (key j i (by omega) hi).symm
def Srt (κ : Nat → List Int) (p : Array Nat) (a : Nat) : Prop := ∀ i j, i < j → j < a → lxI (gK κ p i) (gK κ p j) = true
def Dsc (κ : Nat → List Int) (p : Array Nat) (a : Nat) : Prop := ∀ i j, i < j → j < a → lxI (gK κ p j) (gK κ p i) = true
variable (inj : ∀ i j, i < n → j < n → κ i = κ j → i = j)
include inj
theorem g_ne (h : PmK n p) {i j : Nat} (hi : i < n) (hj : j < n) (hij : i ≠ j) : gK κ p i ≠ gK κ p j := fun e =>
 pm_inj h hi hj hij (inj _ _ (pm_lt h (by omega) i) (pm_lt h (by omega) j) e)
theorem srt_succ (h : PmK n p) {a : Nat} (hs : Srt κ p a) (h1 : 1 ≤ a) (ha : a < n) (e : lxI (gK κ p a) (gK κ p (a - 1)) = false) : Srt κ p (a + 1) := fun i j hij hj => by
 rcases Nat.lt_or_ge j a with z | z
 ·exact hs i j hij z
 ·obtain rfl : j = a := by omega
  have l := zQ2 e (g_ne inj h ha (by omega) (by omega))
  by_cases hi : i = j - 1
  ·subst hi; exact l
  ·exact zq9 _ _ _ (hs i (j - 1) (by omega) (by omega)) l
omit inj in
theorem yc9 {a : Nat} (hs : Dsc κ p a) (h1 : 1 ≤ a) (e : lxI (gK κ p a) (gK κ p (a - 1)) = true) : Dsc κ p (a + 1) := fun i j hij hj => by
 rcases Nat.lt_or_ge j a with z | z
 ·exact hs i j hij z
 ·obtain rfl : j = a := by omega
  by_cases hi : i = j - 1
  ·subst hi; exact e
  ·exact zq9 _ _ _ e (hs i (j - 1) (by omega) (by omega))
theorem yp1 (hp : PmK n p) : ∀ (f a : Nat), 1 ≤ a → a + f ≤ n → Srt κ p a →
  Pw (ltK κ) n (kas_asc p f a) fun m => a ≤ m ∧ m ≤ a + f ∧ Srt κ p m ∧ (m < a + f → lxI (gK κ p m) (gK κ p (m - 1)) = true)
 | 0, a, h1, h2, hs => ⟨Nat.le_refl _, Nat.le_refl _, hs, fun z => absurd z (Nat.lt_irrefl _)⟩
 | f + 1, a, h1, h2, hs => by
  unfold kas_asc
  refine ⟨pm_lt hp (by omega) _, pm_lt hp (by omega) _, ?_⟩
  cases e : ltK κ (p.getD a 0) (p.getD (a - 1) 0) with
  | true =>
   refine pw_t ?_
   exact ⟨Nat.le_refl _, by omega, hs, fun _ => e⟩
  | false =>
   refine pw_f ?_
   refine Pw.mono (fun m ⟨q1, q2, q3, q4⟩ => ⟨by omega, by omega, q3, fun z => q4 (by omega)⟩) _ (yp1 hp f (a + 1) (by omega) (by omega) (srt_succ inj hp hs h1 (by omega) e))
theorem yn9 (hp : PmK n p) : ∀ (f a : Nat), 1 ≤ a → a + f ≤ n → Dsc κ p a →
  Pw (ltK κ) n (kas_desc f p a 0) fun r => r.1 = p ∧ r.2.2 = 0 ∧ a ≤ r.2.1 ∧ r.2.1 ≤ a + f ∧ Dsc κ p r.2.1
 | 0, a, h1, h2, hs => ⟨rfl, rfl, Nat.le_refl _, Nat.le_refl _, hs⟩
 | f + 1, a, h1, h2, hs => by
  unfold kas_desc
  refine ⟨pm_lt hp (by omega) _, pm_lt hp (by omega) _, ?_⟩
  cases e : ltK κ (p.getD a 0) (p.getD (a - 1) 0) with
  | true =>
   refine pw_t ?_
   rw [if_neg (by omega)]
   refine Pw.mono (fun m ⟨q1, q2, q3, q4, q5⟩ => ⟨q1, q2, by omega, by omega, q5⟩) _ (yn9 hp f (a + 1) (by omega) (by omega) (yc9 hs h1 e))
  | false =>
   refine pw_f ?_
   refine ⟨pm_lt hp (by omega) _, pm_lt hp (by omega) _, ?_⟩
   have e2 : ltK κ (p.getD (a - 1) 0) (p.getD a 0) = true := zQ2 e (g_ne inj hp (by omega) (by omega) (by omega))
   rw [e2]
   refine pw_t ?_
   exact ⟨rfl, rfl, Nat.le_refl _, Nat.le_add_right _ _, hs⟩
omit inj in
theorem g_rev (hp : PmK n p) {m : Nat} (hm : m ≤ n) (k : Nat) : gK κ (kas_rev p 0 m) k = if k < m then gK κ p (m - 1 - k) else gK κ p k := by
 unfold gK
 rw [zp5, show (kas_rev p 0 m)[k]? = _ from getElem?_mirror_all (by rw [zN3 hp]; exact hm) k]
 by_cases z : k < m
 ·rw [if_pos ⟨Nat.zero_le _, z⟩, if_pos z, ← zp5, Nat.zero_add]
 ·rw [if_neg (fun y => z y.2), if_neg z, ← zp5]
omit inj in
theorem pm_rev (hp : PmK n p) (i j : Nat) : PmK n (kas_rev p i j) := (Array.perm_iff_toList_perm.mp (mirror_perm p i j ((j - i) / 2))).trans hp
omit inj in
theorem srt_rev (hp : PmK n p) {m : Nat} (hm : m ≤ n) (hd : Dsc κ p m) : Srt κ (kas_rev p 0 m) m := fun i j hij hj => by
 rw [g_rev hp hm, g_rev hp hm, if_pos (by omega), if_pos hj]
 exact hd _ _ (by omega) (by omega)
theorem tail3_pw (hp : PmK n p) {m : Nat} (h1 : 1 ≤ m) (hm : m ≤ n) (hd : Dsc κ p m) : Pw (ltK κ) n (kas_tail3 m n p) fun r => PmK n r.2 ∧ 1 ≤ r.1 ∧ r.1 ≤ n ∧ Srt κ r.2 r.1 := by
 unfold kas_tail3
 refine Pw.bind _ (Pw.mono (fun m' ⟨q1, q2, q3, q4⟩ => ?_) _ (yp1 inj (pm_rev hp 0 m) (n - m) m h1 (by omega) (srt_rev hp hm hd)))
 exact ⟨pm_rev hp 0 m, by omega, by omega, q3⟩
theorem count_pw (hp : PmK n p) (hn : 2 ≤ n) : Pw (ltK κ) n (kas_count n p) fun r => PmK n r.2 ∧ 1 ≤ r.1 ∧ r.1 ≤ n ∧ Srt κ r.2 r.1 := by
 unfold kas_count
 refine Pw.bind _ (Pw.mono (fun m ⟨q1, q2, q3, q4⟩ => ?_) _ (yp1 inj hp (n - 1) 1 (Nat.le_refl _) (by omega) fun i j hij hj => by omega))
 by_cases e : m = n
 ·rw [if_pos (by simpa using e)]
  exact ⟨hp, by omega, by omega, q3⟩
 ·rw [if_neg (by simpa using e)]
  have l := q4 (by omega)
  by_cases z : m > 1
  ·rw [if_pos z]
   refine ⟨pm_lt hp (by omega) _, pm_lt hp (by omega) _, ?_⟩
   have : ltK κ (p.getD 0 0) (p.getD (m - 1) 0) = true := q3 0 (m - 1) (by omega) (by omega)
   rw [this]
   refine pw_t ?_
   exact ⟨hp, by omega, by omega, q3⟩
  ·rw [if_neg z]
   obtain rfl : m = 1 := by omega
   unfold kas_descPart
   have d1 : Dsc κ p 1 := fun i j hij hj => by omega
   refine Pw.bind _ (Pw.mono (fun r ⟨r1, r2, r3, r4, r5⟩ => ?_) _ (yn9 inj hp (n - (1 + 1)) (1 + 1) (by omega) (by omega) (yc9 d1 (Nat.le_refl _) l)))
   rw [if_neg (by omega), r1]
   exact tail3_pw inj hp (by omega) (by omega) r5
theorem zN4 (hp : PmK n p) {k : Nat} (hk : k < n) (hs : Srt κ p k) : ∀ (f l r : Nat), l ≤ r → r ≤ k → r - l ≤ f → (∀ i, i < l → lxI (gK κ p i) (gK κ p k) = true) → (∀ i, r ≤ i → i < k → lxI (gK κ p k) (gK κ p i) = true) →
  Pw (ltK κ) n (kas_place p k f l r) fun m => m ≤ k ∧ (∀ i, i < m → lxI (gK κ p i) (gK κ p k) = true) ∧ (∀ i, m ≤ i → i < k → lxI (gK κ p k) (gK κ p i) = true)
 | 0, l, r, h1, h2, h3, h4, h5 => by
  obtain rfl : l = r := by omega
  exact ⟨h2, h4, h5⟩
 | f + 1, l, r, h1, h2, h3, h4, h5 => by
  unfold kas_place
  by_cases z : l ≥ r
  ·rw [if_pos z]
   obtain rfl : l = r := by omega
   exact ⟨h2, h4, h5⟩
  ·rw [if_neg z]
   refine ⟨pm_lt hp (by omega) _, pm_lt hp (by omega) _, ?_⟩
   cases e : ltK κ (p.getD k 0) (p.getD ((l + r) / 2) 0) with
   | true =>
    refine pw_t ?_
    refine zN4 hp hk hs f l ((l + r) / 2) (by omega) (by omega) (by omega) h4 fun i hi hik => ?_
    by_cases q : i = (l + r) / 2
    ·subst q; exact e
    ·exact zq9 _ _ _ e (hs _ i (by omega) hik)
   | false =>
    refine pw_f ?_
    refine zN4 hp hk hs f ((l + r) / 2 + 1) r (by omega) (by omega) (by omega) (fun i hi => ?_) h5
    have e2 := zQ2 e (g_ne inj hp hk (by omega) (by omega))
    by_cases q : i = (l + r) / 2
    ·subst q; exact e2
    ·exact zq9 _ _ _ (hs i _ (by omega) (by omega)) e2
omit inj in
theorem g_bub (hp : PmK n p) {k l : Nat} (hk : k < n) (hl : l ≤ k) (i : Nat) : gK κ (bubble p k (k - l)) i = if i = l then gK κ p k else if l < i ∧ i ≤ k then gK κ p (i - 1) else gK κ p i := by
 unfold gK
 rw [zp5, getElem?_bubble (by rw [zN3 hp]; exact hk) (k - l) (by omega) i, show k - (k - l) = l by omega]
 split
 ·rw [← zp5]
 ·split
  ·rw [← zp5]
  ·rw [← zp5]
theorem bin_pw : ∀ (f : Nat) (p : Array Nat) (k : Nat), PmK n p → k + f = n → Srt κ p k → Pw (ltK κ) n (kas_bin f p k) fun q => PmK n q ∧ Srt κ q n
 | 0, p, k, hp, e, hs => by
  obtain rfl : k = n := by omega
  exact ⟨hp, hs⟩
 | f + 1, p, k, hp, e, hs => by
  unfold kas_bin
  refine Pw.bind _ (Pw.mono (fun l ⟨q1, q2, q3⟩ => ?_) _ (zN4 inj hp (by omega) hs k 0 k (Nat.zero_le _) (Nat.le_refl _) (by omega) (fun i hi => by omega) (fun i hi hik => by omega)))
  refine bin_pw f _ (k + 1) ((Array.perm_iff_toList_perm.mp (bubble_perm p k (k - l))).trans hp) (by omega) fun i j hij hj => ?_
  rw [g_bub hp (by omega) q1, g_bub hp (by omega) q1]
  by_cases a1 : i = l
  ·rw [if_pos a1, if_neg (by omega), if_pos (by omega)]
   exact q3 _ (by omega) (by omega)
  ·rw [if_neg a1]
   by_cases a2 : l < i ∧ i ≤ k
   ·rw [if_pos a2, if_neg (by omega), if_pos (by omega)]
    exact hs _ _ (by omega) (by omega)
   ·rw [if_neg a2]
    by_cases b1 : j = l
    ·rw [if_pos b1]; exact q2 _ (by omega)
    ·rw [if_neg b1]
     by_cases b2 : l < j ∧ j ≤ k
     ·rw [if_pos b2]
      by_cases c : i = j - 1
      ·omega
      ·exact hs _ _ (by omega) (by omega)
     ·rw [if_neg b2]; exact hs _ _ hij (by omega)
theorem sort_pw (hn : 2 ≤ n) : Pw (ltK κ) n (kas_sort n) fun q => PmK n q ∧ Srt κ q n := by
 unfold kas_sort
 refine Pw.bind _ (Pw.mono (fun r ⟨q1, q2, q3, q4⟩ => ?_) _ (count_pw inj (p := List.toArray (List.range n)) (by show (List.toArray (List.range n)).toList.Perm _; simp) hn))
 by_cases z : r.1 < n
 ·rw [if_pos z, Nat.max_eq_left q2]
  exact bin_pw inj _ _ _ q1 (by omega) q4
 ·rw [if_neg z]
  obtain e : r.1 = n := by omega
  rw [e] at q4
  exact ⟨q1, q4⟩
end
def insK {α : Type} (x : List Int × α) : List (List Int × α) → List (List Int × α)
 | [] => [x]
 | y :: r => if lxI x.1 y.1 = true then x :: y :: r else y :: insK x r
def sortK {α : Type} : List (List Int × α) → List (List Int × α)
 | [] => []
 | x :: r => insK x (sortK r)
theorem zI7 {α : Type} (x : List Int × α) : ∀ l, (insK x l).Perm (x :: l)
 | [] => List.Perm.refl _
 | y :: r => by
  unfold insK
  split
  ·exact List.Perm.refl _
  ·exact ((zI7 x r).cons y).trans (List.Perm.swap x y r)
theorem zw5 {α : Type} : ∀ l : List (List Int × α), (sortK l).Perm l
 | [] => List.Perm.refl _
 | x :: r => (zI7 x _).trans ((zw5 r).cons x)
theorem yc5 {α : Type} (x : List Int × α) : ∀ l : List (List Int × α), l.Pairwise (fun a b => lxI a.1 b.1 = true) → (∀ y ∈ l, y.1 ≠ x.1) → (insK x l).Pairwise fun a b => lxI a.1 b.1 = true
 | [], _, _ => by unfold insK; simp
 | y :: r, h, hd => by
  unfold insK
  obtain ⟨h1, h2⟩ := List.pairwise_cons.mp h
  split
  ·rename_i z
   refine List.pairwise_cons.mpr ⟨fun a ha => ?_, h⟩
   rcases List.mem_cons.mp ha with rfl | ha
   ·exact z
   ·exact zq9 _ _ _ z (h1 a ha)
  ·rename_i z
   have z' : lxI y.1 x.1 = true := zQ2 (by simpa using z) (hd y List.mem_cons_self).symm
   refine List.pairwise_cons.mpr ⟨fun a ha => ?_, yc5 x r h2 fun a ha => hd a (List.mem_cons_of_mem _ ha)⟩
   rcases List.mem_cons.mp ((zI7 x r).mem_iff.mp ha) with rfl | ha
   ·exact z'
   ·exact h1 a ha
theorem zS3 {α : Type} : ∀ l : List (List Int × α), (l.map (·.1)).Nodup → (sortK l).Pairwise fun a b => lxI a.1 b.1 = true
 | [], _ => by unfold sortK; exact List.Pairwise.nil
 | x :: r, h => by
  unfold sortK
  rw [List.map_cons, List.nodup_cons] at h
  refine yc5 x _ (zS3 r h.2) fun y hy e => h.1 ?_
  rw [← e]
  exact List.mem_map.mpr ⟨y, (zw5 r).mem_iff.mp hy, rfl⟩
theorem zT2 {α : Type} {r : α → α → Prop} (as : ∀ a b, r a b → r b a → False) : ∀ {l m : List α}, l.Perm m → l.Pairwise r → m.Pairwise r → l = m
 | [], m, p, _, _ => (List.Perm.nil_eq p)
 | a :: l, [], p, _, _ => by have := p.length_eq; simp at this
 | a :: l, b :: m, p, h1, h2 => by
  obtain ⟨x1, x2⟩ := List.pairwise_cons.mp h1
  obtain ⟨y1, y2⟩ := List.pairwise_cons.mp h2
  by_cases e : a = b
  ·subst e
   rw [zT2 as ((List.perm_cons a).mp p) x2 y2]
  ·have ha : a ∈ b :: m := p.mem_iff.mp List.mem_cons_self
   have hb : b ∈ a :: l := p.mem_iff.mpr List.mem_cons_self
   rcases List.mem_cons.mp ha with z | z
   ·exact absurd z e
   ·rcases List.mem_cons.mp hb with w | w
    ·exact absurd w.symm e
    ·exact (as a b (x1 b w) (y1 a z)).elim
theorem yd6 {α : Type} {l m : List (List Int × α)} (p : l.Perm m) (h : l.Pairwise fun a b => lxI a.1 b.1 = true) (nd : (m.map (·.1)).Nodup) : l = sortK m :=
 zT2 (fun a b x y => by rw [yl4 x] at y; cases y) (p.trans (zw5 m).symm) h (zS3 m nd)
theorem sort_out {α : Type} {ks : List (List Int)} {ds : List α} {q : Array Nat} {d : α} (hl : ks.length = ds.length) (nd : ks.Nodup) (hp : q.toList.Perm (List.range ds.length)) (hs : Srt (fun i => ks.getD i []) q ds.length) :
  q.toList.map (fun i => ds.getD i d) = (sortK (ks.zip ds)).map (·.2) := by
 have hz : (ks.zip ds).map (·.1) = ks := List.map_fst_zip (by omega)
 have e0 : (List.range ds.length).map (fun i => (ks.getD i [], ds.getD i d)) = ks.zip ds := by
  apply List.ext_getElem
  ·simp [hl]
  ·intro i h1 h2
   have a1 : i < ds.length := by simpa using h1
   have a2 : i < ks.length := by omega
   simp [a1, a2]
 have key : q.toList.map (fun i => (ks.getD i [], ds.getD i d)) = sortK (ks.zip ds) := by
  refine yd6 (by rw [← e0]; exact hp.map _) ?_ (by rw [hz]; exact nd)
  rw [List.pairwise_map, List.pairwise_iff_getElem]
  intro i j hi hj hij
  have sz : q.size = ds.length := zN3 hp
  have := hs i j hij (by simpa [sz] using hj)
  unfold gK at this
  rw [zp5, zp5] at this
  have ea : q[i]? = some q.toList[i] := by rw [Array.getElem_toList]; exact Array.getElem?_eq_getElem _
  have eb : q[j]? = some q.toList[j] := by rw [Array.getElem_toList]; exact Array.getElem?_eq_getElem _
  rw [ea, eb] at this
  exact this
 rw [← key, List.map_map]
 rfl
open PySem.W
def KTs (h : Heap) : List Value → List (List Int) → Prop
 | [], [] => True
 | v :: vs, k :: ks => (∃ a o its n, v = Value.ref a ∧ h.get? a = some o ∧ o.cls = .type "tuple" ∧ o.data = .seq its n ∧ IntsAre its.toList k ∧ k ≠ []) ∧ KTs h vs ks
 | _, _ => False
theorem KTs.len {h : Heap} : ∀ {vs : List Value} {ks : List (List Int)}, KTs h vs ks → vs.length = ks.length
 | [], [], _ => rfl
 | _ :: vs, _ :: ks, r => by rw [List.length_cons, List.length_cons, KTs.len r.2]
 | [], _ :: _, r => r.elim
 | _ :: _, [], r => r.elim
theorem KTs.get {h : Heap} : ∀ {vs : List Value} {ks : List (List Int)} {i : Nat}, KTs h vs ks → i < ks.length → ∃ a o its n, vs.getD i Value.none = Value.ref a ∧ h.get? a = some o ∧ o.cls = .type "tuple" ∧ o.data = .seq its n ∧ IntsAre its.toList (ks.getD i []) ∧ ks.getD i [] ≠ []
 | [], [], _, _, hi => by simp at hi
 | _ :: vs, _ :: ks, 0, r, _ => by simpa using r.1
 | _ :: vs, _ :: ks, i + 1, r, hi => by
  obtain ⟨a, o, its, n, q⟩ := KTs.get (i := i) r.2 (by simpa using hi)
  exact ⟨a, o, its, n, by simpa using q⟩
 | [], _ :: _, _, r, _ => r.elim
 | _ :: _, [], _, r, _ => r.elim
theorem KTs.firsts {h : Heap} : ∀ {vs : List Value} {ks : List (List Int)}, KTs h vs ks → ∃ fs : List Value, KatTups h vs fs ∧ fs.length = vs.length ∧ ∀ v ∈ fs, ∃ n t, v = Value.int n t
 | [], [], _ => ⟨[], KatTups.nil, rfl, fun _ z => nomatch z⟩
 | v :: vs, k :: ks, ⟨⟨a, o, its, n, e1, e2, e3, e4, e5, e6⟩, r⟩ => by
  obtain ⟨fs, q1, q2, q3⟩ := KTs.firsts r
  subst e1
  have : ∃ i t, its[0]? = some (Value.int i t) := by
   obtain ⟨l⟩ := its
   cases e5 with
   | nil => exact absurd rfl e6
   | cons i t _ => exact ⟨i, t, rfl⟩
  obtain ⟨i, t, h0⟩ := this
  refine ⟨_, KatTups.cons e2 e3 e4 h0 q1, by simp [q2], fun v hv => ?_⟩
  rcases List.mem_cons.mp hv with rfl | hv
  ·exact ⟨_, _, rfl⟩
  ·exact q3 v hv
 | [], _ :: _, r => r.elim
 | _ :: _, [], r => r.elim
section
variable {prog : Program} {w : World} {A : Around} {E : Value → Shared → Prop} {s : Shared}
theorem ym3 {vs : List Value} {ks : List (List Int)} {Q : SortKind → Shared → Prop} (h : KTs s.heap vs ks) (hn : 0 < vs.length) (q : Q (tuples' true) s) : wpAny (model prog w) A (keyKind' vs.toArray) Q E s := by
 obtain ⟨fs, q1, q2, q3⟩ := h.firsts
 refine kat_kind (T := .type "int") q1 (by omega) (fun v hv => ?_) (by decide) q
 obtain ⟨i, t, rfl⟩ := q3 v hv
 exact Looks.now
theorem yb9 {Q : Bool → Shared → Prop} {fin : Bool} : ∀ {xs ys : List Int} {us ws : List Value} (i : Nat), IntsAre us xs → IntsAre ws ys → fin = decide (xs.length < ys.length) → Q (lxI xs ys) s → KatLex prog w A true fin Q (us.zip ws) i s
 | _, _, _, _, i, .nil, .nil, e, q => by
  have e : fin = false := by simpa using e
  subst e
  exact kat_nil q
 | _, _, _, _, i, .nil, .cons _ _ _, e, q => by
  have e : fin = true := by simpa using e
  subst e
  exact kat_nil q
 | _, _, _, _, i, .cons _ _ _, .nil, e, q => by
  have e : fin = false := by simpa using e
  subst e
  exact kat_nil q
 | _, _, _, _, i, .cons a t r1, .cons b u r2, e, q => by
  rw [lxI] at q
  refine kat_cons (wpAny_eqBool_int ?_)
  by_cases z : a = b
  ·subst z
   rw [if_pos rfl] at q
   rw [beq_self_eq_true]
   exact kat_yes (yb9 (i + 1) r1 r2 (by rw [e]; simp) q)
  ·rw [if_neg z] at q
   rw [show (a == b) = false by simpa using z]
   refine kat_no ?_
   cases hi : (true && i == 0) with
   | true => exact oneLt_int q
   | false => exact kat_one _ _ (PyProof.Rows.lt_int (show PySem.W.BoolBack Q (.bool (decide (a < b))) s from q))
theorem ask_tups {vs : List Value} {ks : List (List Int)} {n : Nat} (h : KTs s.heap vs ks) (hn : ks.length = n) (i j : Nat) (C : Bool → Shared → Prop) (hi : i < n) (hj : j < n) (q : C (ltK (fun i => ks.getD i []) i j) s) : kas_ask prog w A (tuples' true) vs i j C s := by
 obtain ⟨a, o, its, m, e1, e2, e3, e4, e5, e6⟩ := h.get (i := i) (by omega)
 obtain ⟨a', o', its', m', f1, f2, f3, f4, f5, f6⟩ := h.get (i := j) (by omega)
 unfold kas_ask
 rw [e1, f1]
 refine kat_lt e2 e4 f2 f4 (yb9 0 e5 f5 ?_ q)
 have l1 := e5.length
 have l2 := f5.length
 rw [Array.length_toList] at l1 l2
 rw [l1, l2]
theorem run_tups {vs us : List Value} {ks : List (List Int)} {Q : SortSt → Shared → Prop} (h : KTs s.heap vs ks) (hl : vs.length = us.length) (h2 : 2 ≤ us.length) (h64 : us.length < 64) (nd : ks.Nodup)
  (q : ∀ (p : Array Nat) (st : SortSt), PmK us.length p → Srt (fun i => ks.getD i []) p us.length → (arrOf st).map (·.2) = List.toArray (p.toList.map fun i => us.getD i Value.none) → failedOf st = none → Q st s) :
  wpAny (model prog w) A ((sortRuns').run (SortSt.mk' (tuples' true) (vs.toArray.zip us.toArray) #[] 7 none)) (fun r s' => Q r.2 s') E s := by
 have hk : ks.length = us.length := by rw [← h.len, hl]
 refine kat_run (G := fun p s' => s' = s ∧ PmK us.length p ∧ Srt (fun i => ks.getD i []) p us.length) hl h2 h64 (fun p st' s' h1 h3 h4 h5 => ?_) ?_
 ·obtain ⟨rfl, h5, h6⟩ := h5
  exact q p st' h5 h6 (kat_snds hl h3) h4
 ·have inj : ∀ i j, i < us.length → j < us.length → ks.getD i [] = ks.getD j [] → i = j := fun i j hi hj e => by
   have key : ∀ a b : Nat, a < b → b < us.length → ks.getD a [] ≠ ks.getD b [] := fun a b hab hb => by
    have := List.pairwise_iff_getElem.mp nd a b (by omega) (by omega) hab
    have ea : ks.getD a [] = ks[a]'(by omega) := by simp [show a < ks.length by omega]
    have eb : ks.getD b [] = ks[b]'(by omega) := by simp [show b < ks.length by omega]
    rw [ea, eb]; exact this
   rcases Nat.lt_trichotomy i j with z | z | z
   ·exact absurd e (key i j z hj)
   ·exact z
   ·exact absurd e.symm (key j i z hi)
  exact Pw.wp (fun i j C hi hj => ask_tups h hk i j C hi hj) (fun p hp => ⟨rfl, hp⟩) _ (sort_pw (κ := fun i => ks.getD i []) inj h2)
end
def intsD : List D → Option (List Int)
 | [] => some []
 | .int i :: r => (intsD r).map (i :: ·)
 | _ => none
def keyD : D → Option (List Int)
 | .tup ds => intsD ds
 | _ => none
theorem yc4 : ∀ {ds : List D} {ns : List Int}, intsD ds = some ns → ds = ns.map D.int
 | [], ns, h => by cases h; rfl
 | .int i :: r, ns, h => by
  simp only [intsD] at h
  cases q : intsD r with
  | none => rw [q] at h; cases h
  | some m => rw [q] at h; cases h; rw [yc4 q]; rfl
 | .non :: _, _, h => by cases h
 | .bl _ :: _, _, h => by cases h
 | .str _ :: _, _, h => by cases h
 | .lst _ :: _, _, h => by cases h
 | .tup _ :: _, _, h => by cases h
 | .scr _ :: _, _, h => by cases h
 | .raw _ :: _, _, h => by cases h
 | .exc _ :: _, _, h => by cases h
theorem keyD_eq {d : D} {ns : List Int} (h : keyD d = some ns) : d = .tup (ns.map D.int) := by
 cases d <;> first | cases h | skip
 rename_i ds
 rw [yc4 (ds := ds) h]
def keysD : List D → Option (List (List Int))
 | [] => some []
 | d :: r => match keyD d, keysD r with
  | some k, some ks => some (k :: ks)
  | _, _ => none
theorem yc1 : ∀ {ds : List D} {ks : List (List Int)}, keysD ds = some ks → ds = ks.map fun k => D.tup (k.map D.int)
 | [], ks, h => by cases h; rfl
 | d :: r, ks, h => by
  simp only [keysD] at h
  cases q : keyD d with
  | none => rw [q] at h; cases h
  | some k =>
   cases q2 : keysD r with
   | none => rw [q, q2] at h; cases h
   | some ks' =>
    rw [q, q2] at h; cases h
    rw [keyD_eq q, yc1 q2]; rfl
section
variable [Tabs] {X : Cx} {pins : List (Addr × Obj)} {σ : St} {F H : Hp} {s : Shared}
theorem yc3 : ∀ {ns : List Int} {vs : List V} {us : List Value}, Reps X.K F (ns.map D.int) vs → Vals vs us → IntsAre us ns
 | [], _, _, r, v => by
  simp only [List.map_nil, Reps] at r; subst r
  cases v; exact .nil
 | n :: ns, _, _, r, v => by
  simp only [List.map_cons, Reps] at r
  obtain ⟨x, xs, rfl, rx, rr⟩ := r
  simp only [Rep] at rx
  subst rx
  cases v with
  | cons e t =>
   rename_i u us
   obtain ⟨t', e⟩ : ∃ t', u = Value.int n t' := e
   subst e
   exact .cons _ _ (yc3 rr t)
theorem kts_of (I : Inv X pins σ H s) (fh : Same F H) : ∀ {ks : List (List Int)} {vs : List V} {us : List Value}, Reps X.K F (ks.map fun k => D.tup (k.map D.int)) vs → Vals vs us → (∀ k ∈ ks, k ≠ []) → KTs s.heap us ks
 | [], _, _, r, v, _ => by
  simp only [List.map_nil, Reps] at r; subst r
  cases v; exact trivial
 | k :: ks, _, _, r, v, ne => by
  simp only [List.map_cons, Reps] at r
  obtain ⟨x, xs, rfl, rx, rr⟩ := r
  simp only [Rep] at rx
  obtain ⟨a, ws, rfl, q, t⟩ := rx
  obtain ⟨its, rv, ⟨o, eo, hc, n, hd⟩, hz⟩ := I.tuple (Same.seqT fh q)
  cases v with
  | cons e tl =>
   rename_i u us
   have e : u = Value.ref a := e
   subst e
   exact ⟨⟨a, o, its.toArray, n, rfl, eo, hc, hd, by simpa using yc3 t rv, ne k List.mem_cons_self⟩, kts_of I fh rr tl fun k hk => ne k (List.mem_cons_of_mem _ hk)⟩
theorem Reps.pick {K : PySem.W.Frag} {ds : List D} {vs : List V} (r : Reps K F ds vs) : ∀ (q : List Nat), (∀ i ∈ q, i < ds.length) → Reps K F (q.map fun i => ds.getD i .non) (q.map fun i => vs.getD i .non)
 | [], _ => Reps.nil
 | i :: q, h => by
  have hi := h i List.mem_cons_self
  obtain ⟨v, e1, e2⟩ := r.get (i := i) (List.getElem?_eq_getElem hi)
  have z1 : ds.getD i .non = ds[i] := by simp [hi]
  have z2 : vs.getD i .non = v := by simp [e1]
  rw [List.map_cons, List.map_cons, z1, z2]
  exact Reps.cons e2 (Reps.pick r q fun j hj => h j (List.mem_cons_of_mem _ hj))
theorem zR8 {vs : List V} {us : List Value} (r : Vals vs us) : ∀ (q : List Nat), (∀ i ∈ q, i < vs.length) → Vals (q.map fun i => vs.getD i .non) (q.map fun i => us.getD i .none)
 | [], _ => .nil
 | i :: q, h => by
  have hi := h i List.mem_cons_self
  obtain ⟨u, e1, e2⟩ := r.get (i := i) (List.getElem?_eq_getElem hi)
  have z1 : vs.getD i .non = vs[i] := by simp [hi]
  have z2 : us.getD i .none = u := by simp [e1]
  rw [List.map_cons, List.map_cons, z1, z2]
  exact .cons e2 (zR8 r q fun j hj => h j (List.mem_cons_of_mem _ hj))
end
open PySem.W
section
variable {X : Cx} {pins : List (Addr × Obj)} {σ : St} {F H : Hp} {τ : DS} {s : Shared} {Q : VK} {E : Value → Shared → Prop}
theorem Inv.relist (I : Inv X pins σ H s) {a : Addr} {xs ys : List V} {us ws : List Value} {n : Nat} {g : Array Value → Array Value} (e : H a = some (.lst xs)) (o : s.heap.get? a = some (seqObj "list" us.toArray n)) (hg : g us.toArray = ws.toArray) (r : Vals ys ws) (hz : ys.length ≤ sizeLine) :
  Inv X pins σ (upd H a (.lst ys)) { s with heap := s.heap.update a (Obj.mapSeq g) } := by
 have h1 := get?_update_seq o g
 rw [hg] at h1
 exact I.write (t' := s.toks) (by rw [e]; exact trivial) (.inl rfl) (fun b u hb q => by rw [Heap.get?_update_ne _ _ _ _ hb]; exact q) ⟨_, h1⟩ ⟨hz, ws, _, r, h1⟩
theorem Inv.settle (I : Inv X (pins ++ [p]) σ H s) {D : Addr} {n : Nat} {ys : List V} {ws : List Value} {g : Array Value → Array Value} (hp : p = (D, seqObj "list" #[] n)) (hg : g #[] = ws.toArray) (r : Vals ys ws) (hz : ys.length ≤ sizeLine)
  (h0 : X.s₀.heap.objs.size ≤ D) (hc : ∀ x c, X.env.cells.lookup x = some c → c ≠ D) (hn : ∀ q ∈ X.pn ++ pins, q.1 ≠ D) : Inv X pins σ (upd H D (.lst ys)) { s with heap := s.heap.update D (Obj.mapSeq g) } := by
 subst hp
 obtain ⟨e, nD, neL, nf, _⟩ := I.pin (D, seqObj "list" #[] n) (by simp)
 have J : Inv X pins σ H s := I.pins_of fun q hq => I.pin q (List.mem_append_right _ (List.mem_append_left _ hq))
 have h1 := get?_update_seq e g
 rw [hg] at h1
 have kp : ∀ b u, b ≠ D → s.heap.get? b = some u → (s.heap.update D (Obj.mapSeq g)).get? b = some u := fun b u hb q => by rw [Heap.get?_update_ne _ _ _ _ hb]; exact q
 refine J.step (g' := s.gens) (d' := s.drawn) (t' := s.toks) (ch := [D]) (fun b hb => ?_) (fun b o _ _ hb q _ => kp b o (by simpa using hb) q) (fun b o _ _ hb q _ => ⟨o.slots, kp b o (by simpa using hb) q⟩) (fun b o hb _ q => by rw [zb3 (by simpa using hb)]; exact q)
  (fun b o hb q => ⟨o, kp b o (by simpa using hb) q⟩) (fun b xs q => by rw [zb3 (zc7 q nD)]; exact q) (fun b o u q => by rw [zb3 (zc7 q nD)]; exact q) (fun b ps q => ⟨#[], by rw [zb3 (zc7 q nD), q]; simp⟩) (fun m hm => ?_) ?_ J.bare
 ·have : b = D := by simpa using hb
  subst this
  exact ⟨.inr h0, neL, hc, hn⟩
 ·obtain ⟨o, es, ep, ho, r'⟩ := hm
  exact ⟨o, es, ep, kp _ o (Ne.symm neL) ho, r'⟩
 ·intro b u q
  by_cases hb : b = D
  ·subst hb
   rw [zb2] at q; cases q
   exact ⟨hz, ws, _, r, h1⟩
  ·rw [zb3 hb] at q
   refine (J.hok b u q).stay (fun c v hc' q' => kp c v ?_ q') (fun c q' => by rw [zb3 (zc7 q' nD)]; exact q') fun c xs q' => by rw [zb3 (zc7 q' nD)]; exact q'
   rcases hc' with z | z
   ·rw [z]; exact hb
   ·exact zc7 z nD
theorem yf4 : Vals ([] : List V) [] := .nil
theorem yg3 {D kS : Addr} {e1 : Nat} {st : SortSt} {kvs ovs : List V} {out : List Value} {P : PySem.Fin → Shared → Prop} {A : Around} (I : Inv X (pins ++ [(D, seqObj "list" #[] e1)]) σ H s) (hk : H kS = some (.lst kvs)) (hout : (arrOf st).map (·.2) = List.toArray out) (hf : failedOf st = none) (hz : out.length < 64)
  (r : Vals ovs out) (hkz : kvs.length ≤ sizeLine) (h0 : X.s₀.heap.objs.size ≤ D) (hc : ∀ x c, X.env.cells.lookup x = some c → c ≠ D) (hn : ∀ q ∈ X.pn ++ pins, q.1 ≠ D)
  (h : ∀ s', Inv X pins σ (upd (upd H kS (.lst [])) D (.lst ovs)) s' → P (.done (.ret .none)) s') : wpAny (model X.prog X.w) A (ksk_tail D false e1 (.ref kS) st) P E s := by
 obtain ⟨z1, its, n, rk, ek⟩ := I.hok kS _ hk
 have lk : its.length ≤ sizeLine := by rw [← rk.length]; exact hkz
 have I1 := Inv.relist (g := fun _ => #[]) I hk ek (ws := []) rfl yf4 (Nat.zero_le _)
 obtain ⟨eD, nD, _⟩ := I1.pin (D, seqObj "list" #[] e1) (by simp)
 unfold ksk_tail
 try dsimp only
 refine wpAny_bind (listUpdate_at ek rfl ?_ (by rw [List.size_toArray]; exact lk) (Nat.zero_le _))
 refine wpAny_bind (wpAny_letGo ?_)
 refine wpAny_bind (seqEpoch_at eD rfl ?_)
 refine wpAny_bind (listUpdate_at eD rfl ?_ (Nat.zero_le _) ?_)
 ·rw [hf]
  simp only [bne_self_eq_false, Bool.false_eq_true, if_false]
  exact wpAny_pure (h _ (Inv.settle I1 rfl (ws := out) hout r (by rw [r.length]; exact Nat.le_of_lt (zq6 (by omega))) h0 hc hn))
 ·simp only [Bool.false_eq_true, if_false]
  rw [hout, List.size_toArray]
  exact Nat.le_trans (Nat.le_of_lt (zq6 (by omega))) (Nat.le_succ _)
theorem yd5 : ∀ {kz : List (List Int)} {ds : List D}, kz.length = ds.length → ds.length < 2 → (sortK (kz.zip ds)).map (·.2) = ds
 | [], [], _, _ => rfl
 | [a], [b], _, _ => rfl
 | [], _ :: _, h, _ => by simp at h
 | [_], [], h, _ => by simp at h
 | [_], _ :: _ :: _, h, _ => by simp at h
 | _ :: _ :: _, ds, h, h2 => by simp at h; omega
theorem end_ok {Da kS : Addr} {e1 : Nat} {kvs vs : List V} {us : List Value} {ds : List D} {kz : List (List Int)} {P : PySem.Fin → Shared → Prop} {A : Around} (I : Inv X (pins ++ [(Da, seqObj "list" #[] e1)]) σ H s) (hk : H kS = some (.lst kvs)) {ks : List Value} {n : Nat} (ek : s.heap.get? kS = some (seqObj "list" ks.toArray n)) (rk : Vals kvs ks)
  (fh : Same F H) (kr : Reps X.K F (kz.map fun k => FD.D.tup (k.map FD.D.int)) kvs) (ne : ∀ k ∈ kz, k ≠ []) (nd : kz.Nodup) (hl : kz.length = ds.length) (rs : Reps X.K F ds vs) (rv : Vals vs us) (hz : us.length < 64)
  (h0 : X.s₀.heap.objs.size ≤ Da) (hc : ∀ x c, X.env.cells.lookup x = some c → c ≠ Da) (hn : ∀ q ∈ X.pn ++ pins, q.1 ≠ Da)
  (h : ∀ s' ovs, Inv X pins σ (upd (upd H kS (.lst [])) Da (.lst ovs)) s' → Reps X.K F ((sortK (kz.zip ds)).map (·.2)) ovs → P (.done (.ret .none)) s') : wpAny (model X.prog X.w) A (ksk_end Da false us.toArray e1 (.ref kS) ks.toArray) P E s := by
 have l1 : ds.length = us.length := by rw [rs.length, rv.length]
 have l2 : ks.length = us.length := by rw [← rk.length, ← kr.length, List.length_map, hl, l1]
 have hkz : kvs.length ≤ sizeLine := by rw [rk.length, l2]; exact Nat.le_of_lt (zq6 (by omega))
 unfold ksk_end
 try dsimp only
 simp only [Bool.false_eq_true, if_false]
 by_cases h2 : us.length < 2
 ·have h2' : us.toArray.size < 2 := by rw [List.size_toArray]; exact h2
  rw [if_pos h2', if_pos h2']
  refine wpAny_bind (wpAny_pure ?_)
  rw [StateT.run_pure]
  refine wpAny_bind (wpAny_pure ?_)
  try dsimp only
  refine yg3 (out := us) (ovs := vs) I hk ?_ rfl hz rv hkz h0 hc hn fun s' J => h s' vs J ?_
  ·show ((ks.toArray.zip us.toArray).map (·.2)) = us.toArray
   apply Array.toList_inj.mp
   rw [Array.toList_map, ksk_zip]
   exact List.map_snd_zip (by simp [l2])
  ·rw [yd5 hl (by omega)]; exact rs
 ·have h2' : ¬ us.toArray.size < 2 := by rw [List.size_toArray]; exact h2
  rw [if_neg h2', if_neg h2']
  have kt := kts_of I fh kr rk ne
  refine wpAny_bind (ym3 kt (by omega) ?_)
  refine wpAny_bind (run_tups (Q := fun st s' => wpAny (model X.prog X.w) A (ksk_tail Da false e1 (.ref kS) st) P E s') kt l2 (by omega) hz nd fun p st h3 h4 h5 h6 => ?_)
  have hp : ∀ i ∈ p.toList, i < us.length := fun i hi => by simpa using h3.mem_iff.mp hi
  refine yg3 (ovs := p.toList.map fun i => vs.getD i .non) I hk h5 h6 ?_ (zR8 rv _ fun i hi => by rw [rv.length]; exact hp i hi) hkz h0 hc hn fun s' J => h s' _ J ?_
  ·rw [List.length_map, h3.length_eq, List.length_range]; exact hz
  ·rw [← sort_out (q := p) (d := .non) hl nd (by rw [l1]; exact h3) (by rw [l1]; exact h4)]
   exact Reps.pick rs _ fun i hi => by rw [l1]; exact hp i hi
end
open PySem.W
section
variable {X : Cx} {pins : List (Addr × Obj)} {σ : St} {F H : Hp} {τ : DS} {s : Shared} {Q : VK} {E : Value → Shared → Prop}
theorem yd4 {l f : Addr} {ds : List D} {vs : List V} {kz : List (List Int)} (I : Inv X pins σ H s) (fh : Same F H) (hl : F l = some (.lst vs)) (rs : Reps X.K F ds vs) (h64 : ds.length < 64) (hk : kz.length = ds.length) (nd : kz.Nodup) (ne : ∀ k ∈ kz, k ≠ [])
  (key : ∀ (i : Nat) (d : D) (k : List Int), ds[i]? = some d → kz[i]? = some k → ∀ (pins' : List (Addr × Obj)) (s' : Shared) (F' H' : Hp) (v : V) (u : Value) (Q' : VK), Inv X pins' σ H' s' → (∀ p ∈ pins, p ∈ pins') → Ext F H F' H' → Rep X.K F' d v → RelV v u →
   (∀ kv F'' H'', Ext F' H' F'' H'' → Rep X.K F'' (.tup (k.map D.int)) kv → Q' kv H'') → wpAny (model X.prog X.w) X.A.in1.in1 (call (.ref f) [u]) (EP X pins' σ Q') (fun _ _ => False) s')
  (hQ : ∀ Da F' H', Ext F H F' H' → Rep X.K F' (.lst ((sortK (kz.zip ds)).map (·.2))) (.ref Da) → Q (.ref Da) H') :
  wpAny (model X.prog X.w) X.A (call (.builtin "sorted") [.ref l] [(Str.ofString "key", .ref f)]) (EP X pins σ Q) E s := by
 obtain ⟨us, rv, ⟨o, nn, eo, hc, hd0, hd⟩, hz⟩ := I.list (SqL.of (K := X.K) (fh _ _ hl))
 have hil : s.heap.IsList l us.toArray := ⟨o, eo, hc, nn, hd⟩
 have l1 : ds.length = us.length := by rw [rs.length, rv.length]
 have sz : us.length ≤ sizeLine := Nat.le_of_lt (zq6 (by omega))
 refine call_function_entry_kw kind_sorted plain_sorted entry_sorted (ksk_s1 _ _) ?_
 unfold Builtin.«sorted»
 refine wpAny_bind (m := checkCount "sorted" 1 1 _) (wpAny_pure ?_)
 refine wpAny_bind (collect_list hil ?_ sz)
 refine wpAny_bind (wpAny_newList ?_ sz)
 have keep1 : ∀ b u, s.heap.get? b = some u → ((s.heap.push (seqObj "list" #[] 0)).update s.heap.objs.size (Obj.mapSeq (· ++ us.toArray))).get? b = some u := fun b u q => by
  have hb : b < s.heap.objs.size := Heap.lt_size q
  rw [Heap.get?_update_ne _ _ _ _ (Nat.ne_of_lt hb), Heap.get?_push_ne _ _ _ (Nat.ne_of_lt hb)]
  exact q
 have size1 : s.heap.objs.size ≤ ((s.heap.push (seqObj "list" #[] 0)).update s.heap.objs.size (Obj.mapSeq (· ++ us.toArray))).objs.size := by rw [Heap.size_update, size_push']; omega
 generalize hh1 : (s.heap.push (seqObj "list" #[] 0)).update s.heap.objs.size (Obj.mapSeq (· ++ us.toArray)) = h1 at keep1 size1
 have hD : (h1.push (seqObj "list" us.toArray 0)).get? h1.objs.size = some (seqObj "list" us.toArray 0) := Heap.get?_push_size _ rfl
 have keep2 : ∀ b u, s.heap.get? b = some u → (h1.push (seqObj "list" us.toArray 0)).get? b = some u := fun b u q => Heap.get?_push_of_some _ (keep1 b u q)
 generalize hDa : h1.objs.size = Da at hD size1
 have neD : ∀ b u, s.heap.get? b = some u → b ≠ Da := fun b u q => Nat.ne_of_lt (Nat.lt_of_lt_of_le (Heap.lt_size q) size1)
 generalize hh2 : h1.push (seqObj "list" us.toArray 0) = h2 at hD keep2
 have ltD : Da < h2.objs.size := Heap.lt_size hD
 refine wpAny_bind (wpAny_holding (wpAny_call_entry_kw (rest := []) slot_list_sort ⟨_, hD, rfl⟩ entry_list_sort ?_ (ksk_l1 _ _)))
 show wpAny (model X.prog X.w) X.A.in1.in1 (Builtin.«list.sort» ⟨[.ref Da], [(Str.ofString "key", .ref f)]⟩) _ _ _
 rw [ksk_t1 f Da]
 unfold ksk_tree
 refine wpAny_bind (listItems_at hD rfl ?_)
 refine wpAny_bind (listUpdate_at hD rfl ?_ (by rw [List.size_toArray]; exact sz) (Nat.zero_le _))
 have keep3 : ∀ b u, s.heap.get? b = some u → (h2.update Da (Obj.mapSeq fun _ => (#[] : Array Value))).get? b = some u := fun b u q => by
  rw [Heap.get?_update_ne _ _ _ _ (neD b u q)]; exact keep2 b u q
 obtain ⟨e1, hD3⟩ : ∃ e1, (h2.update Da (Obj.mapSeq fun _ => (#[] : Array Value))).get? Da = some (seqObj "list" #[] e1) := ⟨_, get?_update_seq hD fun _ => #[]⟩
 generalize h2.update Da (Obj.mapSeq fun _ => (#[] : Array Value)) = h3 at keep3 hD3
 refine wpAny_bind (seqEpoch_at hD3 rfl ?_)
 refine wpAny_bind (wpAny_newTuple ?_ (by show us.length ≤ sizeLine; exact sz))
 refine wpAny_bind (wpAny_newList ?_ (Nat.zero_le _))
 refine wpAny_holding ?_
 have hDa0 : s.heap.objs.size ≤ Da := size1
 have nH : H Da = none := I.hok.fresh hDa0
 have neL : Da ≠ X.env.locals := (Nat.ne_of_lt (Nat.lt_of_lt_of_le I.lt hDa0)).symm
 have pinD : ∀ q ∈ X.pn ++ pins, q.1 ≠ Da := fun q hq => neD _ _ (I.pin q hq).1
 have cellD : ∀ x c, X.env.cells.lookup x = some c → c ≠ Da := fun x c e => by
  obtain ⟨v, oc, hoc, _⟩ := I.cell x c e
  exact neD _ _ hoc
 have I1 : Inv X pins σ H { s with heap := h3.push (seqObj "tuple" us.toArray 0) } := I.kept (t' := s.toks) fun b u q => Heap.get?_push_of_some _ (keep3 b u q)
 have I2 : Inv X (pins ++ [(Da, seqObj "list" #[] e1)]) σ H { s with heap := h3.push (seqObj "tuple" us.toArray 0) } := I1.pins_of fun q hq => by
  rcases List.mem_append.mp hq with hq | hq
  ·exact I1.pin q (List.mem_append_right _ hq)
  ·have : q = (Da, seqObj "list" #[] e1) := by simpa using hq
   subst this
   exact ⟨Heap.get?_push_of_some _ hD3, nH, neL, I.nofs hDa0, fun v z => nomatch z⟩
 have szk : s.heap.objs.size ≤ (h3.push (seqObj "tuple" us.toArray 0)).objs.size := Nat.le_of_lt (Nat.lt_of_le_of_lt hDa0 (Heap.lt_size (Heap.get?_push_of_some _ hD3)))
 have hkS : H (h3.push (seqObj "tuple" us.toArray 0)).objs.size = none := I.hok.fresh szk
 have I3 := I2.laid (t' := s.toks) (a := (h3.push (seqObj "tuple" us.toArray 0)).objs.size) (o := .lst []) (h' := (h3.push (seqObj "tuple" us.toArray 0)).push (seqObj "list" #[] 0)) (fun b u q => Heap.get?_push_of_some _ q) (Nat.le_refl _) ⟨Nat.zero_le _, [], 0, .nil, Heap.get?_push_size _ rfl⟩
 generalize hkk : (h3.push (seqObj "tuple" us.toArray 0)).objs.size = kS at hkS I3
 have h0D : X.s₀.heap.objs.size ≤ Da := Nat.le_trans I.sz hDa0
 unfold ksk_rest
 refine wpAny_bind (wpAny_rule ?_)
 first
  | rw [List.forIn_toArray]
  | (rw [← Array.forIn_toList]; simp only [List.toList_toArray])
 refine wpAny_bind (ksk_fold (fun i s' => ∃ F2 Hm kvs, Ext F H F2 Hm ∧ Hm kS = none ∧ Inv X (pins ++ [(Da, seqObj "list" #[] e1)]) σ (upd Hm kS (.lst kvs)) s' ∧ Reps X.K F2 ((kz.take i).map fun k => D.tup (k.map D.int)) kvs) us 0 _
  ⟨F, H, [], Ext.refl fh, hkS, I3, by simpa using Reps.nil⟩ ?step ?done)
 case step =>
  rintro j x s' hx ⟨F2, Hm, kvs, x2, hm, I4, rk⟩
  simp only [Nat.zero_add] at rk ⊢
  have hj : j < us.length := (List.getElem?_eq_some_iff.mp hx).1
  obtain ⟨d, hd⟩ : ∃ d, ds[j]? = some d := ⟨_, List.getElem?_eq_getElem (by omega)⟩
  obtain ⟨k, hkj⟩ : ∃ k, kz[j]? = some k := ⟨_, List.getElem?_eq_getElem (by omega)⟩
  obtain ⟨v, hv, rd⟩ := rs.get hd
  obtain ⟨u, hu, ru⟩ := rv.get hv
  rw [hx] at hu; cases hu
  have xo : Ext F2 Hm F2 (upd Hm kS (.lst kvs)) := Ext.open x2.fh hm
  refine wpAny_bind (wpAny_attempt (wpAny_mono (key j d k hd hkj _ s' F2 _ v x (fun kv H'' => ∃ F'', Ext F2 (upd Hm kS (.lst kvs)) F'' H'' ∧ Rep X.K F'' (.tup (k.map D.int)) kv) I4 (fun p hp => List.mem_append_left _ hp) (x2.trans xo) (rd.mono x2.ff) ru (fun kv F'' H'' y r => ⟨F'', y, r⟩)) (fun kval s'' hk'' => ?_) fun _ _ z => z.elim))
  obtain ⟨kv, H'', I5, rkv, F'', x5, rp⟩ := hk''
  have hkS5 : H'' kS = some (.lst kvs) := x5.hh _ _ zb2
  obtain ⟨z1, its, n, rki, ek⟩ := I5.hok kS _ hkS5
  have lk : kvs.length = j := by
   rw [← rk.length, List.length_map, List.length_take]; omega
  have li : its.length = j := by rw [← rki.length]; exact lk
  have I6 := Inv.relist (g := (·.push kval)) I5 hkS5 ek (ws := its ++ [kval]) (by simp) (rki.append (.cons rkv .nil)) (by rw [List.length_append, lk]; exact Nat.le_of_lt (zq6 (by simp; omega)))
  obtain ⟨y1, y2⟩ := zA1 x2 hm x5
  try dsimp only
  refine wpAny_bind (listUpdate_at ek rfl ?_ (by rw [List.size_toArray, li]; exact Nat.le_of_lt (zq6 (by omega))) ?_)
  ·refine wpAny_pure ⟨rfl, F'', zr3 H'' kS, kvs ++ [kv], y1, zr2 _ _, by rw [zy3]; exact I6, ?_⟩
   have tk : kz.take (j + 1) = kz.take j ++ [k] := by
    rw [List.take_add_one, hkj]; rfl
   rw [tk, List.map_append]
   exact (rk.mono x5.ff).append (Reps.cons rp Reps.nil)
  ·rw [Array.size_push, List.size_toArray, li]; exact Nat.le_trans (Nat.le_of_lt (zq6 (by omega))) (Nat.le_succ _)
 case done =>
  rintro s' ⟨F2, Hm, kvs, x2, hm, I4, rk⟩
  simp only [Nat.zero_add] at rk
  rw [List.take_of_length_le (by omega)] at rk
  obtain ⟨z1, ks, n, rki, ek⟩ := I4.hok kS _ zb2
  refine wpAny_bind (listItems_at ek rfl ?_)
  have xo : Ext F2 Hm F2 (upd Hm kS (.lst kvs)) := Ext.open x2.fh hm
  refine end_ok I4 zb2 ek rki xo.fh rk ne nd hk (rs.mono x2.ff) rv (by omega) h0D cellD pinD fun s5 ovs J ro => ?_
  refine ⟨_, rfl, wpAny_pure ⟨_, rfl, .ref Da, _, J, rfl, hQ Da (upd F2 Da (.lst ovs)) _ ?_ ?_⟩⟩
  ·have hmD : Hm Da = none := by
    obtain ⟨_, nD, _⟩ := I4.pin (Da, seqObj "list" #[] e1) (by simp)
    by_cases z : Da = kS
    ·rw [z]; exact hm
    ·rw [zb3 z] at nD; exact nD
   have eq1 : upd (upd (upd Hm kS (.lst kvs)) kS (.lst [])) Da (.lst ovs) = upd (upd Hm kS (.lst [])) Da (.lst ovs) := by
    congr 1; funext b; unfold upd; split <;> rfl
   rw [eq1]
   have kD : (upd Hm kS (.lst [])) Da = none := by
    obtain ⟨_, nD, _⟩ := I4.pin (Da, seqObj "list" #[] e1) (by simp)
    by_cases z : Da = kS
    ·rw [z, zb2] at nD; cases nD
    ·rw [zb3 z]; exact hmD
   exact (x2.trans (Ext.open (o := .lst []) x2.fh hm)).trans (Ext.new ((x2.trans (Ext.open (o := .lst []) x2.fh hm)).fh) kD)
  ·have hF : F2 Da = none := by
    obtain ⟨_, nD, _⟩ := I4.pin (Da, seqObj "list" #[] e1) (by simp)
    exact zc6 xo.fh nD
   simp only [Rep]
   exact ⟨Da, ovs, rfl, zb2, ro.mono (zf7 hF)⟩
end
open PySem.W
def _root_.L2.Cx.lam (X : Cx) (scope : Scope) (N : List Str) (s : Shared) (H : Hp) (qual : Str) (f : Addr) (cd : Value) : Cx :=
 { prog := X.prog, w := X.w, K := X.K, mg := X.mg, base := X.base, A := X.A.in1.in1.deeper (envX qual scope s.heap.objs.size f cd (zp8 scope X.env)), N := N, s₀ := s, H₀ := H, env := envX qual scope s.heap.objs.size f cd (zp8 scope X.env), outer := X.stack,
   stack := envX qual scope s.heap.objs.size f cd (zp8 scope X.env) :: X.stack, ex := [], fn := fun _ => false, calm := true, pn := [], xe := fun _ _ => False }
section
variable {X : Cx} {scope : Scope} {N' : List Str} {pins : List (Addr × Obj)} {σ σ' : St} {F H : Hp} {τ : DS} {s : Shared}
theorem lam_inv {h1 : Heap} {t : Nat} {qual p : Str} {f : Addr} {cd u : Value} {v : V} (S : zl7 X scope) (hd : X.A.handled = none) (I : Inv X pins σ H s) (hp : scope.names.lookup p = some .local) (hN : N'[0]? = some p) (rv : RelV v u)
  (hn : h1.Ns s.heap.objs.size fun x => ([(p, u)] : List (Str × Value)).reverse.lookup x) (hsb : ∀ b o, s.heap.get? b = some o → h1.get? b = some o) (hl : σ'.length = N'.length) (h0 : σ'[0]? = some (some v))
  (hσ : ∀ (i : Nat) (v : V), i ≠ 0 → σ'[i]? = some (some v) → ∃ (x : Str) (j : Nat), N'[i]? = some x ∧ X.N[j]? = some x ∧ σ[j]? = some (some v) ∧ scope.names.lookup x = some .free) :
  Inv (X.lam scope N' s H qual f cd) [] σ' H { s with heap := h1, toks := t } := by
 have hH : H s.heap.objs.size = none := I.hok.fresh (Nat.le_refl _)
 have cl : ∀ {x c}, (zp8 scope X.env).lookup x = some c → X.env.cells.lookup x = some c := fun h => zJ2 S I.ok h
 have kept : ∀ {c v}, s.heap.IsCell c v → h1.IsCell c v := fun ⟨o, e, d⟩ => ⟨o, hsb _ o e, d⟩
 have noA : ∀ b : Addr, b ∉ (X.lam scope N' s H qual f cd).ex := fun b z => absurd (show b ∈ ([] : List Addr) from z) (by simp)
 refine ⟨⟨I.ok.mod, S.kind, rfl, rfl, Nat.le_refl _, fun x y c e1 e2 => I.ok.inj x y c (cl e1) (cl e2), fun x hx => ?_, fun x c hf _ => absurd hf (by simp [Cx.lam]), fun _ => hd, Around.frames_deeper (show X.A.in1.in1.frames = some X.stack from I.ok.frames), .inr ⟨rfl, rfl⟩, fun b z => absurd z (noA b), I.bs, Nat.le_trans I.ok.bsz I.sz, fun b _ _ => noA b, fun b z => absurd z (noA b), I.stack, I.stkFree⟩,
  I.os.symm ▸ rfl, I.bare, Un.kept hsb, ⟨_, hn, fun i x v' e1 e2 e3 => ?_⟩, fun x c e => ?_, hH, fun x c e => I.freeC x c (cl e), fun p hp => absurd (show p ∈ ([] : List (Addr × Obj)) from hp) (by simp), I.hok.kept hsb, hl⟩
 ·have hx : scope.names.lookup x = some .cell ∨ scope.names.lookup x = some .free := hx
  rcases hx with z | z
  ·exact absurd rfl (S.nocell _ (PySem.mem_of_lookup z))
  ·exact zA3 (.inl ⟨_, PySem.mem_of_lookup z, rfl, rfl⟩)
 ·have e1 : N'[i]? = some x := e1
  by_cases hi : i = 0
  ·subst hi
   rw [hN] at e1; cases e1
   rw [h0] at e2; cases e2
   exact ⟨u, rv, .inl ⟨hp, by simp [List.lookup]⟩⟩
  ·obtain ⟨x', j, e4, e5, e6, e9⟩ := hσ i v' hi e2
   have hy := PySem.mem_of_lookup e9
   rw [e1] at e4; cases e4
   have kd := S.free _ hy rfl
   obtain ⟨m, hm, hl⟩ := I.loc
   obtain ⟨u', ru, lk⟩ := hl j x v' e5 e6 (kd.elim (fun z => .inr (.inl z)) fun z => .inr (.inr z))
   refine ⟨u', ru, ?_⟩
   rcases lk with ⟨z, _⟩ | ⟨z, c, hc, hcell⟩
   ·rcases kd with k | k <;> rw [k] at z <;> cases z
   ·obtain ⟨c', hc'⟩ := zA3 (env := X.env) (names := scope.names) (cs := []) (x := x) (.inl ⟨_, hy, rfl, rfl⟩)
    have := cl hc'
    rw [hc] at this; cases this
    exact .inr ⟨.inr e9, c, hc', kept hcell⟩
 ·obtain ⟨v, z⟩ := I.cell x c (cl e)
  exact ⟨v, kept z⟩
def lamD (idx : List Nat) (fb : FE) (τ : DS) (d : D) : Rs D := fb ((tau0 1 idx τ).set 0 (some (.val d)))
theorem lam_call {f c' : Addr} {qual p : Str} {params : Arguments} {body : Expr} {pm ctv u : Value} {v : V} {d dk : D} {fr : List Str} {idx : List Nat} {fb : FE} {Q : VK} (S : zl7 X scope) (hr : Room 3 X.A) (hfr : FreeOk scope X.N fr idx) (hp : scope.names.lookup p = some .local)
  (hco : scope.isCoroutine = false) (hgen : scope.isGenerator = false) (hbind : ∀ (pm cd ct : Value) (cl : List (Str × Addr)) (u : Value), bindArgs (kla_fn "<lambda>" qual params body scope cl pm cd ct) ⟨[u], []⟩ = pure [(p, u)])
  (hb : ∀ s H f cd, PDE (X.lam scope (p :: fr) s H qual f cd) body fb)
  (I : Inv X pins σ H s) (R : RV X.K F τ σ H) (ho : s.heap.get? f = some (kla_obj "<lambda>" qual params body scope (zp8 scope X.env) pm c' ctv)) (hc : H c' = some (.ext (zV4 c' qual))) (rd : Rep X.K F d v) (ru : RelV v u) (hk : lamD idx fb τ d = .ok dk)
  (hQ : ∀ kv F1 H1, Ext F H F1 H1 → Rep X.K F1 dk kv → Q kv H1) : wpAny (model X.prog X.w) X.A.in1.in1 (call (.ref f) [u]) (EP X pins σ Q) (fun _ _ => False) s := by
 have hcd : s.heap.CodeRec (.ref c') qual := (I.hok c' _ hc).1
 refine wpAny_call (kla_callFunE (args := ⟨[u], []⟩) (hr.in1.in1).depth ho rfl hco hgen rfl hcd ?_)
 rw [hbind]
 refine wpAny_pure (wpAny_newFunctionEnv S.nocell (fun y hy => ?_) (fun h1 hns hsb => ⟨(I.mod.nolimit.keeps I.bk).fresh _ hsb, ?_⟩) S.kind)
 ·have : y = (p, u) := by simpa using hy
  subst this; exact hp
 have keep3 : ∀ b o, s.heap.get? b = some o → h1.get? b = some o := fun b o e => hsb.extBut b o (Nat.ne_of_lt (Heap.lt_size e)) (Heap.get?_push_of_some _ e)
 show codeAny _ _ (.expr body (envX qual scope s.heap.objs.size f (.ref c') (zp8 scope X.env))) _ _
 have hlen : (sig0 1 idx σ).length = (p :: fr).length := by simp [sig0, hfr.len]
 have hl0 : 0 < (sig0 1 idx σ).length := by rw [hlen]; simp
 have J : Inv (X.lam scope (p :: fr) s H qual f (.ref c')) [] ((sig0 1 idx σ).set 0 (some v)) H { s with heap := h1, toks := s.toks + ([(p, u)] : List (Str × Value)).length } :=
  lam_inv S hr.hd I hp rfl ru hns keep3 (by rw [List.length_set]; exact hlen) (by rw [List.getElem?_set_self hl0]) fun i v' hi e => by
   rw [List.getElem?_set_ne (Ne.symm hi)] at e
   exact zF6 (tn := [p]) hfr σ i v' e
 refine kla_codeExpr (wpAny_mono (hb s H f (.ref c') [] _ _ H (fun kv H1 => ∃ F1, Ext F H F1 H1 ∧ Rep X.K F1 dk kv) J ⟨F, (tau0 1 idx τ).set 0 (some (.val d)), (zW9 1 idx R).set rd, ?_⟩) (fun w s5 h5 => ?_) fun _ _ z => z.elim)
 ·have hk : fb ((tau0 1 idx τ).set 0 (some (.val d))) = .ok dk := hk
  rw [hk]
  exact fun kv F1 H1 x r => ⟨F1, x, r⟩
 ·obtain ⟨kv, H5, I5, r5, F5, x5, rk⟩ := h5
  exact ⟨kv, H5, I.call' (ch := []) I5.os I5.base I5.hok I5.bare (fun b z => absurd z (by simp)), r5, hQ kv F5 H5 x5 rk⟩
end
open PySem.W
def TabsU : Prop := ∀ r ∈ Tabs.rows, ∀ r' ∈ Tabs.rows, r.1 = r'.1 → r = r'
theorem zL8 {α β : Type} {f : α → β} : ∀ {l : List α}, (l.map f).Nodup → ∀ r ∈ l, ∀ r' ∈ l, f r = f r' → r = r'
 | [], _, _, h, _, _, _ => by cases h
 | a :: l, nd, r, h, r', h', e => by
  rw [List.map_cons, List.nodup_cons] at nd
  rcases List.mem_cons.mp h with z | z
  ·rcases List.mem_cons.mp h' with z' | z'
   ·rw [z, z']
   ·rw [z] at e
    exact absurd (List.mem_map.mpr ⟨r', z', e.symm⟩) nd.1
  ·rcases List.mem_cons.mp h' with z' | z'
   ·rw [z'] at e
    exact absurd (List.mem_map.mpr ⟨r, z, e⟩) nd.1
   ·exact zL8 nd.2 r z r' z' e
theorem TabsU.of (h : (Tabs.rows.map (·.1)).Nodup) : TabsU := zL8 h
section
variable {X : Cx} {scope : Scope} {pins : List (Addr × Obj)} {σ : St} {F H : Hp} {τ : DS} {s : Shared}
theorem lam_make {params : Arguments} {body : Expr} {lpos : Pos} {P c : Addr} {E : Value → Shared → Prop} {Q : Value → Shared → Prop} (tu : TabsU) (S : zl7 X scope) (bm : BM X.mg X.base) (hcode : X.env.code = .ref c) (hcd : codeHdIn X.K c P = true) (hrow : (P, lpos.line, lpos.col, X.env.qual ++ "<lambda>") ∈ Tabs.rows)
  (hdef : defaultsOf params X.env = ([], [])) (I : Inv X pins σ H s) (fh : Same F H) (tt : TbT F H)
  (h : ∀ (f c' : Addr) (pm ctv : Value) (H' : Hp) (s' : Shared), Inv X (pins ++ [(f, kla_obj "<lambda>" (X.env.qual ++ "<lambda>") params body scope (zp8 scope X.env) pm c' ctv)]) σ H' s' → Ext F H F H' → H' c' = some (.ext (zV4 c' (X.env.qual ++ "<lambda>"))) → Q (.ref f) s') :
  wpAny (model X.prog X.w) X.A (eval (.Lambda params body scope lpos) X.env) Q E s := by
 obtain ⟨bma, ob, b1, b2, b3, b4, b5, b6⟩ := bm
 obtain ⟨b3, bH⟩ := I.bs _ _ b3
 have hgs : s.heap.Ns mainGlobals X.mg := I.mod.glob.keeps I.bk
 have C : CodeHd s.heap c P := codeHd_of_K (I.mod.kin.keeps I.bk) hcd
 have hcl : closureFor scope X.env = pure (zp8 scope X.env) := zt9 fun y hy e => by
  obtain ⟨c, hc⟩ := I.ok.has _ (S.free y hy e)
  rw [hc]; rfl
 have hbG : bma ≠ mainGlobals := fun q => by
  obtain ⟨o, es, ep, e, hd, _⟩ := hgs
  rw [← q, b3] at e; cases e; rw [b6] at hd; cases hd
 obtain ⟨tF, tt0⟩ := tt.1 _ hrow
 have hPs : ∃ ps, H P = some (.tbl ps) := by
  rcases tt0 with e | ⟨c', e, _⟩
  ·exact ⟨_, e⟩
  ·exact ⟨_, e⟩
 obtain ⟨ps0, hP0⟩ := hPs
 have hbP : bma ≠ P := fun q => by rw [q, hP0] at bH; cases bH
 have B : s.heap.BuiltinsAt X.mg P := ⟨bma, ob, b1, b2, hbG, hbP, b3, b4, b5, b6⟩
 refine kla_eval hdef ?_
 rcases tt0 with e | ⟨c', e, ec⟩
 ·-- the first time
  have e : H P = some (.tbl #[]) := e
  have hP : s.heap.get? P = some (tabObj #[]) := I.hok P _ e
  have hgP : mainGlobals ≠ P := fun q => by
   obtain ⟨o, es, ep, e', hd, _⟩ := hgs
   rw [q, hP] at e'; cases e'; cases hd
  refine kla_makeFunction (mg := X.mg) hcl I.ok.glob hgs hcode C hP trivial rfl hgP B fun c' ctv h' tk hx hge hlt hrec htb => ?_
  have hc0 : H c' = none := I.hok.fresh hge
  have hPc : P ≠ c' := fun z => by rw [z, hc0] at e; cases e
  have hsz : s.heap.objs.size ≤ h'.objs.size := Nat.le_trans hge (Nat.le_of_lt hlt)
  have htb : h'.get? P = some (tabObj #[rawInt lpos.line, rawInt lpos.col, .ref c']) := by simpa using htb
  let H' : Hp := upd (upd H P (.tbl #[rawInt lpos.line, rawInt lpos.col, .ref c'])) c' (.ext (zV4 c' (X.env.qual ++ "<lambda>")))
  have hne : ∀ b, b ≠ P → b ≠ c' → H' b = H b := fun b z1 z2 => by show upd (upd H P _) c' _ b = H b; rw [zb3 z2, zb3 z1]
  have hP' : H' P = some (.tbl #[rawInt lpos.line, rawInt lpos.col, .ref c']) := by show upd (upd H P _) c' _ P = _; rw [zb3 hPc, zb2]
  have hc' : H' c' = some (.ext (zV4 c' (X.env.qual ++ "<lambda>"))) := zb2
  let fo : Obj := kla_obj "<lambda>" (X.env.qual ++ "<lambda>") params body scope (zp8 scope X.env) ((X.mg "__name__").getD .none) c' ctv
  have kp : ∀ b o, b ≠ P → s.heap.get? b = some o → (h'.push fo).get? b = some o := fun b o z q => Heap.get?_push_of_some _ (hx b o z q)
  have nc : ∀ b o, s.heap.get? b = some o → b ≠ c' := fun b o q => Nat.ne_of_lt (Nat.lt_of_lt_of_le (Heap.lt_size q) hge)
  have nP : ∀ b, H b = none → b ≠ P := fun b q z => by rw [z, e] at q; cases q
  have J : Inv X pins σ H' { s with heap := h'.push fo, toks := tk } := by
   refine I.un (t' := tk) ⟨fun b o q n _ _ => kp b o (nP b n) q, fun b o q n _ _ => ⟨o.slots, kp b o (nP b n) q⟩, fun b o q n _ => by rw [hne b (nP b n) (nc b o q)]; exact n, fun b o q _ => ?_, fun b xs q => ?_, fun b o u q => ?_, fun b ps q => ?_⟩ fun b u q => ?_
   ·by_cases z : b = P
    ·subst z; exact ⟨_, Heap.get?_push_of_some _ htb⟩
    ·exact ⟨o, kp b o z q⟩
   ·rw [hne b (fun z => by rw [z, e] at q; cases q) (fun z => by rw [z, hc0] at q; cases q)]; exact q
   ·rw [hne b (fun z => by rw [z, e] at q; cases q) (fun z => by rw [z, hc0] at q; cases q)]; exact q
   ·by_cases z : b = P
    ·subst z
     rw [e] at q; cases q
     exact ⟨#[rawInt lpos.line, rawInt lpos.col, .ref c'], by rw [hP']; simp⟩
    ·exact ⟨#[], by rw [hne b z (fun z => by rw [z, hc0] at q; cases q), q]; simp⟩
   ·by_cases z2 : b = c'
    ·subst z2
     rw [hc'] at q; cases q
     have hr2 : (h'.push fo).CodeRec (.ref b) (X.env.qual ++ "<lambda>") := by
      obtain ⟨c2, oc, vs, t, g1, g2, g3, g4⟩ := hrec
      exact ⟨c2, oc, vs, t, g1, Heap.get?_push_of_some _ g2, g3, g4⟩
     refine ⟨hr2, ?_, fun h1 h2 g k => ?_⟩
     ·obtain ⟨c2, oc, vs, t, g1, g2, g3, g4⟩ := hr2
      cases g1
      exact ⟨oc, g2⟩
     ·obtain ⟨c2, oc, vs, t, g1, g2, g3, g4⟩ := g
      cases g1
      exact ⟨_, oc, vs, t, rfl, k _ g2, g3, g4⟩
    ·by_cases z : b = P
     ·subst z
      rw [hP'] at q; cases q
      exact Heap.get?_push_of_some _ htb
     ·rw [hne b z z2] at q
      refine (I.hok b u q).stay (fun d v hd qd => kp d v ?_ qd) (fun d qd => ?_) fun d xs qd => ?_
      ·rcases hd with y | y
       ·rw [y]; exact z
       ·exact fun y' => by rw [y', e] at y; cases y
      ·rw [hne d (fun y => by rw [y, e] at qd; cases qd) (fun y => by rw [y, hc0] at qd; cases qd)]; exact qd
      ·rw [hne d (fun y => by rw [y, e] at qd; cases qd) (fun y => by rw [y, hc0] at qd; cases qd)]; exact qd
  have hfz : s.heap.objs.size ≤ h'.objs.size := hsz
  have nf : H' h'.objs.size = none := by
   rw [hne _ (Nat.ne_of_gt (Nat.lt_of_lt_of_le (Heap.lt_size hP) hfz)) (Nat.ne_of_gt hlt)]
   exact I.hok.fresh hfz
  refine h h'.objs.size c' ((X.mg "__name__").getD .none) ctv H' _ (J.pins_of fun q hq => ?_) ⟨Same.refl F, fun b o q => ?_, fun b o q => ?_, fun _ _ q => .inl q, fun t => ⟨fun r hr => ?_, fun d b q => ?_⟩⟩ hc'
  ·rcases List.mem_append.mp hq with hq | hq
   ·exact J.pin q (List.mem_append_right _ hq)
   ·have : q = (h'.objs.size, fo) := by simpa using hq
    subst this
    exact ⟨Heap.get?_push_size _ rfl, nf, (Nat.ne_of_lt (Nat.lt_of_lt_of_le I.lt hfz)).symm, I.nofs hfz, fun v z => nomatch z⟩
  ·by_cases z : b = P
   ·subst z; rw [e] at q; cases q; exact ⟨_, hP'⟩
   ·exact .of (by rw [hne b z (fun z => by rw [z, hc0] at q; cases q)]; exact q)
  ·have q' := fh b o q
   rw [hne b (fun z => by rw [z, show F P = none from tF] at q; cases q) (fun z => by rw [z, hc0] at q'; cases q')]
   exact q'
  ·by_cases z : r.1 = P
   ·obtain rfl := tu r hr _ hrow z
    exact ⟨tF, .inr ⟨c', hP', hc'⟩⟩
   ·obtain ⟨t1, t2⟩ := t.1 r hr
    refine ⟨t1, ?_⟩
    rcases t2 with q | ⟨c2, q, q2⟩
    ·exact .inl (by rw [hne _ z (fun z => by rw [z, hc0] at q; cases q)]; exact q)
    ·exact .inr ⟨c2, by rw [hne _ z (fun z => by rw [z, hc0] at q; cases q)]; exact q, by rw [hne _ (fun z => by rw [z, e] at q2; cases q2) (fun z => by rw [z, hc0] at q2; cases q2)]; exact q2⟩
  ·have q : H d = some (.own b) := by
    by_cases z2 : d = c'
    ·rw [z2, hc'] at q; cases q
    ·by_cases z : d = P
     ·rw [z, hP'] at q; cases q
     ·rw [hne d z z2] at q; exact q
   obtain ⟨C, dx, vs, q2⟩ := t.2 d b q
   exact ⟨C, dx, vs, by rw [hne b (fun z => by rw [z, e] at q2; cases q2) (fun z => by rw [z, hc0] at q2; cases q2)]; exact q2⟩
 ·-- again
  have e : H P = some (.tbl #[rawInt lpos.line, rawInt lpos.col, .ref c']) := e
  have hP : s.heap.get? P = some (tabObj #[rawInt lpos.line, rawInt lpos.col, .ref c']) := I.hok P _ e
  refine kla_makeFunctionHit (mg := X.mg) (cv := .ref c') hcl I.ok.glob hgs hcode C hP trivial (codeAmong_snoc (c := .ref c') [] trivial rfl) B fun ctv h' tk hk hsz => ?_
  let fo : Obj := kla_obj "<lambda>" (X.env.qual ++ "<lambda>") params body scope (zp8 scope X.env) ((X.mg "__name__").getD .none) c' ctv
  have J : Inv X pins σ H { s with heap := h'.push fo, toks := tk } := I.kept (t' := tk) fun b u q => Heap.get?_push_of_some _ (hk b u q)
  refine h h'.objs.size c' ((X.mg "__name__").getD .none) ctv H _ (J.pins_of fun q hq => ?_) (Ext.refl fh) ec
  rcases List.mem_append.mp hq with hq | hq
  ·exact J.pin q (List.mem_append_right _ hq)
  ·have : q = (h'.objs.size, fo) := by simpa using hq
   subst this
   exact ⟨Heap.get?_push_size _ rfl, I.hok.fresh hsz, (Nat.ne_of_lt (Nat.lt_of_lt_of_le I.lt hsz)).symm, I.nofs hsz, fun v z => nomatch z⟩
def zt7 (idx : List Nat) (fb : FE) (τ : DS) : List D → Rs (List D)
 | [] => .ok []
 | d :: r => match lamD idx fb τ d with
  | .ok k => match zt7 idx fb τ r with
   | .ok ks => .ok (k :: ks)
   | _ => .no
  | _ => .no
theorem zI4 {idx : List Nat} {fb : FE} {τ : DS} : ∀ {ds ks : List D}, zt7 idx fb τ ds = .ok ks → ks.length = ds.length ∧ ∀ (i : Nat) (d k : D), ds[i]? = some d → ks[i]? = some k → lamD idx fb τ d = .ok k
 | [], ks, h => by cases h; exact ⟨rfl, fun i d k e => by simp at e⟩
 | d :: r, ks, h => by
  unfold zt7 at h
  cases q : lamD idx fb τ d with
  | no => rw [q] at h; cases h
  | ex c => rw [q] at h; cases h
  | ok k =>
   rw [q] at h
   simp only at h
   cases q2 : zt7 idx fb τ r with
   | no => rw [q2] at h; cases h
   | ex c => rw [q2] at h; cases h
   | ok ks' =>
    rw [q2] at h; cases h
    obtain ⟨l, g⟩ := zI4 q2
    refine ⟨by simp [l], fun i d' k' e1 e2 => ?_⟩
    cases i with
    | zero => simp at e1 e2; subst e1; subst e2; exact q
    | succ i => exact g i d' k' (by simpa using e1) (by simpa using e2)
def zL1 (ks ds : List D) : Rs D := match keysD ks with
 | some kz => if ds.length < 64 ∧ kz.Nodup ∧ (∀ k ∈ kz, k ≠ []) then .ok (.lst ((sortK (kz.zip ds)).map (·.2))) else .no
 | none => .no
def zV3 (idx : List Nat) (fe fb : FE) : FE := fun τ => (fe τ).bind fun d => match d with
 | .lst ds => match zt7 idx fb τ ds with
  | .ok ks => zL1 ks ds
  | _ => .no
 | _ => .no
theorem yg8 {X : Cx} {ks ds : List D} {P : D → Prop} (h : Ok X (zL1 ks ds) P) : ∃ kz : List (List Int), ks = kz.map (fun k => D.tup (k.map D.int)) ∧ ds.length < 64 ∧ kz.Nodup ∧ (∀ k ∈ kz, k ≠ []) ∧ P (.lst ((sortK (kz.zip ds)).map (·.2))) := by
 unfold zL1 at h
 cases q : keysD ks with
 | none => rw [q] at h; exact h.elim
 | some kz =>
  rw [q] at h
  simp only at h
  by_cases z : ds.length < 64 ∧ kz.Nodup ∧ (∀ k ∈ kz, k ≠ [])
  ·rw [if_pos z] at h
   exact ⟨kz, yc1 q, z.1, z.2.1, z.2.2, h⟩
  ·rw [if_neg z] at h; exact h.elim
theorem yj0 {x p : Str} {pp pos lpos kp : Pos} {e body : Expr} {params : Arguments} {fr : List Str} {idx : List Nat} {fe fb : FE} {P c : Addr} (hg : Gl X x) (hm : X.mg x = none) (hv : bootBuiltins x = some (.builtin "sorted")) (he : PDE X e fe)
  (hr : Room 3 X.A) (tu : TabsU) (bm : BM X.mg X.base) (hcode : X.env.code = .ref c) (hcd : codeHdIn X.K c P = true) (hrow : (P, lpos.line, lpos.col, X.env.qual ++ "<lambda>") ∈ Tabs.rows)
  (hsc : zx9 X.env.scope scope = true) (hfr : FreeOk scope X.N fr idx) (hp : scope.names.lookup p = some .local) (hco : scope.isCoroutine = false) (hgen : scope.isGenerator = false)
  (hbind : ∀ (pm cd ct : Value) (cl : List (Str × Addr)) (u : Value), bindArgs (kla_fn "<lambda>" (X.env.qual ++ "<lambda>") params body scope cl pm cd ct) ⟨[u], []⟩ = pure [(p, u)])
  (hb : ∀ s H f cd, PDE (X.lam scope (p :: fr) s H (X.env.qual ++ "<lambda>") f cd) body fb) (hdef : defaultsOf params X.env = ([], []) := by rfl)
  (hn : x ≠ "__name__" := by decide) (hdb : (x == ("__debug__" : Str)) = false := by decide) (h1 : starEach [e] X.env = (false, eval e X.env) :: starEach [] X.env := by rfl) :
  PDE X (.Call (.Name x pp) [e] [⟨some "key", .Lambda params body scope lpos, kp⟩] pos) (zV3 idx fe fb) := by
 intro pins s σ H Q I ⟨F, τ, R, hq⟩
 have S : zl7 X scope := zp3 hsc
 refine wpAny_Call_Name_kw (zC8 I hg hm hv ?_ hn hdb)
 refine callWith_kw ?_ (by rw [h1]; rfl) (by rw [h1]; rfl)
 have hqb := hq.bind
 have ha : PDA X [e] (aCons fe aNil) := za0 he za4 (by rw [h1])
 refine thn (ha pos pins s σ H (fun vs H1 => ∃ F1 d v, vs = [v] ∧ Ext F H F1 H1 ∧ Rep X.K F1 d v ∧ fe τ = .ok d) I ⟨F, τ, R, ?_⟩) fun us s1 hA => ?_
 ·unfold aCons aNil
  cases z : fe τ with
  | no => rw [z] at hqb; exact hqb.elim
  | ex cc => rw [z] at hqb; exact hqb
  | ok d =>
   intro vs F1 H1 x1 rr
   obtain ⟨v, rfl, rd⟩ := Reps.one rr
   exact ⟨F1, d, v, rfl, x1, rd, rfl⟩
 obtain ⟨vs, H1, I1, rvs, F1, d, v, rfl, x1, rd, ed⟩ := hA
 obtain ⟨u, rfl, ru⟩ := Vals.one rvs
 rw [ed] at hqb
 have hqb : Ok X (match d with
  | .lst ds => match zt7 idx fb τ ds with
   | .ok ks => zL1 ks ds
   | _ => .no
  | _ => .no) (Ev X.K F H Q) := hqb
 cases d with
 | lst ds =>
  simp only at hqb
  cases z : zt7 idx fb τ ds with
  | no => rw [z] at hqb; exact hqb.elim
  | ex cc => rw [z] at hqb; exact hqb.elim
  | ok ks =>
   rw [z] at hqb
   obtain ⟨kz, ek, h64, nd, ne, hq⟩ := yg8 (X := X) hqb
   obtain ⟨lk, hkeys⟩ := zI4 z
   simp only [Rep] at rd
   obtain ⟨l, ws, rfl, hF1, rs⟩ := rd
   obtain rfl : u = Value.ref l := ru
   refine kws_cons ?_
   refine lam_make (P := P) (c := c) tu S bm hcode hcd hrow hdef I1 x1.fh (x1.tt R.tt) fun f c' pm ctv H2 s2 I2 x2 hc2 => ?_
   refine kws_nil ?_
   have R2 : RV X.K F1 τ σ H2 := (R.ext x1).ext x2
   refine wpAny_mono (yd4 (E := X.xe) (Q := Q) (F := F1) (kz := kz) I2 x2.fh hF1 rs h64 (by rw [← lk, ek, List.length_map]) nd ne (fun i d k hd hk pins' s' F' H' v u Q' I' hpin x' rd' ru' hQ' => ?_) fun Da F' H' x' r' => ?_) (fun w s3 ⟨v3, H3, I3, r3, q3⟩ => ⟨v3, H3, I3.pins_of fun q hq => I3.pin q (List.mem_append_right _ (List.mem_append_left _ hq)), r3, q3⟩) fun _ _ z => z
   ·refine lam_call S hr hfr hp hco hgen hbind hb I' (R2.ext x') (I'.pin _ (List.mem_append_right _ (hpin _ (List.mem_append_right _ (List.mem_singleton.mpr rfl))))).1 (x'.hh _ _ hc2) rd' ru' (hkeys i d _ hd ?_) hQ'
    rw [ek, List.getElem?_map, hk]; rfl
   ·exact hq _ F' H' ((x1.trans x2).trans x') r'
 | _ => exact hqb.elim
end
section
variable {prog : Program} {w : World} {A : Around} {R : Result → Shared → Prop} {E : Value → Shared → Prop} {I S : Addr} {fp wr : List Addr} {n : Nat} {P : Nat → Value → Prop} {St : Nat → Heap → Prop} {kw : List (Str × Value)}
end
variable [Tabs]
section
variable {X : Cx} {pos pp kp : Pos} {e e2 : Expr} {fe f2 : FE}
end
open Classical in
noncomputable def frzH (τ : DS) (σ : St) (F H : Hp) : Hp := fun a => if ∃ (i : Nat) (ds : List D), τ[i]? = some (some (.own ds)) ∧ σ[i]? = some (some (.ref a)) then H a else F a
def frzS : Option Sl → Option Sl
 | some (.own ds) => some (.val (.lst ds))
 | o => o
def frzT (τ : DS) : DS := τ.map frzS
theorem zx1 {τ : DS} {i : Nat} {o : Sl} (h : (frzT τ)[i]? = some (some o)) : (∃ d, o = .val d ∧ τ[i]? = some (some (.val d))) ∨ (∃ ds, o = .val (.lst ds) ∧ τ[i]? = some (some (.own ds))) ∨ (isOb (some o) = true ∧ τ[i]? = some (some o)) := by
 unfold frzT at h
 rw [List.getElem?_map] at h
 cases q : τ[i]? with
 | none => rw [q] at h; cases h
 | some x =>
  rw [q] at h
  cases x with
  | none => cases h
  | some sl =>
   cases sl with
   | val d => cases h; exact .inl ⟨d, rfl, rfl⟩
   | own ds => cases h; exact .inr (.inl ⟨ds, rfl, rfl⟩)
   | obj n c fs => cases h; exact .inr (.inr ⟨rfl, rfl⟩)
   | obr c fs => cases h; exact .inr (.inr ⟨rfl, rfl⟩)
theorem zq2 {τ : DS} {i : Nat} {o : Sl} (ho : isOb (some o) = true) (h : (frzT τ)[i]? = some (some o)) : τ[i]? = some (some o) := by
 rcases zx1 h with ⟨_, e1, _⟩ | ⟨_, e1, _⟩ | ⟨_, e2⟩
 ·subst e1; cases ho
 ·subst e1; cases ho
 ·exact e2
section
variable {K : PySem.W.Frag} {B Z F H : Hp} {τ : DS} {σ : St}
theorem zz9 (R : RV K F τ σ H) : Same F (frzH τ σ F H) := fun b o e => by
 unfold frzH
 split
 ·rename_i h
  obtain ⟨i, ds, h1, h2⟩ := h
  obtain ⟨a, vs, q1, q2, q3, q4⟩ := R.own i ds h1
  rw [h2] at q1; cases q1
  rw [q3] at e; cases e
 ·exact e
theorem RV.frz (R : RV K F τ σ H) : RV K (frzH τ σ F H) (frzT τ) σ H := by
 refine ⟨fun b o e => ?_, by unfold frzT; rw [List.length_map]; exact R.len, fun i d e => ?_, fun i ds e => ?_, fun i j ds es a _ h1 _ _ _ => ?_, ⟨fun r hr => ?_, R.tt.2⟩, ?_⟩
 ·unfold frzH at e
  split at e
  ·exact e
  ·exact R.fh b o e
 ·rcases zx1 e with ⟨d', e1, e2⟩ | ⟨ds, e1, e2⟩ | ⟨e1, e2⟩
  ·cases e1
   obtain ⟨v, h1, h2⟩ := R.val i d e2
   exact ⟨v, h1, h2.mono (zz9 R)⟩
  ·cases e1
   obtain ⟨a, vs, q1, q2, q3, q4⟩ := R.own i ds e2
   refine ⟨_, q1, ?_⟩
   simp only [Rep]
   refine ⟨a, vs, rfl, ?_, q4.mono (zz9 R)⟩
   unfold frzH
   rw [if_pos ⟨i, ds, e2, q1⟩]; exact q2
  ·cases e1
 ·rcases zx1 e with ⟨_, e1, _⟩ | ⟨_, e1, _⟩ | ⟨e1, _⟩ <;> cases e1
 ·rcases zx1 h1 with ⟨_, e1, _⟩ | ⟨_, e1, _⟩ | ⟨e1, _⟩ <;> cases e1
 ·obtain ⟨t1, t2⟩ := R.tt.1 r hr
  refine ⟨?_, t2⟩
  unfold frzH
  split
  ·rename_i h
   obtain ⟨i, ds, h1, h2⟩ := h
   obtain ⟨a, vs, q1, q2, q3, q4⟩ := R.own i ds h1
   rw [h2] at q1; cases q1
   rw [q2] at t2
   rcases t2 with z | ⟨_, z, _⟩ <;> cases z
  ·exact t1
 ·have nf : ∀ {a : Addr} {u : HO}, H a = some u → F a = none → (∀ (i : Nat) (ds : List D), τ[i]? = some (some (.own ds)) → σ[i]? = some (some (.ref a)) → False) → frzH τ σ F H a = none := fun {a u} h h3 n => by
   unfold frzH
   split
   ·rename_i h
    obtain ⟨j, ds, g1, g2⟩ := h
    exact (n j ds g1 g2).elim
   ·exact h3
  have o1 : ObsOk K (frzH τ σ F H) τ σ H := R.ob.keep (zz9 R) (fun _ _ _ _ h => h) (fun a C dx vs h h3 => nf h h3 fun i ds g1 g2 => by
    obtain ⟨b, ws, q1, q2, q3, q4⟩ := R.own i ds g1
    rw [g2] at q1; cases q1
    rw [q2] at h; cases h) (fun _ _ h => h) fun i c a l ws h1 h2 h3 h4 h5 => ⟨h4, nf h4 h5 fun j ds g1 g2 => R.ob.lo i j c ds a l h1 g1 h2 g2 h3⟩
  have bo : ∀ {i : Nat} {c : Str}, ObS (frzT τ)[i]? c → ObS τ[i]? c := fun {i c} h => by
   rcases h with ⟨n, fs, h⟩ | ⟨fs, h⟩
   ·exact .inl ⟨n, fs, zq2 rfl h⟩
   ·exact .inr ⟨fs, zq2 rfl h⟩
  exact ⟨fun i n c fs h => o1.at_ i n c fs (zq2 rfl h), fun i j n c c' fs a hij h1 h2 => o1.dis i j n c c' fs a hij (zq2 rfl h1) (bo h2), fun i c fs h => o1.rd i c fs (zq2 rfl h), fun i j n c c' fs a a' l hij h1 h2 => o1.ll i j n c c' fs a a' l hij (zq2 rfl h1) (bo h2), fun i j c ds a l _ h2 => by
   rcases zx1 h2 with ⟨_, e1, _⟩ | ⟨_, e1, _⟩ | ⟨e1, _⟩ <;> cases e1⟩
theorem RS.frz (R : RS K B Z F τ σ H) : RS K B Z (frzH τ σ F H) (frzT τ) σ H := by
 refine ⟨R.rv.frz, R.bh, R.zf.trans (zz9 R.rv), fun a o e => ?_, fun i ds a h1 _ => ?_, fun i n c fs a h1 h2 => R.oo i n c fs a (zq2 rfl h1) h2, fun a0 dx b1 b2 i n c fs h => R.sf a0 dx b1 b2 i n c fs (zq2 rfl h), fun i c fs a h1 h2 => R.ro i c fs a (zq2 rfl h1) h2⟩
 ·unfold frzH at e
  split at e
  ·rename_i h
   obtain ⟨i, ds, h1, h2⟩ := h
   exact .inr (R.ob i ds a h1 h2)
  ·exact R.nb a o e
 ·rcases zx1 h1 with ⟨_, e1, _⟩ | ⟨_, e1, _⟩ | ⟨e1, _⟩ <;> cases e1
end
section
variable {X : Cx} {pos : Pos} {e tg : Expr} {st : Stmt} {ss : List Stmt} {fe : FE} {fs : FA} {f : FS}
theorem pdss_frz (h : PDSs X ss f) : PDSs X ss (fun τ => f (frzT τ)) := PSs.imp h fun E σ H ⟨B, Z, F, τ, R, q⟩ => ⟨B, Z, _, frzT τ, R.frz, q.same (zz9 R.rv)⟩
def scal : D → Bool
 | .non => true
 | .bl _ => true
 | .int _ => true
 | .str _ => true
 | _ => false
end
open PySem.W
section
variable {X : Cx} {pins : List (Addr × Obj)} {σ : St} {F H : Hp} {τ : DS} {s : Shared} {Q : VK} {E : Value → Shared → Prop}
end
open PySem.W
structure yp2 (K : PySem.W.Frag) (mg : Str → Option Value) (x : Str) (st : Stmt) (f c T : Addr) : Prop where
 ex : ∃ (oc : Value) (od : Option Addr) (kV doc pm : Value) (an : Option Addr) (ct : Value) (osl : Array (Option Value)), K.lookup f = some ⟨oc, od, .func (PySem.W.fnOf x x (zb9 st) (zb1 st) (za3 st) .none kV doc pm an (.ref c) ct), osl⟩
 cd : PySem.W.codeIn K (.ref c) x = true
 kp : PySem.W.keepIn K (.ref f) = true
 at_ : mg x = some (.ref f)
 tab : codeHdIn K c T = true
section
variable {P : Program} {w : World} {K : PySem.W.Frag} {mg : Str → Option Value} {base : Heap}
theorem DefOk.mkL {x : Str} {st : Stmt} {f c T : Addr} {N ps : List Str} {k n : Nat} {fb : FS} (D : yp2 K mg x st f c T) (S : zb8 N ps (za3 st)) (hn : ps.length = n)
  (hb : ∀ (kV doc pm : Value) (an : Option Addr) (cdv ct : Value) (us : List Value), us.length = ps.length → bindArgs (PySem.W.fnOf x x (zb9 st) (zb1 st) (za3 st) .none kV doc pm an cdv ct) ⟨us, []⟩ = pure (ps.zip us))
  (hbody : ∀ (A : Around) (outer : List Env) (s : Shared) (H : Hp) (E : XK), Room k (A.deeper (envOfC x (za3 st) s.heap.objs.size f (.ref c))) →
   PDSs (cxOf CX0 P w K mg base N x (za3 st) f (.ref c) A outer s H E).nox (zb1 st) fb) : DefOk P w K mg base x (k + 1) n ps (runF N.length fb) := by
 obtain ⟨oc, od, kV, doc, pm, an, ct, osl, lk⟩ := D.ex
 refine ⟨f, _, ?_, .all (hb kV doc pm an (.ref c) ct), D.kp, D.at_⟩
 refine fn_of lk D.cd S (fun vs H Q E h => by rw [hn]; exact h.1) fun A outer s H vs Q E hr h => ⟨_, (show PSs _ _ _ from hbody A outer s H E hr).nox, ?_⟩
 obtain ⟨hl, ds, Fz, fh, tt, r, h⟩ := h
 refine ⟨H, Fz, Fz, zf3 N.length ds, ya2 fh tt r, ?_⟩
 unfold runF at h
 cases q : fb (zf3 N.length ds) with
 | nx τ => rw [q] at h; exact fun σ F' H' ff RR => h .non F' H' RR.out (by simp only [Rep])
 | rt d => rw [q] at h; exact fun v F' H' x rr => h v F' H' x rr
 | ro d τ => rw [q] at h; exact fun v σ F' H' ff RR rr => h v F' H' RR.out rr
 | rb d τ => rw [q] at h; exact h.elim
 | bk τ => rw [q] at h; exact h.elim
 | ct τ => rw [q] at h; exact h.elim
 | ex c => rw [q] at h; exact h.elim
 | no => rw [q] at h; exact h.elim
 | rs c τ => rw [q] at h; exact h.elim
end
section
variable {X : Cx} {pos : Pos} {e a b : Expr} {es : List Expr} {fe fa fb : FE} {fs : FA}
end
abbrev Fs := List (Str × D)
def putD (f : Str) (d : D) : Fs → Fs
 | [] => [(f, d)]
 | (g, x) :: r => if g = f then (g, d) :: r else (g, x) :: putD f d r
def fldD (f : Str) : Fs → Option D
 | [] => none
 | (g, x) :: r => if f = g then some x else fldD f r
theorem Flds.look {K : PySem.W.Frag} {F H : Hp} {c f : Str} : ∀ {fs : Fs} {vs : List (Str × V)}, Flds K F H c fs vs → match fldD f fs with
  | some d => ∃ v, vs.lookup f = some v ∧ Fld1 K F H c f d v
  | none => vs.lookup f = none
 | [], [], _ => rfl
 | (g, d) :: r, (g', v) :: s, q => by
  obtain ⟨rfl, q2, q3⟩ := q
  have ih := Flds.look (f := f) q3
  unfold fldD
  by_cases h : f = g
  ·have hb : (f == g) = true := beq_iff_eq.mpr h
   rw [if_pos h]
   subst h
   exact ⟨v, by simp only [List.lookup, hb], q2⟩
  ·have hb : (f == g) = false := beq_eq_false_iff_ne.mpr h
   rw [if_neg h]
   have e : List.lookup f ((g, v) :: s) = List.lookup f s := by simp only [List.lookup, hb]
   rw [e]; exact ih
 | [], _ :: _, q => q.elim
 | _ :: _, [], q => q.elim
theorem Flds.length {K : PySem.W.Frag} {F H : Hp} {c : Str} : ∀ {fs : Fs} {vs : List (Str × V)}, Flds K F H c fs vs → fs.length = vs.length
 | [], [], _ => rfl
 | _ :: r, _ :: s, q => by rw [List.length_cons, List.length_cons, Flds.length q.2.2]
 | [], _ :: _, q => q.elim
 | _ :: _, [], q => q.elim
theorem Flds.put {K : PySem.W.Frag} {F H : Hp} {c f : Str} {d : D} {v : V} (r : Fld1 K F H c f d v) : ∀ {fs : Fs} {vs : List (Str × V)}, Flds K F H c fs vs → Flds K F H c (putD f d fs) (putF f v vs)
 | [], [], _ => ⟨rfl, r, trivial⟩
 | (g, x) :: t, (g', y) :: s, q => by
  obtain ⟨rfl, q2, q3⟩ := q
  have ih := Flds.put (f := f) r q3
  unfold putD putF
  by_cases h : g = f
  ·rw [if_pos h, if_pos h]; subst h; exact ⟨rfl, r, q3⟩
  ·rw [if_neg h, if_neg h]; exact ⟨rfl, q2, ih⟩
 | [], _ :: _, q => q.elim
 | _ :: _, [], q => q.elim
theorem ownL_cons {c f : Str} {v : V} {r : List (Str × V)} {l : Addr} : l ∈ ownL c ((f, v) :: r) ↔ (Tabs.own c f = true ∧ v = .ref l) ∨ l ∈ ownL c r := by
 show l ∈ (if Tabs.own c f = true then (match v with
  | .ref l => l :: ownL c r
  | _ => ownL c r) else ownL c r) ↔ _
 by_cases z : Tabs.own c f = true
 ·rw [if_pos z]
  cases v <;> simp [z]
  rename_i a
  constructor
  ·rintro (h | h)
   ·exact .inl h.symm
   ·exact .inr h
  ·rintro (h | h)
   ·exact .inl h.symm
   ·exact .inr h
 ·rw [if_neg z]; simp [z]
theorem zH3 {c f : Str} {v : V} (h : Tabs.own c f = false) : ∀ vs : List (Str × V), ownL c (putF f v vs) = ownL c vs
 | [] => by show (if Tabs.own c f = true then _ else ([] : List Addr)) = []; rw [if_neg (by rw [h]; simp)]
 | (g, x) :: r => by
  rw [show putF f v ((g, x) :: r) = (if g = f then (g, v) :: r else (g, x) :: putF f v r) from rfl]
  by_cases z : g = f
  ·subst z
   rw [if_pos rfl]
   show (if Tabs.own c g = true then _ else ownL c r) = (if Tabs.own c g = true then _ else ownL c r)
   rw [if_neg (by rw [h]; simp), if_neg (by rw [h]; simp)]
  ·rw [if_neg z]
   have ih := zH3 (v := v) h r
   unfold ownL
   rw [ih]
theorem zO5 {c f : Str} {l p : Addr} : ∀ {vs : List (Str × V)}, l ∈ ownL c (putF f (.ref p) vs) → l = p ∨ l ∈ ownL c vs
 | [], h => by
  rcases ownL_cons.mp h with ⟨_, z⟩ | z
  ·cases z; exact .inl rfl
  ·cases z
 | (g, x) :: r, h => by
  rw [show putF f (.ref p) ((g, x) :: r) = (if g = f then (g, .ref p) :: r else (g, x) :: putF f (.ref p) r) from rfl] at h
  by_cases z : g = f
  ·rw [if_pos z] at h
   rcases ownL_cons.mp h with ⟨_, e⟩ | e
   ·cases e; exact .inl rfl
   ·exact .inr (ownL_cons.mpr (.inr e))
  ·rw [if_neg z] at h
   rcases ownL_cons.mp h with e | e
   ·exact .inr (ownL_cons.mpr (.inl e))
   ·rcases zO5 e with e | e
    ·exact .inl e
    ·exact .inr (ownL_cons.mpr (.inr e))
theorem ownL_nd {c f : Str} {v : V} {r : List (Str × V)} : (ownL c ((f, v) :: r)).Nodup ↔ (∀ l, Tabs.own c f = true → v = .ref l → l ∉ ownL c r) ∧ (ownL c r).Nodup := by
 show (if Tabs.own c f = true then (match v with
  | .ref l => l :: ownL c r
  | _ => ownL c r) else ownL c r).Nodup ↔ _
 by_cases z : Tabs.own c f = true
 ·rw [if_pos z]
  cases v <;> simp [z]
 ·rw [if_neg z]; simp [z]
theorem zH2 {c f : Str} {p : Addr} : ∀ {vs : List (Str × V)}, (ownL c vs).Nodup → p ∉ ownL c vs → (ownL c (putF f (.ref p) vs)).Nodup
 | [], _, _ => ownL_nd.mpr ⟨fun _ _ _ h => (by cases h), (show ([] : List Addr).Nodup from List.nodup_nil)⟩
 | (g, x) :: r, h, hp => by
  rw [show putF f (.ref p) ((g, x) :: r) = (if g = f then (g, .ref p) :: r else (g, x) :: putF f (.ref p) r) from rfl]
  obtain ⟨h1, h2⟩ := ownL_nd.mp h
  have hp2 : p ∉ ownL c r := fun z => hp (ownL_cons.mpr (.inr z))
  by_cases z : g = f
  ·rw [if_pos z]
   exact ownL_nd.mpr ⟨fun l _ e => by cases e; exact hp2, h2⟩
  ·rw [if_neg z]
   refine ownL_nd.mpr ⟨fun l e1 e2 hm => ?_, zH2 h2 hp2⟩
   rcases zO5 hm with e | e
   ·subst e; exact hp (ownL_cons.mpr (.inl ⟨e1, e2⟩))
   ·exact h1 l e1 e2 e
theorem zs6 {c f : Str} {l : Addr} (ho : Tabs.own c f = true) : ∀ {s : List (Str × V)}, s.lookup f = some (.ref l) → l ∈ ownL c s
 | [], z => by cases z
 | (g, w) :: s, z => by
  by_cases h : f = g
  ·subst h
   have : w = .ref l := by simpa [List.lookup] using z
   exact ownL_cons.mpr (.inl ⟨ho, this⟩)
  ·have hb : (f == g) = false := beq_eq_false_iff_ne.mpr h
   exact ownL_cons.mpr (.inr (zs6 ho (by simpa [List.lookup, hb] using z)))
theorem Flds.updL {K : PySem.W.Frag} {F H : Hp} {c f : Str} {l : Addr} {ds : List D} {ws : List V} (ho : Tabs.own c f = true) (r : Reps K F ds ws) : ∀ {fs : Fs} {vs : List (Str × V)}, Flds K F H c fs vs → (ownL c vs).Nodup → vs.lookup f = some (.ref l) → Flds K F (upd H l (.lst ws)) c (putD f (.lst ds) fs) vs
 | [], [], _, _, e => by cases e
 | (g, x) :: t, (g', y) :: s, q, nd, e => by
  obtain ⟨rfl, q2, q3⟩ := q
  obtain ⟨n1, n2⟩ := ownL_nd.mp nd
  unfold putD
  by_cases h : g = f
  ·subst h
   rw [if_pos rfl]
   have : y = .ref l := by simpa [List.lookup] using e
   subst this
   unfold Fld1 at q2
   rw [if_pos ho] at q2
   obtain ⟨ds0, l', ws0, e1, e2, e3, e4, e5⟩ := q2
   cases e2
   refine ⟨rfl, ?_, q3.keep (Same.refl F) fun l2 ws2 hl e6 e7 => ⟨?_, e7⟩⟩
   ·unfold Fld1; rw [if_pos ho]; exact ⟨ds, l, ws, rfl, rfl, zb2, e4, r⟩
   ·have : l2 ≠ l := fun z => by subst z; exact n1 l2 ho rfl hl
    rw [zb3 this]; exact e6
  ·rw [if_neg h]
   have hb : (f == g) = false := beq_eq_false_iff_ne.mpr fun z => h z.symm
   have e' : s.lookup f = some (.ref l) := by simpa [List.lookup, hb] using e
   refine ⟨rfl, ?_, Flds.updL ho r q3 n2 e'⟩
   have hin : l ∈ ownL c s := zs6 ho e'
   unfold Fld1 at q2 ⊢
   by_cases z : Tabs.own c g = true
   ·rw [if_pos z] at q2 ⊢
    obtain ⟨ds0, l', ws0, e1, e2, e3, e4, e5⟩ := q2
    have : l' ≠ l := fun y => by subst y; exact n1 l' z e2 hin
    exact ⟨ds0, l', ws0, e1, e2, by rw [zb3 this]; exact e3, e4, e5⟩
   ·rw [if_neg z] at q2 ⊢; exact q2
 | [], _ :: _, q, _, _ => q.elim
 | _ :: _, [], q, _, _ => q.elim
def obAt (τ : DS) (i : Nat) (c : Str) : Rs Fs := match τ[i]? with
 | some (some (.obj _ c' fs)) => if c' = c then .ok fs else .no
 | some (some (.obr c' fs)) => if c' = c then .ok fs else .no
 | _ => .no
def omAt (τ : DS) (i : Nat) (c : Str) : Rs (Nat × Fs) := match τ[i]? with
 | some (some (.obj n c' fs)) => if c' = c then .ok (n, fs) else .no
 | _ => .no
theorem zB3 {X : Cx} {τ : DS} {i : Nat} {c : Str} {P : Nat × Fs → Prop} (h : Ok X (omAt τ i c) P) : ∃ n fs, τ[i]? = some (some (.obj n c fs)) ∧ P (n, fs) := by
 unfold omAt at h
 split at h
 ·rename_i n c' fs e
  by_cases z : c' = c
  ·subst z; rw [if_pos rfl] at h; exact ⟨n, fs, e, h⟩
  ·rw [if_neg z] at h; exact h.elim
 ·exact h.elim
theorem zH8 {X : Cx} {F H : Hp} {τ : DS} {σ : St} {i : Nat} {c : Str} {P : Fs → Prop} (R : RV X.K F τ σ H) (h : Ok X (obAt τ i c) P) :
  ∃ fs a C dx vs, σ[i]? = some (some (.ref a)) ∧ H a = some (.ins C dx vs) ∧ PySem.W.nsIn X.K mainGlobals c = some (some (.ref C)) ∧ Flds X.K F H c fs vs ∧ P fs := by
 unfold obAt at h
 split at h
 ·rename_i n c' fs e
  by_cases z : c' = c
  ·subst z; rw [if_pos rfl] at h
   obtain ⟨a, h1, C, dx, vs, h2, h3, h4, h5, _⟩ := R.ob.at_ i n c' fs e
   exact ⟨fs, a, C, dx, vs, h1, h2, h4, h5, h⟩
  ·rw [if_neg z] at h; exact h.elim
 ·rename_i c' fs e
  by_cases z : c' = c
  ·subst z; rw [if_pos rfl] at h
   obtain ⟨a, C, dx, vs, h1, h2, h4, h5⟩ := R.ob.rd i c' fs e
   exact ⟨fs, a, C, dx, vs, h1, h2, h4, h5, h⟩
  ·rw [if_neg z] at h; exact h.elim
 ·exact h.elim
def eAt (i : Nat) (c f : Str) : FE := fun τ => (obAt τ i c).bind fun fs => match fldD f fs with
 | some d => .ok d
 | none => .no
section
variable {X : Cx} {pos : Pos} {e : Expr} {es : List Expr} {fe : FE} {fs : FA} {C : Addr} {c f x : Str} {i : Nat}
theorem yb2 {p1 : Pos} (hx : PE X (.Name x p1) (tVar i)) (hC : PySem.W.nsIn X.K mainGlobals c = some (some (.ref C))) (cl : Cls X.K C) (na : NoAttr X.K C f) (ho : Tabs.own c f = false := by rfl)
  (hb : attributeBase (.Name x p1) f X.env (eval (.Name x p1) X.env) = eval (.Name x p1) X.env := by rfl) : PDE X (.Attribute (.Name x p1) f pos) (eAt i c f) :=
 PE.imp (pe_fld hx hb) fun σ H Q ⟨F, τ, R, h⟩ => by
  obtain ⟨fs, a, C', dx, vs, h1, h2, h3, h4, h5⟩ := zH8 R h.bind
  rw [hC] at h3
  obtain rfl : C = C' := by cases h3; rfl
  have l := h4.look (f := f)
  cases q : fldD f fs with
  | none => rw [q] at h5; exact h5.elim
  | some d =>
   rw [q] at h5 l
   obtain ⟨v, l1, l2⟩ := l
   unfold Fld1 at l2
   rw [if_neg (by rw [ho]; simp)] at l2
   exact ⟨_, h1, a, C, dx, vs, v, rfl, h2, cl, na, l1, h5 v F H (Ext.refl R.fh) l2⟩
end
omit [Tabs] in
theorem kp_trans {o : HO} {r r' : Option HO} (a : Kp o r) (b : ∀ u : HO, r = Option.some u → Kp u r') : Kp o r' := by
 cases o <;> first | exact b _ a | (obtain ⟨ps, q⟩ := a; have h2 := b (HO.tbl ps) q; exact h2)
theorem RV.objset {K : PySem.W.Frag} {F F' H H' : Hp} {τ : DS} {σ : St} {i n : Nat} {c : Str} {fs fs' : Fs} {a C dx : Addr} {vs : List (Str × V)} (R : RV K F τ σ H) (hi : τ[i]? = some (some (.obj n c fs))) (ha : σ[i]? = some (some (.ref a))) (he : H a = some (.ins C dx vs))
  (ff : Same F F') (fh : Same F' H') (tt : TbT F' H') (kp : ∀ b u, b ≠ a → b ∉ ownL c vs → H b = some u → Kp u (H' b)) (nwF : ∀ b o, F' b = some o → F b = some o ∨ H b = none ∨ b = a ∨ b ∈ ownL c vs)
  (ob : ObAt K F' H' c fs' a) (nw : ∀ l ∈ Lof H' c a, l ∈ ownL c vs ∨ H l = none) : RV K F' (τ.set i (some (.obj n c fs'))) σ H' := by
 have hl : i < τ.length := (List.getElem?_eq_some_iff.mp hi).1
 have hfl : Flds K F H c fs vs := by
  obtain ⟨a', q1, C', dx', vs', q2, _, _, q5, _⟩ := R.ob.at_ i n c fs hi
  rw [ha] at q1; cases q1
  rw [he] at q2; cases q2; exact q5
 have nl : ∀ {b : Addr} {u : HO}, H b = some u → (∀ ws, u ≠ .lst ws) → b ∉ ownL c vs := fun {b u} e m z => by
  obtain ⟨_, ws, q⟩ := hfl.own z
  rw [e] at q; cases q; exact m _ rfl
 have na : ∀ {b : Addr} {u : HO}, H b = some u → (∀ C dx vs, u ≠ .ins C dx vs) → b ≠ a := fun {b u} e m z => by
  subst z; rw [he] at e; cases e; exact m _ _ _ rfl
 have nf : ∀ {b : Addr} {u : HO}, b ≠ a → b ∉ ownL c vs → H b = some u → F b = none → F' b = none := fun {b u} h1 h2 e h3 => by
  cases q : F' b with
  | none => rfl
  | some w =>
   rcases nwF b w q with z | z | z | z
   ·rw [h3] at z; cases z
   ·rw [e] at z; cases z
   ·exact absurd z h1
   ·exact absurd z h2
 have bk : ∀ {j : Nat} {s : Option Sl}, (∀ m c1 g, s ≠ some (.obj m c1 g)) → (τ.set i (some (.obj n c fs')))[j]? = some s → i ≠ j ∧ τ[j]? = some s := fun {j s} m h => by
  by_cases e : i = j
  ·subst e; rw [List.getElem?_set_self hl] at h; cases h; exact absurd rfl (m _ _ _)
  ·rw [List.getElem?_set_ne e] at h; exact ⟨e, h⟩
 have bs : ∀ {j : Nat} {c1 : Str}, i ≠ j → ObS (τ.set i (some (.obj n c fs')))[j]? c1 → ObS τ[j]? c1 := fun {j c1} e h => by
  rw [List.getElem?_set_ne e] at h; exact h
 have oth : ∀ {j : Nat} {c1 : Str} {a' : Addr}, i ≠ j → ObS τ[j]? c1 → σ[j]? = some (some (.ref a')) → a' ≠ a ∧ Lof H' c1 a' = Lof H c1 a' ∧ ∀ l ∈ Lof H c1 a', l ≠ a ∧ l ∉ ownL c vs := fun {j c1 a'} e h ea => by
  have n1 : a' ≠ a := fun z => by subst z; exact R.ob.dis i j n c c1 fs a' e hi h ha ea
  obtain ⟨a2, C', dx', vs', gs, h1, h2, h3⟩ := R.ob.get h
  rw [ea] at h1; cases h1
  refine ⟨n1, ?_, fun l hl2 => ⟨fun z => ?_, fun z => ?_⟩⟩
  ·rw [Lof.ins h2, Lof.ins (show H' a' = some (.ins C' dx' vs') from kp a' _ n1 (nl h2 fun _ z => nomatch z) h2)]
  ·subst z
   rw [Lof.ins h2] at hl2
   obtain ⟨_, ws, q⟩ := h3.own hl2
   rw [he] at q; cases q
  ·exact R.ob.ll i j n c c1 fs a a' l e hi h ha ea (by rw [Lof.ins he]; exact z) hl2
 refine ⟨fh, by simp [R.len], fun j d h => ?_, fun j ds h => ?_, fun j k ds es b hjk h1 h2 h3 h4 => R.dis j k ds es b hjk (bk (fun _ _ _ z => by cases z) h1).2 (bk (fun _ _ _ z => by cases z) h2).2 h3 h4, tt, ⟨fun j m c1 g h => ?_, fun j k m c1 c2 g1 b hjk h1 h2 h3 h4 => ?_, fun j c1 g h => ?_, fun j k m c1 c2 g1 b b' l hjk h1 h2 h3 h4 h5 h6 => ?_, fun j k c1 ds b l h1 h2 h3 h4 h5 => ?_⟩⟩
 ·obtain ⟨v, h1, h2⟩ := R.val j d (bk (fun _ _ _ z => by cases z) h).2
  exact ⟨v, h1, h2.mono ff⟩
 ·have h := (bk (fun _ _ _ z => by cases z) h).2
  obtain ⟨b, ws, q1, q2, q3, q4⟩ := R.own j ds h
  have n1 := na q2 fun _ _ _ z => nomatch z
  have n2 : b ∉ ownL c vs := fun z => R.ob.lo i j c ds a b (.inl ⟨n, fs, hi⟩) h ha q1 (by rw [Lof.ins he]; exact z)
  exact ⟨b, ws, q1, kp b _ n1 n2 q2, nf n1 n2 q2 q3, q4.mono ff⟩
 ·by_cases e : i = j
  ·subst e; rw [List.getElem?_set_self hl] at h; cases h; exact ⟨a, ha, ob⟩
  ·rw [List.getElem?_set_ne e] at h
   obtain ⟨a', q1, C', dx', vs', q2, q3, q4, q5, q6, q7⟩ := R.ob.at_ j m c1 g h
   obtain ⟨n1, _, n3⟩ := oth e (.inl ⟨m, g, h⟩) q1
   have n2 := nl q2 fun _ z => nomatch z
   refine ⟨a', q1, C', dx', vs', kp a' _ n1 n2 q2, nf n1 n2 q2 q3, q4, q5.keep ff fun l ws hl2 e3 e4 => ?_, kp dx' _ (na q6 fun _ _ _ z => nomatch z) (nl q6 fun _ z => nomatch z) q6, q7⟩
   obtain ⟨m1, m2⟩ := n3 l (by rw [Lof.ins q2]; exact hl2)
   exact ⟨kp l _ m1 m2 e3, nf m1 m2 e3 e4⟩
 ·by_cases e1 : i = j
  ·subst e1
   have h2 := bs hjk h2
   exact R.ob.dis i k n c c2 fs b hjk hi h2 h3 h4
  ·rw [List.getElem?_set_ne e1] at h1
   by_cases e2 : i = k
   ·subst e2
    have : b = a := by rw [ha] at h4; cases h4; rfl
    subst this
    exact (oth e1 (.inl ⟨m, g1, h1⟩) h3).1 rfl
   ·exact R.ob.dis j k m c1 c2 g1 b hjk h1 (bs e2 h2) h3 h4
 ·obtain ⟨e, h⟩ := bk (fun _ _ _ z => by cases z) h
  obtain ⟨a', C', dx', vs', q1, q2, q4, q5⟩ := R.ob.rd j c1 g h
  obtain ⟨n1, _, n3⟩ := oth e (.inr ⟨g, h⟩) q1
  refine ⟨a', C', dx', vs', q1, kp a' _ n1 (nl q2 fun _ z => nomatch z) q2, q4, q5.keep ff fun l ws hl2 e3 e4 => ?_⟩
  obtain ⟨m1, m2⟩ := n3 l (by rw [Lof.ins q2]; exact hl2)
  exact ⟨kp l _ m1 m2 e3, nf m1 m2 e3 e4⟩
 ·-- own lists of two
  have self : ∀ {k : Nat} {c2 : Str} {b' : Addr}, i ≠ k → ObS τ[k]? c2 → σ[k]? = some (some (.ref b')) → l ∈ Lof H' c a → l ∈ Lof H c2 b' → False := fun {k c2 b'} e h eb m1 m2 => by
   rcases nw l m1 with z | z
   ·exact ((oth e h eb).2.2 l m2).2 z
   ·obtain ⟨a2, C', dx', vs', gs, g1, g2, g3⟩ := R.ob.get h
    rw [eb] at g1; cases g1
    rw [Lof.ins g2] at m2
    obtain ⟨_, ws, q⟩ := g3.own m2
    rw [z] at q; cases q
  by_cases e1 : i = j
  ·subst e1
   rw [List.getElem?_set_self hl] at h1
   have ec : c = c1 := by cases h1; rfl
   subst ec
   have : b = a := by rw [ha] at h3; cases h3; rfl
   subst this
   have h2 := bs hjk h2
   rw [(oth hjk h2 h4).2.1] at h6
   exact self hjk h2 h4 h5 h6
  ·rw [List.getElem?_set_ne e1] at h1
   rw [(oth e1 (.inl ⟨m, g1, h1⟩) h3).2.1] at h5
   by_cases e2 : i = k
   ·subst e2
    have ec : c = c2 := by
     rw [List.getElem?_set_self hl] at h2
     rcases h2 with ⟨_, _, h2⟩ | ⟨_, h2⟩
     ·cases h2; rfl
     ·cases h2
    subst ec
    have : b' = a := by rw [ha] at h4; cases h4; rfl
    subst this
    exact self e1 (.inl ⟨m, g1, h1⟩) h3 h6 h5
   ·have h2 := bs e2 h2
    rw [(oth e2 h2 h4).2.1] at h6
    exact R.ob.ll j k m c1 c2 g1 b b' l hjk h1 h2 h3 h4 h5 h6
 ·have h2 := (bk (fun _ _ _ z => by cases z) h2).2
  by_cases e1 : i = j
  ·subst e1
   have ec : c = c1 := by
    rw [List.getElem?_set_self hl] at h1
    rcases h1 with ⟨_, _, h1⟩ | ⟨_, h1⟩
    ·cases h1; rfl
    ·cases h1
   subst ec
   have : b = a := by rw [ha] at h3; cases h3; rfl
   subst this
   rcases nw l h5 with z | z
   ·exact R.ob.lo i k c ds b l (.inl ⟨n, fs, hi⟩) h2 ha h4 (by rw [Lof.ins he]; exact z)
   ·obtain ⟨p, ws, q1, q2, _⟩ := R.own k ds h2
    rw [h4] at q1; cases q1
    rw [z] at q2; cases q2
  ·have h1 := bs e1 h1
   rw [(oth e1 h1 h3).2.1] at h5
   exact R.ob.lo j k c1 ds b l h1 h2 h3 h4 h5
theorem RS.objset {K : PySem.W.Frag} {B Z F F' H H' : Hp} {τ : DS} {σ : St} {i n : Nat} {c : Str} {fs fs' : Fs} {a C dx : Addr} {vs : List (Str × V)} (R : RS K B Z F τ σ H) (hi : τ[i]? = some (some (.obj n c fs))) (ha : σ[i]? = some (some (.ref a))) (he : H a = some (.ins C dx vs))
  (ff : Same F F') (fh : Same F' H') (tt : TbT F' H') (kp : ∀ b u, b ≠ a → b ∉ ownL c vs → H b = some u → Kp u (H' b)) (nwF : ∀ b o, F' b = some o → F b = some o ∨ H b = none ∨ b = a ∨ b ∈ ownL c vs)
  (ob : ObAt K F' H' c fs' a) (nw : ∀ l ∈ Lof H' c a, l ∈ ownL c vs ∨ H l = none) : RS K B Z F' (τ.set i (some (.obj n c fs'))) σ H' := by
 have hl : i < τ.length := (List.getElem?_eq_some_iff.mp hi).1
 obtain ⟨hB, hBl⟩ := R.oo i n c fs a hi ha
 rw [Lof.ins he] at hBl
 have rv := R.rv.objset hi ha he ff fh tt kp nwF ob nw
 refine ⟨rv, fun b o e => ?_, R.zf.trans ff, fun b o e => ?_, fun j ds b h1 h2 => ?_, fun j m c1 g b h1 h2 => ?_, fun a0 d0 b1 b2 j m c1 g h => ?_, fun j c1 g b h1 h2 => ?_⟩
 ·have n1 : b ≠ a := fun z => by subst z; rw [hB] at e; cases e
  have n2 : b ∉ ownL c vs := fun z => by rw [hBl b z] at e; cases e
  exact kp_trans (R.bh b o e) fun u hu => kp b u n1 n2 hu
 ·rcases nwF b o e with z | z | z | z
  ·exact R.nb b o z
  ·exact .inr (zl5 R.bh z)
  ·exact .inr (by rw [z]; exact hB)
  ·exact .inr (hBl b z)
 ·by_cases e : i = j
  ·subst e; rw [List.getElem?_set_self hl] at h1; cases h1
  ·rw [List.getElem?_set_ne e] at h1; exact R.ob j ds b h1 h2
 ·by_cases e : i = j
  ·subst e
   rw [List.getElem?_set_self hl] at h1
   have ec : c = c1 := by cases h1; rfl
   subst ec
   have : b = a := by rw [ha] at h2; cases h2; rfl
   subst this
   refine ⟨hB, fun l hl => ?_⟩
   rcases nw l hl with z | z
   ·exact hBl l z
   ·exact zl5 R.bh z
  ·rw [List.getElem?_set_ne e] at h1
   obtain ⟨q1, q2⟩ := R.oo j m c1 g b h1 h2
   refine ⟨q1, fun l hl => q2 l ?_⟩
   obtain ⟨a', p1, C', dx', vs', p2, _⟩ := R.rv.ob.at_ j m c1 g h1
   rw [h2] at p1; cases p1
   have n1 : b ≠ a := fun z => by subst z; exact R.rv.ob.dis i j n c c1 fs b e hi (.inl ⟨m, g, h1⟩) ha h2
   have n2 : b ∉ ownL c vs := fun z => by
    obtain ⟨a2, p1, C2, dx2, vs2, p3, _, _, p5, _⟩ := R.rv.ob.at_ i n c fs hi
    rw [ha] at p1; cases p1
    rw [he] at p3; cases p3
    obtain ⟨_, ws, q⟩ := p5.own z
    rw [p2] at q; cases q
   rw [Lof.ins p2]
   rw [Lof.ins (show H' b = some (.ins C' dx' vs') from kp b _ n1 n2 p2)] at hl
   exact hl
 ·by_cases e : i = j
  ·subst e
   rw [List.getElem?_set_self hl] at h
   have em : n = m + 1 := by cases h; rfl
   subst em
   exact R.sf a0 d0 b1 b2 i m c fs hi
  ·rw [List.getElem?_set_ne e] at h; exact R.sf a0 d0 b1 b2 j m c1 g h
 ·by_cases e : i = j
  ·subst e; rw [List.getElem?_set_self hl] at h1; cases h1
  ·rw [List.getElem?_set_ne e] at h1; exact R.ro j c1 g b h1 h2
omit [Tabs] in
theorem TOk.stepI {F H H' : Hp} {r : Addr × Nat × Nat × Str} (t : TOk F H r) (k : ∀ a o, H a = some o → (∀ C dx vs, o ≠ .ins C dx vs) → H' a = some o) : TOk F H' r := by
 refine ⟨t.1, ?_⟩
 rcases t.2 with e | ⟨c, e, e2⟩
 ·exact .inl (k _ _ e fun _ _ _ z => nomatch z)
 ·exact .inr ⟨c, k _ _ e (fun _ _ _ z => nomatch z), k _ _ e2 fun _ _ _ z => nomatch z⟩
theorem TbT.ins {F H : Hp} {a C dx : Addr} {vs vs' : List (Str × V)} (t : TbT F H) (he : H a = some (.ins C dx vs)) : TbT F (L2.upd H a (.ins C dx vs')) :=
 ⟨fun r hr => (t.1 r hr).stepI fun b o e n => by
  have : b ≠ a := fun z => by subst z; rw [he] at e; cases e; exact n _ _ _ rfl
  rw [zb3 this]; exact e, fun d b e => by
  have e := zz4 (fun _ z => by cases z) d b e
  obtain ⟨C', dx', vs'', h⟩ := t.2 d b e
  by_cases z : b = a
  ·subst z; exact ⟨C, dx, vs', zb2⟩
  ·exact ⟨C', dx', vs'', by rw [zb3 z]; exact h⟩⟩
theorem RS.attV {K : PySem.W.Frag} {B Z F H : Hp} {τ : DS} {σ : St} {i n : Nat} {c f : Str} {fs : Fs} {a C dx : Addr} {vs : List (Str × V)} {d : D} {v : V} (R : RS K B Z F τ σ H) (hi : τ[i]? = some (some (.obj n c fs))) (ha : σ[i]? = some (some (.ref a))) (he : H a = some (.ins C dx vs)) (ho : Tabs.own c f = false) (r : Rep K F d v) :
  RS K B Z F (τ.set i (some (.obj n c (putD f d fs)))) σ (L2.upd H a (.ins C dx (putF f v vs))) := by
 obtain ⟨a', q1, C', dx', vs', q2, q3, q4, q5, q6, q7⟩ := R.rv.ob.at_ i n c fs hi
 rw [ha] at q1; cases q1
 rw [he] at q2; cases q2
 have hd : dx ≠ a := fun z => by subst z; rw [he] at q6; cases q6
 have hL : Lof (L2.upd H a (.ins C dx (putF f v vs))) c a = ownL c vs := by rw [Lof.ins zb2, zH3 ho]
 refine R.objset hi ha he (Same.refl F) (fun b o e => ?_) (R.rv.tt.ins he) (fun b u h1 _ e => .of (by rw [zb3 h1]; exact e)) (fun b o e => .inl e) ⟨C, dx, putF f v vs, zb2, q3, q4, ?_, by rw [zb3 hd]; exact q6, by rw [zH3 ho]; exact q7⟩ fun l hl => .inl (by rw [hL] at hl; exact hl)
 ·have : b ≠ a := fun z => by subst z; rw [q3] at e; cases e
  rw [zb3 this]; exact R.rv.fh b o e
 ·refine (q5.put (f := f) (d := d) (v := v) (by unfold Fld1; rw [if_neg (by rw [ho]; simp)]; exact r)).keep (Same.refl F) fun l ws hl e1 e2 => ⟨?_, e2⟩
  have : l ≠ a := fun z => by subst z; rw [he] at e1; cases e1
  rw [zb3 this]; exact e1
def sAt (i : Nat) (c f : Str) (fe : FE) : FS := fun τ => Fl.of (fe τ) fun d => Fl.of (omAt τ i c) fun p => if p.2.length < 1000 then .nx (τ.set i (some (.obj p.1 c (putD f d p.2)))) else .no
section
variable {X : Cx} {pos : Pos} {e : Expr} {es : List Expr} {fe : FE} {fs : FA} {C : Addr} {c f x : Str} {i : Nat}
theorem pds_at {p1 pos' : Pos} (hx : PE X (.Name x p1) (tVar i)) (hC : PySem.W.nsIn X.K mainGlobals c = some (some (.ref C))) (cl : Cls X.K C) (na : NoAttr X.K C f) (he : PDE X e fe) (ho : Tabs.own c f = false := by rfl)
  (hs : swapsWith e (some (.Attribute (.Name x p1) f pos')) pos.line X.env = pure false := by rfl) : PDS X (.Assign [.Attribute (.Name x p1) f pos'] e pos) (sAt i c f fe) :=
 PS.imp (ps_fld hx he hs) fun E σ H ⟨B, Z, F, τ, R, h⟩ => by
  refine tE.at R h.of fun d v F1 H1 g x R1 r => ?_
  obtain ⟨n, fs, h1, h2⟩ := zB3 (X := X) (Post.of g)
  obtain ⟨a, q1, C', dx, vs, q2, q3, q4, q5, q6⟩ := R1.rv.ob.at_ i n c fs h1
  rw [hC] at q4
  obtain rfl : C = C' := by cases q4; rfl
  by_cases z : fs.length < 1000
  ·dsimp only at h2
   rw [if_pos z] at h2
   exact ⟨_, q1, a, C, dx, vs, rfl, q2, cl, na, by rw [← q5.length]; exact z, h2 σ F1 _ x.ff (R1.attV h1 q1 q2 ho r)⟩
  ·dsimp only at h2
   rw [if_neg z] at h2; exact h2.elim
end
theorem RS.attN {K : PySem.W.Frag} {B Z F H : Hp} {τ : DS} {σ : St} {i n : Nat} {c f : Str} {fs : Fs} {a C dx p : Addr} {vs : List (Str × V)} {ds : List D} {ws : List V} (R : RS K B Z F τ σ H) (hi : τ[i]? = some (some (.obj n c fs))) (ha : σ[i]? = some (some (.ref a))) (he : H a = some (.ins C dx vs)) (ho : Tabs.own c f = true) (hp : H p = none) (r : Reps K F ds ws) :
  RS K B Z F (τ.set i (some (.obj n c (putD f (.lst ds) fs)))) σ (L2.upd (L2.upd H p (.lst ws)) a (.ins C dx (putF f (.ref p) vs))) := by
 obtain ⟨a', q1, C', dx', vs', q2, q3, q4, q5, q6, q7⟩ := R.rv.ob.at_ i n c fs hi
 rw [ha] at q1; cases q1
 rw [he] at q2; cases q2
 have hpa : p ≠ a := fun z => by subst z; rw [he] at hp; cases hp
 have hd : dx ≠ a := fun z => by subst z; rw [he] at q6; cases q6
 have hdp : dx ≠ p := zc7 q6 hp
 have hFp := zc6 R.rv.fh hp
 have hpl : p ∉ ownL c vs := fun z => by
  obtain ⟨_, ws', q⟩ := q5.own z
  rw [hp] at q; cases q
 have he' : L2.upd H p (.lst ws) a = some (.ins C dx vs) := by rw [zb3 (Ne.symm hpa)]; exact he
 have kpp : ∀ {b : Addr} {u : HO}, b ≠ a → H b = some u → L2.upd (L2.upd H p (.lst ws)) a (.ins C dx (putF f (.ref p) vs)) b = some u := fun {b u} h1 e => by rw [zb3 h1, zb3 (zc7 e hp)]; exact e
 have t1 : TbT F (L2.upd H p (.lst ws)) := R.rv.tt.step (fun _ _ e => .inl e) (fun b o e _ => by rw [zb3 (zc7 e hp)]; exact e) (zz4 fun _ z => nomatch z)
 refine R.objset hi ha he (Same.refl F) (fun b o e => ?_) (t1.ins he') (fun b u h1 _ e => .of (kpp h1 e)) (fun b o e => .inl e) ⟨C, dx, putF f (.ref p) vs, zb2, q3, q4, ?_, kpp hd q6, zH2 q7 hpl⟩ fun l hl => ?_
 ·have : b ≠ a := fun z => by subst z; rw [q3] at e; cases e
  exact kpp this (R.rv.fh b o e)
 ·have k1 : Flds K F (L2.upd H p (.lst ws)) c fs vs := q5.keep (Same.refl F) fun l ws' hl e1 e2 => ⟨by rw [zb3 (zc7 e1 hp)]; exact e1, e2⟩
  have k2 := k1.put (f := f) (d := .lst ds) (v := .ref p) (by unfold Fld1; rw [if_pos ho]; exact ⟨ds, p, ws, rfl, rfl, zb2, hFp, r⟩)
  refine k2.keep (Same.refl F) fun l ws' hl e1 e2 => ⟨?_, e2⟩
  have : l ≠ a := fun z => by subst z; rw [he'] at e1; cases e1
  rw [zb3 this]; exact e1
 ·rw [Lof.ins zb2] at hl
  rcases zO5 hl with z | z
  ·subst z; exact .inr hp
  ·exact .inl z
def sAtN (i : Nat) (c f : Str) (ff : FA) : FS := fun τ => Fl.of (ff τ) fun ds => Fl.of (omAt τ i c) fun p => if p.2.length < 1000 then .nx (τ.set i (some (.obj p.1 c (putD f (.lst ds) p.2)))) else .no
section
variable {X : Cx} {pos : Pos} {e : Expr} {es : List Expr} {fe : FE} {ff : FA} {C : Addr} {c f x : Str} {i : Nat}
theorem zG7 {p1 pos' : Pos} (hx : PE X (.Name x p1) (tVar i)) (hC : PySem.W.nsIn X.K mainGlobals c = some (some (.ref C))) (cl : Cls X.K C) (na : NoAttr X.K C f) (he : PDF X e ff) (ho : Tabs.own c f = true := by rfl)
  (hs : swapsWith e (some (.Attribute (.Name x p1) f pos')) pos.line X.env = pure false := by rfl) : PDS X (.Assign [.Attribute (.Name x p1) f pos'] e pos) (sAtN i c f ff) :=
 PS.imp (ps_fld hx he hs) fun E σ H ⟨B, Z, F, τ, R, h⟩ => ⟨F, τ, R.rv, h.of.imp fun ds g p ws F1 H1 x hp r => by
  have R1 := R.ext x
  obtain ⟨n, fs, h1, h2⟩ := zB3 (X := X) (Post.of g)
  obtain ⟨a, q1, C', dx, vs, q2, q3, q4, q5, q6⟩ := R1.rv.ob.at_ i n c fs h1
  rw [hC] at q4
  obtain rfl : C = C' := by cases q4; rfl
  have hpa : p ≠ a := fun z => by subst z; rw [q2] at hp; cases hp
  by_cases z : fs.length < 1000
  ·dsimp only at h2
   rw [if_pos z] at h2
   exact ⟨_, q1, a, C, dx, vs, rfl, by rw [zb3 (Ne.symm hpa)]; exact q2, cl, na, by rw [← q5.length]; exact z, h2 σ F1 _ x.ff (R1.attN h1 q1 q2 ho hp r)⟩
  ·dsimp only at h2
   rw [if_neg z] at h2; exact h2.elim⟩
end
def owAt (τ : DS) (i : Nat) (c f : Str) : Rs (List D) := (obAt τ i c).bind fun fs => match fldD f fs with
 | some (.lst ds) => .ok ds
 | _ => .no
theorem zO6 {X : Cx} {F H : Hp} {τ : DS} {σ : St} {i : Nat} {c f : Str} {P : List D → Prop} (R : RV X.K F τ σ H) (ho : Tabs.own c f = true) (h : Ok X (owAt τ i c f) P) :
  ∃ ds a C dx vs l ws, σ[i]? = some (some (.ref a)) ∧ H a = some (.ins C dx vs) ∧ PySem.W.nsIn X.K mainGlobals c = some (some (.ref C)) ∧ vs.lookup f = some (.ref l) ∧ H l = some (.lst ws) ∧ F l = none ∧ Reps X.K F ds ws ∧ P ds := by
 obtain ⟨fs, a, C, dx, vs, h1, h2, h3, h4, h5⟩ := zH8 R h.bind
 have l := h4.look (f := f)
 cases q : fldD f fs with
 | none => rw [q] at h5; exact h5.elim
 | some d =>
  rw [q] at h5 l
  obtain ⟨v, l1, l2⟩ := l
  unfold Fld1 at l2
  rw [if_pos ho] at l2
  obtain ⟨ds, p, ws, rfl, rfl, e3, e4, e5⟩ := l2
  exact ⟨ds, a, C, dx, vs, p, ws, h1, h2, h3, l1, e3, e4, e5, h5⟩
def omO (τ : DS) (i : Nat) (c f : Str) : Rs (Nat × Fs × List D) := (omAt τ i c).bind fun p => match fldD f p.2 with
 | some (.lst ds) => .ok (p.1, p.2, ds)
 | _ => .no
theorem yj9 {X : Cx} {F H : Hp} {τ : DS} {σ : St} {i : Nat} {c f : Str} {P : Nat × Fs × List D → Prop} (R : RV X.K F τ σ H) (ho : Tabs.own c f = true) (h : Ok X (omO τ i c f) P) :
  ∃ n fs ds a C dx vs l ws, τ[i]? = some (some (.obj n c fs)) ∧ σ[i]? = some (some (.ref a)) ∧ H a = some (.ins C dx vs) ∧ PySem.W.nsIn X.K mainGlobals c = some (some (.ref C)) ∧ vs.lookup f = some (.ref l) ∧ H l = some (.lst ws) ∧ F l = none ∧ Reps X.K F ds ws ∧ P (n, fs, ds) := by
 obtain ⟨n, fs, h1, h2⟩ := zB3 (X := X) h.bind
 obtain ⟨a, q1, C, dx, vs, q2, q3, q4, q5, q6⟩ := R.ob.at_ i n c fs h1
 have l := q5.look (f := f)
 dsimp only at h2
 cases q : fldD f fs with
 | none => rw [q] at h2; exact h2.elim
 | some d =>
  rw [q] at h2 l
  obtain ⟨v, l1, l2⟩ := l
  unfold Fld1 at l2
  rw [if_pos ho] at l2
  obtain ⟨ds, p, ws, rfl, rfl, e3, e4, e5⟩ := l2
  exact ⟨n, fs, ds, a, C, dx, vs, p, ws, h1, q1, q2, q4, l1, e3, e4, e5, h2⟩
theorem RS.attL {K : PySem.W.Frag} {B Z F H : Hp} {τ : DS} {σ : St} {i n : Nat} {c f : Str} {fs : Fs} {a C dx l : Addr} {vs : List (Str × V)} {ds : List D} {ws ws' : List V} (R : RS K B Z F τ σ H) (hi : τ[i]? = some (some (.obj n c fs))) (ha : σ[i]? = some (some (.ref a))) (he : H a = some (.ins C dx vs)) (ho : Tabs.own c f = true) (hl : vs.lookup f = some (.ref l)) (hw : H l = some (.lst ws)) (hF : F l = none) (r : Reps K F ds ws') :
  RS K B Z F (τ.set i (some (.obj n c (putD f (.lst ds) fs)))) σ (L2.upd H l (.lst ws')) := by
 obtain ⟨a', q1, C', dx', vs', q2, q3, q4, q5, q6, q7⟩ := R.rv.ob.at_ i n c fs hi
 rw [ha] at q1; cases q1
 rw [he] at q2; cases q2
 have hin := zs6 ho hl
 have hal : a ≠ l := fun z => by subst z; rw [he] at hw; cases hw
 have hdl : dx ≠ l := fun z => by subst z; rw [q6] at hw; cases hw
 have he' : L2.upd H l (.lst ws') a = some (.ins C dx vs) := by rw [zb3 hal]; exact he
 refine R.objset hi ha he (Same.refl F) (fun b o e => ?_) (R.rv.tt.step (fun _ _ e => .inl e) (fun b o e m => ?_) (zz4 fun _ z => nomatch z)) (fun b u _ h2 e => .of ?_) (fun b o e => .inl e) ⟨C, dx, vs, he', q3, q4, q5.updL ho r q7 hl, by rw [zb3 hdl]; exact q6, q7⟩ fun l' hl' => .inl (by rw [Lof.ins he'] at hl'; exact hl')
 ·have : b ≠ l := fun z => by subst z; rw [hF] at e; cases e
  rw [zb3 this]; exact R.rv.fh b o e
 ·have : b ≠ l := fun z => by subst z; rw [hw] at e; cases e; exact m _ rfl
  rw [zb3 this]; exact e
 ·have : b ≠ l := fun z => by subst z; exact h2 hin
  rw [zb3 this]; exact e
section
variable {X : Cx} {pos : Pos} {e : Expr} {es : List Expr} {fe : FE} {ff : FA} {C : Addr} {c f x : Str} {i : Nat}
theorem pe_ow {p1 p2 : Pos} (hx : PE X (.Name x p1) (tVar i)) (hb : attributeBase (.Name x p1) f X.env (eval (.Name x p1) X.env) = eval (.Name x p1) X.env := by rfl) : PE X (.Attribute (.Name x p1) f p2) (tFld X.K (tVar i) f) := pe_fld hx hb
def eIxA (i : Nat) (c f : Str) (fi : FE) : FE := fun τ => (owAt τ i c f).bind fun ds => (fi τ).bind fun k => match k with
 | .int k => match atI ds k with
  | some d => .ok d
  | none => .no
 | _ => .no
theorem zO4 {p1 p2 : Pos} {ix : Expr} {fi : FE} (hx : PE X (.Name x p1) (tVar i)) (hC : PySem.W.nsIn X.K mainGlobals c = some (some (.ref C))) (cl : Cls X.K C) (na : NoAttr X.K C f) (hi : PDE X ix fi) (ho : Tabs.own c f = true := by rfl) (hs : zR7 ix := by intro _ _; rfl) : PDE X (.Subscript (.Attribute (.Name x p1) f p2) ix pos) (eIxA i c f fi) :=
 PE.imp (pe_ix ix_list (pe_ow hx) hi hs) fun σ H Q ⟨F, τ, R, h⟩ => by
  obtain ⟨ds, a, C', dx, vs, l, ws, h1, h2, h3, h4, h5, h6, h7, h8⟩ := zO6 R ho (Ok.bind h)
  obtain rfl : C = C' := by rw [hC] at h3; cases h3; rfl
  refine ⟨_, h1, a, C, dx, vs, .ref l, rfl, h2, cl, na, h4, ?_⟩
  refine tE.of R h8.bind fun k w F2 H2 g2 x2 R2 r2 => ?_
  cases k with
  | int k =>
   simp only [Rep] at r2
   simp only at g2
   cases q : atI ds k with
   | none => rw [q] at g2; exact g2.elim
   | some d =>
    rw [q] at g2
    obtain ⟨v, z1, z2⟩ := zF1 h7 q
    exact ⟨l, ws, k, v, rfl, r2, SqL.of (x2.hh _ _ h5), z1, g2 v F2 H2 x2 (z2.mono x2.ff)⟩
  | _ => exact g2.elim
def eLenA (i : Nat) (c f : Str) : FE := fun τ => (owAt τ i c f).bind fun ds => .ok (.int ds.length)
theorem zz0 {p1 p2 p : Pos} (hx : PE X (.Name x p1) (tVar i)) (hC : PySem.W.nsIn X.K mainGlobals c = some (some (.ref C))) (cl : Cls X.K C) (na : NoAttr X.K C f) (hg : Gl X "len") (hm : X.mg "len" = none) (ho : Tabs.own c f = true := by rfl)
  (he : starEach [.Attribute (.Name x p1) f p2] X.env = [(false, eval (.Attribute (.Name x p1) f p2) X.env)] := by rfl) (hpl : (backTo pos (starEach [] X.env)).any (·.1) = false := by rfl) : PDE X (.Call (.Name "len" p) [.Attribute (.Name x p1) f p2] [] pos) (eLenA i c f) :=
 PE.imp (pe_callB call_len_seq hg hm PySem.boot_len (zt6 (pe_ow hx) zH1 (by rw [he]; rfl)) (he := by rw [he]; rfl) (hpl := hpl)) fun σ H Q ⟨F, τ, R, h⟩ => by
  obtain ⟨ds, a, C', dx, vs, l, ws, h1, h2, h3, h4, h5, h6, h7, h8⟩ := zO6 R ho (Ok.bind h)
  obtain rfl : C = C' := by rw [hC] at h3; cases h3; rfl
  refine ⟨_, h1, a, C, dx, vs, .ref l, rfl, h2, cl, na, h4, l, ws, rfl, .inl (SqL.of h5), ?_⟩
  rw [← h7.length]
  exact h8 (.int ds.length) F H (Ext.refl R.fh) (by simp only [Rep])
def sAppA (i : Nat) (c f : Str) (fe : FE) : FS := fun τ => Fl.of (omO τ i c f) fun p => Fl.of (fe τ) fun d => if p.2.2.length < sizeLine then .nx (τ.set i (some (.obj p.1 c (putD f (.lst (p.2.2 ++ [d])) p.2.1)))) else .no
theorem pds_appA {p1 p2 apos cpos : Pos} (hx : PE X (.Name x p1) (tVar i)) (hC : PySem.W.nsIn X.K mainGlobals c = some (some (.ref C))) (cl : Cls X.K C) (na : NoAttr X.K C f) (he : PDE X e fe) (ho : Tabs.own c f = true := by rfl)
  (hfew : ((backTo cpos (starEach [e] X.env)).all (fun x => !x.1) && (backToKw cpos (keywordEach [] X.env)).all (fun x => x.1.isSome)
   && decide ([e].length + ([] : List Keyword).length + (if ([] : List Keyword).isEmpty then 0 else 1) < 30)) = true := by rfl)
  (hline : (apos.endLine == cpos.line) = true := by rfl) (hs : starEach [e] X.env = [(false, eval e X.env)] := by rfl) (hplain : (backTo cpos (starEach [] X.env)).any (·.1) = false := by rfl)
  (hbase : attributeBase (.Attribute (.Name x p1) f p2) "append" X.env (eval (.Attribute (.Name x p1) f p2) X.env) = eval (.Attribute (.Name x p1) f p2) X.env := by rfl)
  (hsw : swapsWith (.Call (.Attribute (.Attribute (.Name x p1) f p2) "append" apos) [e] [] cpos) none pos.line X.env = pure false := by rfl) :
  PDS X (.Expr (.Call (.Attribute (.Attribute (.Name x p1) f p2) "append" apos) [e] [] cpos) pos) (sAppA i c f fe) :=
 PS.imp (zN2 (pe_bm PySem.F.plainAttrs_list PySem.F.slot_list_append PySem.F.type_list_append zz5 (pe_ow hx) (zt6 he zH1 (by rw [hs]; rfl)) hbase hfew hline (by rw [hs]; rfl) hplain) hsw) fun E σ H ⟨B, Z, F, τ, R, h⟩ => by
  obtain ⟨n, fs, ds, a, C', dx, vs, l, ws, h0, h1, h2, h3, h4, h5, h6, h7, h8⟩ := yj9 R.rv ho (Post.of h)
  obtain rfl : C = C' := by rw [hC] at h3; cases h3; rfl
  refine ⟨_, h1, a, C, dx, vs, .ref l, rfl, h2, cl, na, h4, .inl ⟨rfl, ws, SqL.of h5⟩, ?_⟩
  refine tE.at R (Post.of h8) fun d v F1 H1 g x R1 r => ?_
  have hF1 : F1 l = none := by
   cases q : F1 l with
   | none => rfl
   | some w =>
    rcases x.nw l w q with z | z
    ·rw [h6] at z; cases z
    ·rw [h5] at z; cases z
  by_cases z : ds.length < sizeLine
  ·dsimp only at g
   rw [if_pos z] at g
   refine ⟨l, ws, v, rfl, rfl, x.hh _ _ h5, by rw [← h7.length]; exact z, ?_⟩
   exact g _ F1 _ x.ff (R1.attL h0 h1 (x.hh _ _ h2) ho h4 (x.hh _ _ h5) hF1 ((h7.mono x.ff).append (Reps.cons r Reps.nil)))
  ·dsimp only at g
   rw [if_neg z] at g; exact g.elim
end
structure ExtO (F B F' H' : Hp) : Prop where
 ff : Same F F'
 hh : Hh B H'
 fh : Same F' H'
 nw : ∀ a o, F' a = some o → F a = some o ∨ B a = none
 tt : TbT F' H'
theorem RS.outO {K : PySem.W.Frag} {B Z F H : Hp} {τ : DS} {σ : St} (R : RS K B Z F τ σ H) : ExtO Z B F H := ⟨R.zf, R.bh, R.rv.fh, R.nb, R.rv.tt⟩
def hideO (H : Hp) (c : Str) (a : Addr) : Hp := fun b => if b = a ∨ b ∈ Lof H c a then none else H b
theorem yn0 (H : Hp) (c : Str) (a : Addr) : hideO H c a a = none := if_pos (.inl rfl)
theorem hideO_l {H : Hp} {c : Str} {a l : Addr} (h : l ∈ Lof H c a) : hideO H c a l = none := if_pos (.inr h)
theorem zE8 {H : Hp} {c : Str} {a b : Addr} (h1 : b ≠ a) (h2 : b ∉ Lof H c a) : hideO H c a b = H b := if_neg fun z => z.elim h1 h2
theorem zM2 {H : Hp} {c : Str} {a b : Addr} {o : HO} (h : hideO H c a b = some o) : H b = some o := by
 unfold hideO at h
 split at h
 ·cases h
 ·exact h
theorem zB9 {H : Hp} {c : Str} {a b : Addr} (h : hideO H c a b = none) : b = a ∨ b ∈ Lof H c a ∨ H b = none := by
 unfold hideO at h
 split at h
 ·rename_i z; exact z.elim .inl fun z => .inr (.inl z)
 ·exact .inr (.inr h)
def spM (K : PySem.W.Frag) (c : Str) (j n : Nat) (g : Fs → List D → Rs (D × Fs)) : Sp := fun vs H Q E => vs.length = n + 1 ∧ ∃ a us1 us2 ds1 ds2 fs F, vs = us1 ++ .ref a :: us2 ∧ us1.length = j ∧ ObAt K F H c fs a ∧ Same F H ∧ TbT F H ∧ Reps K F ds1 us1 ∧ Reps K F ds2 us2 ∧ match g fs (ds1 ++ ds2) with
 | .ok (d, fs') => ∀ v F' H', ExtO F (hideO H c a) F' H' → ObAt K F' H' c fs' a → (∀ l ∈ Lof H' c a, l ∈ Lof H c a ∨ H l = none) → Rep K F' d v → Q v H'
 | _ => False
def spR (K : PySem.W.Frag) (c : Str) (j n : Nat) (g : Fs → List D → Rs D) : Sp := fun vs H Q E => vs.length = n + 1 ∧ ∃ a us1 us2 ds1 ds2 fs F C dx ws, vs = us1 ++ .ref a :: us2 ∧ us1.length = j ∧ H a = some (.ins C dx ws) ∧ PySem.W.nsIn K mainGlobals c = some (some (.ref C)) ∧ Flds K F H c fs ws ∧ Same F H ∧ TbT F H ∧ Reps K F ds1 us1 ∧ Reps K F ds2 us2 ∧ match g fs (ds1 ++ ds2) with
 | .ok d => Ev K F H Q d
 | _ => False
theorem RS.meth {K : PySem.W.Frag} {B Z F H F' H' : Hp} {τ : DS} {σ : St} {i n : Nat} {c : Str} {fs fs' : Fs} {a : Addr} (R : RS K B Z F τ σ H) (hi : τ[i]? = some (some (.obj n c fs))) (ha : σ[i]? = some (some (.ref a))) (x : ExtO F (hideO H c a) F' H') (o : ObAt K F' H' c fs' a) (nw : ∀ l ∈ Lof H' c a, l ∈ Lof H c a ∨ H l = none) :
  RS K B Z F' (τ.set i (some (.obj n c fs'))) σ H' := by
 obtain ⟨a', q1, C, dx, vs, he, _⟩ := R.rv.ob.at_ i n c fs hi
 rw [ha] at q1; cases q1
 have hL : Lof H c a = ownL c vs := Lof.ins he
 refine R.objset hi ha he x.ff x.fh x.tt (fun b u h1 h2 e => x.hh b u (by rw [zE8 h1 (by rw [hL]; exact h2)]; exact e)) (fun b u e => ?_) o fun l hl => by rw [← hL]; exact nw l hl
 rcases x.nw b u e with z | z
 ·exact .inl z
 ·rcases zB9 z with z | z | z
  ·exact .inr (.inr (.inl z))
  ·exact .inr (.inr (.inr (by rw [← hL]; exact z)))
  ·exact .inr (.inl z)
def zj8 (s0 : Sl) (j N : Nat) (ds : List D) : DS := (ds.take j).map (fun d => some (.val d)) ++ some s0 :: ((ds.drop j).map (fun d => some (.val d)) ++ List.replicate (N - (ds.length + 1)) none)
def argM (s0 : Sl) (ds1 ds2 : List D) (N : Nat) : DS := ds1.map (fun d => some (.val d)) ++ some s0 :: (ds2.map (fun d => some (.val d)) ++ List.replicate (N - (ds1.length + ds2.length + 1)) none)
omit [Tabs] in
theorem zF5 {s0 : Sl} {j N : Nat} {ds1 ds2 : List D} (h : ds1.length = j) : zj8 s0 j N (ds1 ++ ds2) = argM s0 ds1 ds2 N := by
 unfold zj8 argM
 subst h
 rw [List.take_left, List.drop_left, List.length_append]
omit [Tabs] in
theorem zR5 {s0 : Sl} {N : Nat} {ds1 ds2 : List D} {i : Nat} {o : Sl} (h : (argM s0 ds1 ds2 N)[i]? = some (some o)) : (i = ds1.length ∧ o = s0) ∨ (∃ d, ds1[i]? = some d ∧ o = .val d) ∨ ∃ k d, i = ds1.length + 1 + k ∧ ds2[k]? = some d ∧ o = .val d := by
 unfold argM at h
 by_cases h1 : i < ds1.length
 ·rw [List.getElem?_append_left (by simpa using h1), List.getElem?_map] at h
  cases e : ds1[i]? with
  | none => rw [e] at h; cases h
  | some d => rw [e] at h; cases h; exact .inr (.inl ⟨d, rfl, rfl⟩)
 ·rw [List.getElem?_append_right (by simpa using h1), List.length_map] at h
  cases e : i - ds1.length with
  | zero => rw [e] at h; simp at h; exact .inl ⟨by omega, h.symm⟩
  | succ k =>
   rw [e, List.getElem?_cons_succ] at h
   by_cases h2 : k < ds2.length
   ·rw [List.getElem?_append_left (by simpa using h2), List.getElem?_map] at h
    cases e2 : ds2[k]? with
    | none => rw [e2] at h; cases h
    | some d => rw [e2] at h; cases h; exact .inr (.inr ⟨k, d, by omega, e2, rfl⟩)
   ·rw [List.getElem?_append_right (by simpa using h2), List.getElem?_replicate] at h
    split at h <;> cases h
theorem zG1 {K : PySem.W.Frag} {F H B : Hp} {N : List Str} {ds1 ds2 : List D} {us1 us2 : List V} {a : Addr} {s0 : Sl} (hs : isOb (some s0) = true) (fh : Same F H) (tt : TbT F H) (r1 : Reps K F ds1 us1) (r2 : Reps K F ds2 us2)
  (h1 : ∀ n c fs, s0 = .obj n c fs → ObAt K F H c fs a ∧ B = hideO H c a) (h2 : ∀ c fs, s0 = .obr c fs → (∃ C dx vs, H a = some (.ins C dx vs) ∧ PySem.W.nsIn K mainGlobals c = some (some (.ref C)) ∧ Flds K F H c fs vs)) (hb : Hh B H) (hnb : ∀ b o, B b = some o → H b = some o) (h3 : ∀ c fs, s0 = .obr c fs → B = H) :
  RS K B F F (argM s0 ds1 ds2 N.length) (L2.start N (us1 ++ .ref a :: us2)) H := by
 have hl1 := r1.length
 have hl2 := r2.length
 have s1 : ∀ {i : Nat} {v : V}, us1[i]? = some v → (L2.start N (us1 ++ .ref a :: us2))[i]? = some (some v) := fun {i v} q => by
  have hi : i < us1.length := (List.getElem?_eq_some_iff.mp q).1
  unfold L2.start
  rw [List.getElem?_append_left (by simp; omega), List.getElem?_map, List.getElem?_append_left hi, q]; rfl
 have s2 : ∀ {k : Nat} {v : V}, us2[k]? = some v → (L2.start N (us1 ++ .ref a :: us2))[us1.length + 1 + k]? = some (some v) := fun {k v} q => by
  have hi : k < us2.length := (List.getElem?_eq_some_iff.mp q).1
  unfold L2.start
  rw [List.getElem?_append_left (by simp; omega), List.getElem?_map, List.getElem?_append_right (by omega), show us1.length + 1 + k - us1.length = k + 1 by omega, List.getElem?_cons_succ, q]; rfl
 have s0' : (L2.start N (us1 ++ .ref a :: us2))[ds1.length]? = some (some (.ref a)) := by
  unfold L2.start
  rw [List.getElem?_append_left (by simp; omega), List.getElem?_map, List.getElem?_append_right (by omega), hl1]; simp
 have only : ∀ {i : Nat} {o : Sl}, isOb (some o) = true → (argM s0 ds1 ds2 N.length)[i]? = some (some o) → i = ds1.length ∧ o = s0 := fun {i o} ho h => by
  rcases zR5 h with e | ⟨d, _, e⟩ | ⟨k, d, _, _, e⟩
  ·exact e
  ·subst e; cases ho
  ·subst e; cases ho
 have onlyS : ∀ {i : Nat} {c : Str}, ObS (argM s0 ds1 ds2 N.length)[i]? c → i = ds1.length := fun {i c} h => by
  rcases h with ⟨n, fs, h⟩ | ⟨fs, h⟩
  ·exact (only rfl h).1
  ·exact (only rfl h).1
 have noown : ∀ {i : Nat} {es : List D}, (argM s0 ds1 ds2 N.length)[i]? = some (some (.own es)) → False := fun {i es} h => by
  rcases zR5 h with ⟨_, e⟩ | ⟨d, _, e⟩ | ⟨k, d, _, _, e⟩
  ·rw [← e] at hs; cases hs
  ·cases e
  ·cases e
 refine ⟨⟨fh, ?_, fun i d h => ?_, fun i es h => (noown h).elim, fun i j es es' b _ h1 => (noown h1).elim, tt, ⟨fun i n c fs h => ?_, fun i j n c c' fs b hij g1 g2 _ _ => ?_, fun i c fs h => ?_, fun i j n c c' fs b b' l hij g1 g2 => ?_, fun i j c ds b l _ g2 => (noown g2).elim⟩⟩, hb, Same.refl F, fun a o e => .inl e, fun i es b g1 => (noown g1).elim, fun i n c fs b g1 g2 => ?_, fun a0 dx b1 b2 i n c fs g1 => ?_, fun i c fs b g1 g2 => ?_⟩
 ·simp [argM, L2.start, hl1, hl2]; omega
 ·rcases zR5 h with ⟨_, e⟩ | ⟨d', e1, e⟩ | ⟨k, d', rfl, e1, e⟩
  ·rw [← e] at hs; cases hs
  ·cases e
   obtain ⟨v, q1, q2⟩ := r1.get e1
   exact ⟨v, s1 q1, q2⟩
  ·cases e
   obtain ⟨v, q1, q2⟩ := r2.get e1
   exact ⟨v, by rw [hl1]; exact s2 q1, q2⟩
 ·obtain ⟨rfl, e⟩ := only rfl h
  exact ⟨a, s0', (h1 n c fs e.symm).1⟩
 ·exact hij ((only rfl g1).1.trans (onlyS g2).symm)
 ·obtain ⟨rfl, e⟩ := only rfl h
  obtain ⟨C, dx, vs, q1, q2, q3⟩ := h2 c fs e.symm
  exact ⟨a, C, dx, vs, s0', q1, q2, q3⟩
 ·exact absurd ((only rfl g1).1.trans (onlyS g2).symm) hij
 ·obtain ⟨rfl, e⟩ := only rfl g1
  rw [s0'] at g2; cases g2
  rw [(h1 n c fs e.symm).2]
  exact ⟨yn0 _ _ _, fun l hl => hideO_l hl⟩
 ·obtain ⟨rfl, e⟩ := only rfl g1
  obtain ⟨p1, p2⟩ := h1 (n + 1) c fs e.symm
  obtain ⟨C, dx', vs, q2⟩ := tt.2 dx a0 (hnb _ _ b1)
  by_cases z : a0 = a
  ·rw [z]; exact s0'
  ·have : a0 ∉ Lof H c a := fun y => by
    obtain ⟨C2, dx2, vs2, o1, _, _, o4, _⟩ := p1
    rw [Lof.ins o1] at y
    obtain ⟨_, ws, q⟩ := o4.own y
    rw [q2] at q; cases q
   rw [p2, zE8 z this, q2] at b2; cases b2
 ·obtain ⟨rfl, e⟩ := only rfl g1
  rw [s0'] at g2; cases g2
  obtain ⟨C, dx, vs, q1, q2, q3⟩ := h2 c fs e.symm
  rw [h3 c fs e.symm]
  exact ⟨C, dx, vs, q1, fun l hl => (q3.own hl).2⟩
def flM (j : Nat) (c : Str) : Fl → Rs (D × Fs)
 | .ro d τ => (omAt τ j c).bind fun p => if p.1 = 1 then .ok (d, p.2) else .no
 | .nx τ => (omAt τ j c).bind fun p => if p.1 = 1 then .ok (.non, p.2) else .no
 | _ => .no
def runM (N j : Nat) (c : Str) (fb : FS) (fs : Fs) (ds : List D) : Rs (D × Fs) := flM j c (fb (zj8 (.obj 1 c fs) j N ds))
def runR (N j : Nat) (c : Str) (fb : FS) (fs : Fs) (ds : List D) : Rs D := flRes (fb (zj8 (.obr c fs) j N ds))
theorem yk1 {τ : DS} {i n : Nat} {c : Str} {fs : Fs} (h : omAt τ i c = .ok (n, fs)) : τ[i]? = some (some (.obj n c fs)) := by
 unfold omAt at h
 split at h
 ·rename_i m c' gs e
  by_cases z : c' = c
  ·subst z; rw [if_pos rfl] at h; cases h; exact e
  ·rw [if_neg z] at h; cases h
 ·cases h
section
variable {P : Program} {w : World} {K : PySem.W.Frag} {mg : Str → Option Value} {base : Heap}
theorem hideO_hh (H : Hp) (c : Str) (a : Addr) : Hh (hideO H c a) H := fun b o e => .of (zM2 e)
theorem fnM {x qual c : Str} {st : Stmt} {f : Addr} {fd : FuncData} {N ps : List Str} {k n j : Nat} {fb : FS} (F : Fun K x qual st f fd) (S : zb8 N ps (za3 st)) (hn : ps.length = n + 1)
  (hbody : ∀ (cdv : Value) (A : Around) (outer : List Env) (s : Shared) (H : Hp) (E : XK), Room k (A.deeper (envOfC qual (za3 st) s.heap.objs.size f cdv)) →
   PDSs (cxOf CX0 P w K mg base N qual (za3 st) f cdv A outer s H E).nox (zb1 st) fb) : FnOk P w K mg base CX0 (k + 1) f fd ps (spM K c j n (runM N.length j c fb)) := by
 refine F.ok S (fun vs H Q E h => by rw [hn]; exact h.1) fun cdv A outer s H vs Q E hr h => ⟨_, hbody cdv A outer s H E hr, ?_⟩
 obtain ⟨hl, a, us1, us2, ds1, ds2, fs, Fz, rfl, hj, ob, fh, tt, r1, r2, h⟩ := h
 have hd1 : ds1.length = j := r1.length.trans hj
 have st : zj8 (.obj 1 c fs) j N.length (ds1 ++ ds2) = argM (.obj 1 c fs) ds1 ds2 N.length := zF5 hd1
 refine ⟨hideO H c a, Fz, Fz, argM (.obj 1 c fs) ds1 ds2 N.length, zG1 rfl fh tt r1 r2 (fun n' c' fs' e => by cases e; exact ⟨ob, rfl⟩) (fun c' fs' e => by cases e) (hideO_hh H c a) (fun b o e => zM2 e) (fun c' fs' e => by cases e), ?_⟩
 obtain ⟨C, dx, ws, o1, o2, o3, o4, o5, o6⟩ := ob
 have hdx : hideO H c a dx = some (.own a) := by
  have n1 : dx ≠ a := fun z => by subst z; rw [o1] at o5; cases o5
  have n2 : dx ∉ Lof H c a := fun z => by
   rw [Lof.ins o1] at z
   obtain ⟨_, ws', q⟩ := o4.own z
   rw [o5] at q; cases q
  rw [zE8 n1 n2]; exact o5
 have fin : ∀ {τ : DS} {σ : St} {F' H' : Hp} {fs' : Fs}, omAt τ j c = .ok (1, fs') → RS K (hideO H c a) Fz F' τ σ H' → ObAt K F' H' c fs' a ∧ ∀ l ∈ Lof H' c a, l ∈ Lof H c a ∨ H l = none := fun {τ σ F' H' fs'} q RR => by
  have z := yk1 q
  obtain ⟨a', p1, p2⟩ := RR.rv.ob.at_ j 1 c fs' z
  have := RR.sf a dx hdx (yn0 _ _ _) j 0 c fs' z
  rw [p1] at this; cases this
  refine ⟨p2, fun l hl => ?_⟩
  rcases zB9 ((RR.oo j 1 c fs' a z p1).2 l hl) with y | y | y
  ·subst y
   obtain ⟨C', dx', vs', g1, _, _, g4, _⟩ := p2
   rw [Lof.ins g1] at hl
   obtain ⟨_, ws', q⟩ := g4.own hl
   rw [g1] at q; cases q
  ·exact .inl y
  ·exact .inr y
 unfold runM at h
 rw [st] at h
 cases q : fb (argM (.obj 1 c fs) ds1 ds2 N.length) with
 | nx τ =>
  rw [q] at h
  cases z : omAt τ j c with
  | ok p =>
   obtain ⟨m, fs'⟩ := p
   simp only [flM, z, Rs.bind] at h
   by_cases hm : m = 1
   ·subst hm
    rw [if_pos rfl] at h
    exact fun σ F' H' ff RR => h .non F' H' RR.outO (fin z RR).1 (fin z RR).2 (by simp only [Rep])
   ·rw [if_neg hm] at h; exact h.elim
  | ex c => simp only [flM, z, Rs.bind] at h
  | no => simp only [flM, z, Rs.bind] at h
 | ro d τ =>
  rw [q] at h
  cases z : omAt τ j c with
  | ok p =>
   obtain ⟨m, fs'⟩ := p
   simp only [flM, z, Rs.bind] at h
   by_cases hm : m = 1
   ·subst hm
    rw [if_pos rfl] at h
    exact fun v σ F' H' ff RR rr => h v F' H' RR.outO (fin z RR).1 (fin z RR).2 rr
   ·rw [if_neg hm] at h; exact h.elim
  | ex c => simp only [flM, z, Rs.bind] at h
  | no => simp only [flM, z, Rs.bind] at h
 | rb d τ => rw [q] at h; exact h.elim
 | rt d => rw [q] at h; exact h.elim
 | bk τ => rw [q] at h; exact h.elim
 | ct τ => rw [q] at h; exact h.elim
 | ex c => rw [q] at h; exact h.elim
 | no => rw [q] at h; exact h.elim
 | rs c τ => rw [q] at h; exact h.elim
theorem fnR {x qual c : Str} {st : Stmt} {f : Addr} {fd : FuncData} {N ps : List Str} {k n j : Nat} {fb : FS} (F : Fun K x qual st f fd) (S : zb8 N ps (za3 st)) (hn : ps.length = n + 1)
  (hbody : ∀ (cdv : Value) (A : Around) (outer : List Env) (s : Shared) (H : Hp) (E : XK), Room k (A.deeper (envOfC qual (za3 st) s.heap.objs.size f cdv)) →
   PDSs (cxOf CX0 P w K mg base N qual (za3 st) f cdv A outer s H E).nox (zb1 st) fb) : FnOk P w K mg base CX0 (k + 1) f fd ps (spR K c j n (runR N.length j c fb)) := by
 refine F.ok S (fun vs H Q E h => by rw [hn]; exact h.1) fun cdv A outer s H vs Q E hr h => ⟨_, hbody cdv A outer s H E hr, ?_⟩
 obtain ⟨hl, a, us1, us2, ds1, ds2, fs, Fz, C, dx, ws, rfl, hj, o1, o2, o3, fh, tt, r1, r2, h⟩ := h
 have hd1 : ds1.length = j := r1.length.trans hj
 have st : zj8 (.obr c fs) j N.length (ds1 ++ ds2) = argM (.obr c fs) ds1 ds2 N.length := zF5 hd1
 refine ⟨H, Fz, Fz, argM (.obr c fs) ds1 ds2 N.length, zG1 rfl fh tt r1 r2 (fun n' c' fs' e => by cases e) (fun c' fs' e => by cases e; exact ⟨C, dx, ws, o1, o2, o3⟩) (Hh.refl H) (fun _ _ e => e) (fun _ _ _ => rfl), ?_⟩
 unfold runR at h
 rw [st] at h
 cases q : fb (argM (.obr c fs) ds1 ds2 N.length) with
 | nx τ => rw [q] at h; exact fun σ F' H' ff RR => h .non F' H' RR.out (by simp only [Rep])
 | rt d => rw [q] at h; exact fun v F' H' x rr => h v F' H' x rr
 | ro d τ => rw [q] at h; exact fun v σ F' H' ff RR rr => h v F' H' RR.out rr
 | rb d τ => rw [q] at h; exact h.elim
 | bk τ => rw [q] at h; exact h.elim
 | ct τ => rw [q] at h; exact h.elim
 | ex c => rw [q] at h; exact h.elim
 | no => rw [q] at h; exact h.elim
 | rs c τ => rw [q] at h; exact h.elim
end
abbrev FOb := DS → Rs (D × DS)
abbrev FObT := DS → Rs (Bool × DS)
def tOb (X : Cx) (f : FOb) : TE := fun σ H Q => ∃ B Z F τ, RS X.K B Z F τ σ H ∧ Ok X (f τ) fun p => ∀ v F' H', Same F F' → RS X.K B Z F' p.2 σ H' → Rep X.K F' p.1 v → Q v H'
def tObT (X : Cx) (f : FObT) : TT := fun σ H Q => ∃ B Z F τ, RS X.K B Z F τ σ H ∧ Ok X (f τ) fun p => ∀ F' H', Same F F' → RS X.K B Z F' p.2 σ H' → Q p.1 H'
def PDOb (X : Cx) (e : Expr) (f : FOb) : Prop := PE X e (tOb X f)
def PDObT (X : Cx) (e : Expr) (f : FObT) : Prop := PT X e (tObT X f)
def PDObW (X : Cx) (e : Expr) (f : FObT) : Prop := PW X e (tObT X f)
def MetM (P : Program) (w : World) (K : PySem.W.Frag) (mg : Str → Option Value) (base : Heap) (c m : Str) (k n : Nat) (ps : List Str) (g : Fs → List D → Rs (D × Fs)) : Prop :=
 ∃ C f fd, PySem.W.nsIn K mainGlobals c = some (some (.ref C)) ∧ Cls K C ∧ Meth K C m f ∧ FnOk P w K mg base CX0 k f fd ps (spM K c 0 n g) ∧ Binds K fd ps []
def MetR (P : Program) (w : World) (K : PySem.W.Frag) (mg : Str → Option Value) (base : Heap) (c m : Str) (k n : Nat) (ps : List Str) (g : Fs → List D → Rs D) : Prop :=
 ∃ C f fd, PySem.W.nsIn K mainGlobals c = some (some (.ref C)) ∧ Cls K C ∧ Meth K C m f ∧ FnOk P w K mg base CX0 k f fd ps (spR K c 0 n g) ∧ Binds K fd ps []
def ClsM (P : Program) (w : World) (K : PySem.W.Frag) (mg : Str → Option Value) (base : Heap) (c : Str) (k n : Nat) (ps : List Str) (g : Fs → List D → Rs (D × Fs)) : Prop :=
 ∃ C f fd, PySem.W.nsIn K mainGlobals c = some (some (.ref C)) ∧ mg c = some (.ref C) ∧ Mk K C f ∧ FnOk P w K mg base CX0 k f fd ps (spM K c 0 n g) ∧ Binds K fd ps []
def DefM (P : Program) (w : World) (K : PySem.W.Frag) (mg : Str → Option Value) (base : Heap) (x c : Str) (k j n : Nat) (ps : List Str) (g : Fs → List D → Rs (D × Fs)) : Prop :=
 ∃ f fd, FnOk P w K mg base CX0 k f fd ps (spM K c j n g) ∧ Binds K fd ps [] ∧ PySem.W.keepIn K (.ref f) = true ∧ mg x = some (.ref f)
def DefR (P : Program) (w : World) (K : PySem.W.Frag) (mg : Str → Option Value) (base : Heap) (x c : Str) (k j n : Nat) (ps : List Str) (g : Fs → List D → Rs D) : Prop :=
 ∃ f fd, FnOk P w K mg base CX0 k f fd ps (spR K c j n g) ∧ Binds K fd ps [] ∧ PySem.W.keepIn K (.ref f) = true ∧ mg x = some (.ref f)
section
variable {X : Cx} {pos : Pos} {e a b : Expr} {es rest : List Expr} {fe fb : FE} {fs : FA} {c m x : Str} {i k n : Nat} {ps : List Str} {fo : FOb} {ga gb : FObT}
def zg9 (i : Nat) (c m : Str) (g : Fs → List D → Rs D) (fs : FA) : FE := fun τ => (obAt τ i c).bind fun o => if (fldD m o).isNone = true then (fs τ).bind fun ds => noEx (g o ds) else .no
theorem methR_of {C : Addr} {g : Fs → List D → Rs D} (hC : PySem.W.nsIn X.K mainGlobals c = some (some (.ref C))) (hfs : ∀ τ ds, fs τ = .ok ds → ds.length = n) {σ : St} {H : Hp} {Q : VK} (h : tE X (zg9 i c m g fs) σ H Q) : tMeth C m (spR X.K c 0 n g) [] E0 (tVar i) (tAs X fs) σ H Q := by
 obtain ⟨F, τ, R, h⟩ := h
 obtain ⟨o, a, C', dx, vs, h1, h2, h3, h4, h5⟩ := zH8 R h.bind
 obtain rfl : C = C' := by rw [hC] at h3; cases h3; rfl
 have l := h4.look (f := m)
 cases z : fldD m o with
 | some d => rw [z, if_neg (by simp)] at h5; exact h5.elim
 | none =>
  rw [z] at l h5
  rw [if_pos (by rfl)] at h5
  refine ⟨_, h1, a, dx, vs, rfl, h2, l, F, τ, R, ?_⟩
  have hb := h5.bind
  cases q : fs τ with
  | no => rw [q] at hb; exact hb
  | ex c => rw [q] at hb; exact hb
  | ok ds =>
   rw [q] at hb
   intro us F1 H1 x r
   rw [List.append_nil]
   refine ⟨by rw [List.length_cons, ← r.length, hfs τ ds q], a, [], us, [], ds, o, F1, C, dx, vs, rfl, rfl, x.hh _ _ h2, h3, h4.keep x.ff fun l ws _ e1 e2 => ⟨x.hh _ _ e1, ?_⟩, x.fh, x.tt R.tt, Reps.nil, r, ?_⟩
   ·cases y : F1 l with
    | none => rfl
    | some u =>
     rcases x.nw l u y with z | z
     ·rw [e2] at z; cases z
     ·rw [e1] at z; cases z
   show match g o ds with
    | .ok d => Ev X.K F1 H1 Q d
    | _ => False
   have hb : Ok X (noEx (g o ds)) (Ev X.K F H Q) := hb
   cases z : g o ds with
   | ok d => rw [z] at hb; exact Ev.ext hb x
   | ex c => rw [z] at hb; exact hb.elim
   | no => rw [z] at hb; exact hb.elim
theorem nil_of {σ : St} {H : Hp} {Q : List V → Hp → Prop} (h : tAs X aNil σ H Q) : tNil σ H Q := by
 obtain ⟨F, τ, R, h⟩ := h
 exact h [] F H (Ext.refl R.fh) Reps.nil
theorem zf9 {g : Fs → List D → Rs D} {p1 apos : Pos} {pl : Sem Bool} (M : MetR X.prog X.w X.K X.mg X.base c m k 0 ps g) (hr : Room k X.A) (hx : PE X (.Name x p1) (tVar i))
  (ht : eval (.Call (.Attribute (.Name x p1) m apos) [] [] pos) X.env = (do
   let ov ← eval (.Name x p1) X.env
   standAt apos.atName
   let (f, first) ← holding [ov] (getMethod ov m pl)
   callWith pos f first (backTo pos (starEach [] X.env)) (backToKw pos (keywordEach [] X.env))) := by rfl) :
  PDE X (.Call (.Attribute (.Name x p1) m apos) [] [] pos) (zg9 i c m g aNil) := by
 obtain ⟨C, f, fd, hC, cl, hm, F, hb⟩ := M
 refine PE.imp (zN5 hx cl hm F hr hb .nil (E := E0) pass0 ht) fun σ H Q h => ?_
 obtain ⟨v, h1, a, dx, vs, h2, h3, h4, h5⟩ := methR_of (n := 0) hC (fun τ ds h => by cases h; rfl) h
 exact ⟨v, h1, a, dx, vs, h2, h3, h4, nil_of h5⟩
def oMeth (i : Nat) (c m : Str) (g : Fs → List D → Rs (D × Fs)) (fs : FA) : FOb := fun τ => (omAt τ i c).bind fun p => if (fldD m p.2).isNone = true then (fs τ).bind fun ds => (match g p.2 ds with
 | .ok (d, o') => .ok (d, τ.set i (some (.obj p.1 c o')))
 | _ => .no) else .no
theorem yl1 {C : Addr} {g : Fs → List D → Rs (D × Fs)} (hC : PySem.W.nsIn X.K mainGlobals c = some (some (.ref C))) (hfs : ∀ τ ds, fs τ = .ok ds → ds.length = n) {σ : St} {H : Hp} {Q : VK} (h : tOb X (oMeth i c m g fs) σ H Q) : tMeth C m (spM X.K c 0 n g) [] E0 (tVar i) (tAs X fs) σ H Q := by
 obtain ⟨B, Z, F, τ, R, h⟩ := h
 obtain ⟨t, o, h1, h5⟩ := zB3 (X := X) h.bind
 dsimp only at h5
 obtain ⟨a, q1, C', dx, vs, q2, q3, q4, q5, q6⟩ := R.rv.ob.at_ i t c o h1
 obtain rfl : C = C' := by rw [hC] at q4; cases q4; rfl
 have l := q5.look (f := m)
 cases z : fldD m o with
 | some d => rw [z, if_neg (by simp)] at h5; exact h5.elim
 | none =>
  rw [z] at l h5
  rw [if_pos (by rfl)] at h5
  refine ⟨_, q1, a, dx, vs, rfl, q2, l, F, τ, R.rv, ?_⟩
  have hb := h5.bind
  cases q : fs τ with
  | no => rw [q] at hb; exact hb
  | ex c => rw [q] at hb; exact hb
  | ok ds =>
   rw [q] at hb
   intro us F1 H1 x r
   have R1 := R.ext x
   obtain ⟨a', p1, ob⟩ := R1.rv.ob.at_ i t c o h1
   obtain rfl : a' = a := by rw [q1] at p1; cases p1; rfl
   rw [List.append_nil]
   refine ⟨by rw [List.length_cons, ← r.length, hfs τ ds q], a', [], us, [], ds, o, F1, rfl, rfl, ob, x.fh, R1.rv.tt, Reps.nil, r, ?_⟩
   rw [List.nil_append]
   dsimp only [Ok] at hb
   cases z : g o ds with
   | ok p =>
    obtain ⟨d, o'⟩ := p
    rw [z] at hb
    exact fun v F' H' xo ob' nw rep => hb v F' H' (x.ff.trans xo.ff) (R1.meth h1 q1 xo ob' nw) rep
   | ex c => rw [z] at hb; exact hb.elim
   | no => rw [z] at hb; exact hb.elim
theorem zE3 {g : Fs → List D → Rs (D × Fs)} {p1 apos : Pos} {pl : Sem Bool} (M : MetM X.prog X.w X.K X.mg X.base c m k n ps g) (hr : Room k X.A) (hx : PE X (.Name x p1) (tVar i)) (ha : PDA X (e :: es) fs) (hfs : ∀ τ ds, fs τ = .ok ds → ds.length = n)
  (hst : starEach (e :: es) X.env = (false, eval e X.env) :: starEach es X.env := by rfl) (hpl : (backTo pos (starEach es X.env)).any (·.1) = false := by rfl)
  (ht : eval (.Call (.Attribute (.Name x p1) m apos) (e :: es) [] pos) X.env = (do
   let ov ← eval (.Name x p1) X.env
   standAt apos.atName
   let (f, first) ← holding [ov] (getMethod ov m pl)
   callWith pos f first (backTo pos (starEach (e :: es) X.env)) (backToKw pos (keywordEach [] X.env))) := by rfl) :
  PDOb X (.Call (.Attribute (.Name x p1) m apos) (e :: es) [] pos) (oMeth i c m g fs) := by
 obtain ⟨C, f, fd, hC, cl, hm, F, hb⟩ := M
 exact PE.imp (pe_meth hx cl hm F hr hb .nil (E := E0) pass0 ha hst hpl ht) fun σ H Q h => yl1 hC hfs h
theorem zs5 {g : Fs → List D → Rs (D × Fs)} {p1 apos : Pos} {pl : Sem Bool} (M : MetM X.prog X.w X.K X.mg X.base c m k 0 ps g) (hr : Room k X.A) (hx : PE X (.Name x p1) (tVar i))
  (ht : eval (.Call (.Attribute (.Name x p1) m apos) [] [] pos) X.env = (do
   let ov ← eval (.Name x p1) X.env
   standAt apos.atName
   let (f, first) ← holding [ov] (getMethod ov m pl)
   callWith pos f first (backTo pos (starEach [] X.env)) (backToKw pos (keywordEach [] X.env))) := by rfl) :
  PDOb X (.Call (.Attribute (.Name x p1) m apos) [] [] pos) (oMeth i c m g aNil) := by
 obtain ⟨C, f, fd, hC, cl, hm, F, hb⟩ := M
 refine PE.imp (zN5 hx cl hm F hr hb .nil (E := E0) pass0 ht) fun σ H Q h => ?_
 obtain ⟨v, h1, a, dx, vs, h2, h3, h4, h5⟩ := yl1 (n := 0) hC (fun τ ds h => by cases h; rfl) h
 exact ⟨v, h1, a, dx, vs, h2, h3, h4, nil_of h5⟩
def otOf (gt : FT) : FObT := fun τ => (gt τ).bind fun b => .ok (b, τ)
theorem zN9 {gt : FT} (h : PDT X e gt) : PDObT X e (otOf gt) := PT.imp h fun σ H Q ⟨B, Z, F, τ, R, q⟩ => tTs.of R.rv q.bind fun b F1 H1 g x _ => g F1 H1 x.ff (R.ext x)
def oOp (op : D → D → Rs D) (fo : FOb) (fb : FE) : FOb := fun τ => (fo τ).bind fun p => (fb p.2).bind fun y => (op p.1 y).bind fun z => .ok (z, p.2)
theorem oop_of {r : R2} {op : D → D → Rs D} (hl : ∀ F H x y dx dy Q, Same F H → Rep X.K F dx x → Rep X.K F dy y → Ok X (op dx dy) (Ev X.K F H Q) → r x y H Q)
  (σ : St) (H : Hp) (Q : VK) (h : tOb X (oOp op fo fb) σ H Q) : tOp r (tOb X fo) (tE X fb) σ H Q := by
 obtain ⟨B, Z, F, τ, R, h⟩ := h
 refine ⟨B, Z, F, τ, R, h.bind.imp fun p g v F1 H1 f1 R1 r1 => ?_⟩
 refine tE.at R1 g.bind fun y w F2 H2 g2 x2 R2 r2 => ?_
 exact hl F2 H2 v w p.1 y Q R2.rv.fh (r1.mono x2.ff) r2 (g2.bind.imp fun z gz u F3 H3 x3 r3 => gz u F3 H3 (f1.trans (x2.ff.trans x3.ff)) (R2.ext x3) r3)
def oB (f : FOb) : FObT := fun τ => (f τ).bind fun p => match p.1 with
 | .bl b => .ok (b, p.2)
 | _ => .no
theorem zO0 {o : CmpOp} {op : D → D → Rs D} (ho : OpD X (compareOp o) op) (ha : PDOb X a fo) (hb : PDE X b fb) (hm : behindInMarks o b = false) : PDObT X (.Compare a [o] [b] pos) (oB (oOp op fo fb)) := by
 obtain ⟨r, h1, h2⟩ := ho
 refine (zX1 h1 ha hb hm).imp fun σ H Q h => ?_
 obtain ⟨B, Z, F, τ, R, h⟩ := h
 refine oop_of h2 σ H _ ⟨B, Z, F, τ, R, h.bind.imp fun p g v F1 H1 f1 R1 r1 => ?_⟩
 obtain ⟨d, τ'⟩ := p
 cases d with
 | bl k => simp only [Rep] at r1; exact ⟨k, r1, g F1 H1 f1 R1⟩
 | _ => exact g.elim
def oOrT (ga gb : FObT) : FObT := fun τ => (ga τ).bind fun p => if p.1 = true then .ok (true, p.2) else gb p.2
theorem zE2 (ha : PDObT X a ga) : PDObW X (.BoolOp .Or [a] pos) ga := pw_or1 ha
theorem zN8 (ha : PDObT X a ga) (hb : PDObW X (.BoolOp .Or (b :: rest) pos) gb) : PDObW X (.BoolOp .Or (a :: b :: rest) pos) (oOrT ga gb) :=
 PW.imp (pw_or ha hb) fun σ H Q ⟨B, Z, F, τ, R, h⟩ => ⟨B, Z, F, τ, R, h.bind.imp fun p g F1 H1 f1 R1 => by
  obtain ⟨k, τ'⟩ := p
  cases k with
  | false => rw [if_neg (by simp)] at g ⊢; exact ⟨B, Z, F1, τ', R1, g.imp fun p e F' H' f' => e F' H' (f1.trans f')⟩
  | true => rw [if_pos rfl] at g ⊢; exact g F1 H1 f1 R1⟩
theorem yb0 (h : PDObW X e ga) : PDObT X e ga := PW.pt h
def sIfO (gc : FObT) (f g : FS) : FS := fun τ => Fl.of (gc τ) fun p => if p.1 = true then f p.2 else g p.2
theorem zG6 {s1 s2 : List Stmt} {f g : FS} (hc : PDObT X e ga) (h1 : PDSs X s1 f) (h2 : PDSs X s2 g) : PDS X (.If e s1 s2 pos) (sIfO ga f g) :=
 PS.imp (ps_if hc h1 h2) fun E σ H ⟨B, Z, F, τ, R, h⟩ => ⟨B, Z, F, τ, R, h.of.imp fun p q F1 H1 f1 R1 => by
  obtain ⟨k, τ'⟩ := p
  cases k with
  | true => rw [if_pos rfl] at q ⊢; exact ⟨B, Z, F1, τ', R1, q.same f1⟩
  | false => rw [if_neg (by simp)] at q ⊢; exact ⟨B, Z, F1, τ', R1, q.same f1⟩⟩
def zl6 (fo : FOb) : FS := fun τ => Fl.of (fo τ) fun p => .nx p.2
theorem zp2 (he : PDOb X e fo) (hs : swapsWith e none pos.line X.env = pure false := by rfl) : PDS X (.Expr e pos) (zl6 fo) :=
 PS.imp (zN2 he hs) fun E σ H ⟨B, Z, F, τ, R, h⟩ => ⟨B, Z, F, τ, R, h.of.imp fun p q v F1 H1 f1 R1 r => q σ F1 H1 f1 R1⟩
def sSetB (i : Nat) (fo : FOb) : FS := fun τ => Fl.of (fo τ) fun p => .nx (p.2.set i (some (.val p.1)))
theorem pds_setB {pos' : Pos} (hN : X.N.Nodup) (hi : X.N[i]? = some x) (hx : Loc X.env.scope x) (he : PDOb X e fo) (hs : swapsWith e (some (.Name x pos')) pos.line X.env = pure false := by rfl) (hf : X.fn x = true ∨ X.env.scope.names.lookup x = some .local := by first | exact .inl rfl | exact .inr rfl | assumption) :
  PDS X (.Assign [.Name x pos'] e pos) (sSetB i fo) :=
 PS.imp (zT0 hN hi hx he hs hf) fun E σ H ⟨B, Z, F, τ, R, h⟩ => ⟨B, Z, F, τ, R, h.of.imp fun p q v F1 H1 f1 R1 r => q _ F1 H1 f1 (R1.set r)⟩
def sRetM (fe : FE) : FS := fun τ => Fl.of (fe τ) fun d => .ro d τ
theorem zp0 (he : PDE X e fe) : PDS X (.Return (some e) pos) (sRetM fe) :=
 PS.imp (ya5 he) fun E σ H ⟨B, Z, F, τ, R, h⟩ => tE.at R h.of fun d v F1 H1 g x R1 r => g v σ F1 H1 x.ff R1 r
end
section
variable {X : Cx} {pos : Pos} {e a b : Expr} {es rest : List Expr} {fe fb : FE} {fs f1 f2 : FA} {c m x y : Str} {i k n j : Nat} {ps : List Str} {fo : FOb}
def tAm (X : Cx) (i : Nat) (f1 f2 : FA) : TA := fun σ H Q => ∃ F τ v, RV X.K F τ σ H ∧ σ[i]? = some (some v) ∧ Ok X (f1 τ) fun ds1 => Ok X (f2 τ) fun ds2 => ∀ us1 us2 F' H', Ext F H F' H' → Reps X.K F' ds1 us1 → Reps X.K F' ds2 us2 → Q (us1 ++ v :: us2) H'
def PDM (X : Cx) (es : List Expr) (i : Nat) (f1 f2 : FA) : Prop := PA X es (tAm X i f1 f2)
theorem zh4 {p1 : Pos} (hx : PE X (.Name x p1) (tVar i)) (hr : PDA X es fs) (hs : starEach (.Name x p1 :: es) X.env = (false, eval (.Name x p1) X.env) :: starEach es X.env := by rfl) : PDM X (.Name x p1 :: es) i aNil fs :=
 PA.imp (zt6 hx hr hs) fun σ H Q ⟨F, τ, v, R, hv, h⟩ => by
  refine ⟨v, hv, F, τ, R, ?_⟩
  have h : Ok X (fs τ) fun ds2 => ∀ us1 us2 F' H', Ext F H F' H' → Reps X.K F' [] us1 → Reps X.K F' ds2 us2 → Q (us1 ++ v :: us2) H' := h
  exact h.imp fun ds2 g us F' H' x r => g [] us F' H' x Reps.nil r
theorem zw8 (he : PDE X e fe) (hr : PDM X es i f1 f2) (hs : starEach (e :: es) X.env = (false, eval e X.env) :: starEach es X.env := by rfl) : PDM X (e :: es) i (aCons fe f1) f2 :=
 PA.imp (zt6 he hr hs) fun σ H Q ⟨F, τ, v, R, hv, h⟩ => tE.of R (Ok.bind h) fun d u F1 H1 g x R1 r =>
  ⟨F1, τ, v, R1, hv, (Ok.bind g).imp fun ds1 g1 => by
   have g1 : Ok X (f2 τ) fun ds2 => ∀ us1 us2 F' H', Ext F H F' H' → Reps X.K F' (d :: ds1) us1 → Reps X.K F' ds2 us2 → Q (us1 ++ v :: us2) H' := g1
   exact g1.imp fun ds2 g2 us1 us2 F' H' x2 r1 r2 => g2 (u :: us1) us2 F' H' (x.trans x2) (Reps.cons (r.mono x2.ff) r1) r2⟩
def oDefM (i : Nat) (c : Str) (g : Fs → List D → Rs (D × Fs)) (f1 f2 : FA) : FOb := fun τ => (omAt τ i c).bind fun p => (f1 τ).bind fun ds1 => (f2 τ).bind fun ds2 => match g p.2 (ds1 ++ ds2) with
 | .ok (d, o') => .ok (d, τ.set i (some (.obj p.1 c o')))
 | _ => .no
theorem zG9 {g : Fs → List D → Rs (D × Fs)} {p : Pos} (D : DefM X.prog X.w X.K X.mg X.base y c k j n ps g) (hr : Room k X.A) (ha : PDM X (e :: es) i f1 f2) (hl1 : ∀ τ ds, f1 τ = .ok ds → ds.length = j) (hl2 : ∀ τ ds, f2 τ = .ok ds → j + ds.length = n) (hg : Gl X y := by rfl) (hdb : (y == ("__debug__" : Str)) = false := by decide)
  (he : starEach (e :: es) X.env = (false, eval e X.env) :: starEach es X.env := by rfl) (hpl : (backTo pos (starEach es X.env)).any (·.1) = false := by rfl) : PDOb X (.Call (.Name y p) (e :: es) [] pos) (oDefM i c g f1 f2) := by
 obtain ⟨f, fd, F, hb, hk, hm⟩ := D
 refine PE.imp (zX3 F hr hg hm hk hb .nil (E := E0) pass0 ha hdb he hpl) fun σ H Q ⟨B, Z, Fz, τ, R, h⟩ => ?_
 obtain ⟨t, o, h1, h5⟩ := zB3 (X := X) (Ok.bind h)
 dsimp only at h5
 obtain ⟨a, q1, C', dx, vs, q2, q3, q4, q5, q6⟩ := R.rv.ob.at_ i t c o h1
 refine ⟨Fz, τ, .ref a, R.rv, q1, ?_⟩
 have hb := Ok.bind h5
 cases e1 : f1 τ with
 | no => rw [e1] at hb; exact hb
 | ex c => rw [e1] at hb; exact hb
 | ok ds1 =>
  rw [e1] at hb
  have hb2 : Ok X ((f2 τ).bind fun ds2 => match g o (ds1 ++ ds2) with
   | .ok (d, o') => .ok (d, τ.set i (some (.obj t c o')))
   | _ => .no) fun p => ∀ v F' H', Same Fz F' → RS X.K B Z F' p.2 σ H' → Rep X.K F' p.1 v → Q v H' := hb
  have hb := Ok.bind hb2
  show Ok X (f2 τ) _
  cases e2 : f2 τ with
  | no => rw [e2] at hb; exact hb
  | ex c => rw [e2] at hb; exact hb
  | ok ds2 =>
   rw [e2] at hb
   intro us1 us2 F1 H1 x r1 r2
   have R1 := R.ext x
   obtain ⟨a', p1, ob⟩ := R1.rv.ob.at_ i t c o h1
   obtain rfl : a' = a := by rw [q1] at p1; cases p1; rfl
   rw [List.append_nil]
   have l1 := hl1 τ ds1 e1
   have l2 := hl2 τ ds2 e2
   refine ⟨by rw [List.length_append, List.length_cons, ← r1.length, ← r2.length]; omega, a', us1, us2, ds1, ds2, o, F1, rfl, by rw [← r1.length]; exact l1, ob, x.fh, R1.rv.tt, r1, r2, ?_⟩
   dsimp only [Ok] at hb
   cases z : g o (ds1 ++ ds2) with
   | ok p =>
    obtain ⟨d, o'⟩ := p
    rw [z] at hb
    exact fun v F' H' xo ob' nw rep => hb v F' H' (x.ff.trans xo.ff) (R1.meth h1 q1 xo ob' nw) rep
   | ex c => rw [z] at hb; exact hb.elim
   | no => rw [z] at hb; exact hb.elim
def eDefR (i : Nat) (c : Str) (g : Fs → List D → Rs D) (f1 f2 : FA) : FE := fun τ => (obAt τ i c).bind fun o => (f1 τ).bind fun ds1 => (f2 τ).bind fun ds2 => noEx (g o (ds1 ++ ds2))
theorem zl8 {g : Fs → List D → Rs D} {p : Pos} (D : DefR X.prog X.w X.K X.mg X.base y c k j n ps g) (hr : Room k X.A) (ha : PDM X (e :: es) i f1 f2) (hl1 : ∀ τ ds, f1 τ = .ok ds → ds.length = j) (hl2 : ∀ τ ds, f2 τ = .ok ds → j + ds.length = n) (hg : Gl X y := by rfl) (hdb : (y == ("__debug__" : Str)) = false := by decide)
  (he : starEach (e :: es) X.env = (false, eval e X.env) :: starEach es X.env := by rfl) (hpl : (backTo pos (starEach es X.env)).any (·.1) = false := by rfl) : PDE X (.Call (.Name y p) (e :: es) [] pos) (eDefR i c g f1 f2) := by
 obtain ⟨f, fd, F, hb, hk, hm⟩ := D
 refine PE.imp (zX3 F hr hg hm hk hb .nil (E := E0) pass0 ha hdb he hpl) fun σ H Q ⟨Fz, τ, R, h⟩ => ?_
 obtain ⟨o, a, C, dx, vs, h1, h2, h3, h4, h5⟩ := zH8 R (Ok.bind h)
 refine ⟨Fz, τ, .ref a, R, h1, ?_⟩
 have hb := Ok.bind h5
 cases e1 : f1 τ with
 | no => rw [e1] at hb; exact hb
 | ex c => rw [e1] at hb; exact hb
 | ok ds1 =>
  rw [e1] at hb
  have hb2 : Ok X ((f2 τ).bind fun ds2 => noEx (g o (ds1 ++ ds2))) (Ev X.K Fz H Q) := hb
  have hb := Ok.bind hb2
  show Ok X (f2 τ) _
  cases e2 : f2 τ with
  | no => rw [e2] at hb; exact hb
  | ex c => rw [e2] at hb; exact hb
  | ok ds2 =>
   rw [e2] at hb
   intro us1 us2 F1 H1 x r1 r2
   rw [List.append_nil]
   have l1 := hl1 τ ds1 e1
   have l2 := hl2 τ ds2 e2
   refine ⟨by rw [List.length_append, List.length_cons, ← r1.length, ← r2.length]; omega, a, us1, us2, ds1, ds2, o, F1, C, dx, vs, rfl, by rw [← r1.length]; exact l1, x.hh _ _ h2, h3, h4.keep x.ff fun l ws _ e3 e4 => ⟨x.hh _ _ e3, ?_⟩, x.fh, x.tt R.tt, r1, r2, ?_⟩
   ·cases w : F1 l with
    | none => rfl
    | some u =>
     rcases x.nw l u w with z | z
     ·rw [e4] at z; cases z
     ·rw [e3] at z; cases z
   ·have hb : Ok X (noEx (g o (ds1 ++ ds2))) (Ev X.K Fz H Q) := hb
    cases z : g o (ds1 ++ ds2) with
    | ok d => rw [z] at hb; exact Ev.ext hb x
    | ex c => rw [z] at hb; exact hb.elim
    | no => rw [z] at hb; exact hb.elim
omit [Tabs] in
theorem zS9 {K : PySem.W.Frag} {F : Hp} : ∀ (n : Nat) {ds : List D} {ws : List V}, Reps K F ds ws → Reps K F (ds.take n) (ws.take n)
 | 0, _, _, _ => by rw [List.take_zero, List.take_zero]; exact Reps.nil
 | n + 1, [], ws, r => by
  simp only [Reps] at r
  subst r
  exact Reps.nil
 | n + 1, d :: ds, ws, r => by
  simp only [Reps] at r
  obtain ⟨v, t, rfl, r1, r2⟩ := r
  exact Reps.cons r1 (zS9 n r2)
omit [Tabs] in
theorem yh8 {K : PySem.W.Frag} {F : Hp} {ds : List D} {ws : List V} (r : Reps K F ds ws) : Reps K F ds.dropLast ws.dropLast := by
 rw [List.dropLast_eq_take, List.dropLast_eq_take, r.length]
 exact zS9 _ r
end
theorem RS.setObj {K : PySem.W.Frag} {B Z F1 F H1 H : Hp} {τ : DS} {σ : St} {i : Nat} {c : Str} {fs : Fs} {a : Addr} (R1 : RS K B Z F1 τ σ H1) (ex : Ext F1 H1 F H) (ob : ObAt K F H c fs a) (ha : H1 a = none) (hf : ∀ l ∈ Lof H c a, H1 l = none) :
  RS K B Z F (τ.set i (some (.obj 0 c fs))) (σ.set i (some (.ref a))) H := by
 have R := R1.ext ex
 have len := R.rv.len
 have lt : ∀ {j : Nat} {s : Option Sl}, (τ.set i (some (.obj 0 c fs)))[j]? = some s → (i = j ∧ s = some (.obj 0 c fs) ∧ (σ.set i (some (.ref a)))[j]? = some (some (.ref a))) ∨ (i ≠ j ∧ τ[j]? = some s ∧ (σ.set i (some (.ref a)))[j]? = σ[j]?) := fun {j s} h => by
  by_cases e : i = j
  ·subst e
   have hl : i < τ.length := by
    rcases Nat.lt_or_ge i τ.length with z | z
    ·exact z
    ·rw [List.getElem?_eq_none_iff.mpr (by simpa using z)] at h; cases h
   rw [List.getElem?_set_self hl] at h; cases h
   exact .inl ⟨rfl, rfl, List.getElem?_set_self (by rw [← len]; exact hl)⟩
  ·rw [List.getElem?_set_ne e] at h
   exact .inr ⟨e, h, List.getElem?_set_ne e⟩
 have ltS : ∀ {j : Nat} {c' : Str}, ObS (τ.set i (some (.obj 0 c fs)))[j]? c' → (i = j ∧ c' = c ∧ (σ.set i (some (.ref a)))[j]? = some (some (.ref a))) ∨ (i ≠ j ∧ ObS τ[j]? c' ∧ (σ.set i (some (.ref a)))[j]? = σ[j]?) := fun {j c'} h => by
  rcases h with ⟨m, gs, h⟩ | ⟨gs, h⟩
  ·rcases lt h with ⟨e, z, q⟩ | ⟨e, z, q⟩
   ·cases z; exact .inl ⟨e, rfl, q⟩
   ·exact .inr ⟨e, .inl ⟨m, gs, z⟩, q⟩
  ·rcases lt h with ⟨e, z, q⟩ | ⟨e, z, q⟩
   ·cases z
   ·exact .inr ⟨e, .inr ⟨gs, z⟩, q⟩
 have old : ∀ {j : Nat} {c' : Str} {b : Addr}, ObS τ[j]? c' → σ[j]? = some (some (.ref b)) → b ≠ a ∧ ∀ l ∈ Lof H c' b, H1 l ≠ none := fun {j c' b} h e => by
  obtain ⟨b', C, dx, vs, gs, h1, h2, h3⟩ := R1.rv.ob.get h
  rw [e] at h1; cases h1
  refine ⟨fun z => (by subst z; rw [ha] at h2; cases h2), fun l hl z => ?_⟩
  rw [Lof.ins (ex.hh _ _ h2 : H b = some (.ins C dx vs))] at hl
  obtain ⟨_, ws, q⟩ := h3.own hl
  rw [z] at q; cases q
 refine ⟨⟨R.rv.fh, by simp [len], fun j d h => ?_, fun j ds h => ?_, fun j k ds es b hjk h1 h2 h3 h4 => ?_, R.rv.tt, ⟨fun j m c1 g h => ?_, fun j k m c1 c2 g1 b hjk h1 h2 h3 h4 => ?_, fun j c1 g h => ?_, fun j k m c1 c2 g1 b b' l hjk h1 h2 h3 h4 h5 h6 => ?_, fun j k c1 ds b l h1 h2 h3 h4 h5 => ?_⟩⟩, R.bh, R.zf, R.nb, fun j ds b h1 h2 => ?_, fun j m c1 g b h1 h2 => ?_, fun a0 dx b1 b2 j m c1 g h => ?_, fun j c1 g b h1 h2 => ?_⟩
 ·rcases lt h with ⟨_, z, _⟩ | ⟨_, z, q⟩
  ·cases z
  ·rw [q]; exact R.rv.val j d z
 ·rcases lt h with ⟨_, z, _⟩ | ⟨_, z, q⟩
  ·cases z
  ·rw [q]; exact R.rv.own j ds z
 ·rcases lt h1 with ⟨_, z, _⟩ | ⟨_, z1, q1⟩
  ·cases z
  ·rcases lt h2 with ⟨_, z, _⟩ | ⟨_, z2, q2⟩
   ·cases z
   ·rw [q1] at h3; rw [q2] at h4
    exact R.rv.dis j k ds es b hjk z1 z2 h3 h4
 ·rcases lt h with ⟨_, z, q⟩ | ⟨_, z, q⟩
  ·cases z; exact ⟨a, q, ob⟩
  ·rw [q]; exact R.rv.ob.at_ j m c1 g z
 ·rcases lt h1 with ⟨e1, z, q1⟩ | ⟨_, z1, q1⟩
  ·rw [q1] at h3; cases h3
   rcases ltS h2 with ⟨e2, _, _⟩ | ⟨_, z2, q2⟩
   ·exact hjk (e1.symm.trans e2)
   ·rw [q2] at h4; exact (old z2 h4).1 rfl
  ·rw [q1] at h3
   rcases ltS h2 with ⟨_, _, q2⟩ | ⟨_, z2, q2⟩
   ·rw [q2] at h4; cases h4
    exact (old (.inl ⟨m, g1, z1⟩) h3).1 rfl
   ·rw [q2] at h4
    exact R.rv.ob.dis j k m c1 c2 g1 b hjk z1 z2 h3 h4
 ·rcases lt h with ⟨_, z, q⟩ | ⟨_, z, q⟩
  ·cases z
  ·obtain ⟨a', C, dx, vs, r⟩ := R.rv.ob.rd j c1 g z
   exact ⟨a', C, dx, vs, by rw [q]; exact r.1, r.2⟩
 ·rcases lt h1 with ⟨e1, z, q1⟩ | ⟨_, z1, q1⟩
  ·cases z
   rw [q1] at h3; cases h3
   rcases ltS h2 with ⟨e2, _, _⟩ | ⟨_, z2, q2⟩
   ·exact hjk (e1.symm.trans e2)
   ·rw [q2] at h4; exact (old z2 h4).2 l h6 (hf l h5)
  ·rw [q1] at h3
   rcases ltS h2 with ⟨_, ec, q2⟩ | ⟨_, z2, q2⟩
   ·subst ec
    rw [q2] at h4; cases h4
    exact (old (.inl ⟨m, g1, z1⟩) h3).2 l h5 (hf l h6)
   ·rw [q2] at h4
    exact R.rv.ob.ll j k m c1 c2 g1 b b' l hjk z1 z2 h3 h4 h5 h6
 ·rcases lt h2 with ⟨_, z, _⟩ | ⟨_, z2, q2⟩
  ·cases z
  ·rw [q2] at h4
   rcases ltS h1 with ⟨_, ec, q1⟩ | ⟨_, z1, q1⟩
   ·subst ec
    rw [q1] at h3; cases h3
    obtain ⟨p, ws, g1, g2, _⟩ := R1.rv.own k ds z2
    rw [h4] at g1; cases g1
    rw [hf l h5] at g2; cases g2
   ·rw [q1] at h3
    exact R.rv.ob.lo j k c1 ds b l z1 z2 h3 h4 h5
 ·rcases lt h1 with ⟨_, z, _⟩ | ⟨_, z, q⟩
  ·cases z
  ·rw [q] at h2; exact R.ob j ds b z h2
 ·rcases lt h1 with ⟨_, z, q⟩ | ⟨_, z, q⟩
  ·cases z
   rw [q] at h2; cases h2
   exact ⟨zl5 R1.bh ha, fun l hl => zl5 R1.bh (hf l hl)⟩
  ·rw [q] at h2; exact R.oo j m c1 g b z h2
 ·rcases lt h with ⟨_, z, _⟩ | ⟨_, z, q⟩
  ·cases z
  ·rw [q]; exact R.sf a0 dx b1 b2 j m c1 g z
 ·rcases lt h1 with ⟨_, z, _⟩ | ⟨_, z, q⟩
  ·cases z
  ·rw [q] at h2; exact R.ro j c1 g b z h2
def sMake (i : Nat) (c : Str) (g : Fs → List D → Rs (D × Fs)) (fs : FA) : FS := fun τ => Fl.of (fs τ) fun ds => match g [] ds with
 | .ok (.non, o) => .nx (τ.set i (some (.obj 0 c o)))
 | _ => .no
section
variable {X : Cx} {pos : Pos} {e : Expr} {es : List Expr} {fs : FA} {c x : Str} {i k n : Nat} {ps : List Str}
theorem make_of {C : Addr} {g : Fs → List D → Rs (D × Fs)} (hC : PySem.W.nsIn X.K mainGlobals c = some (some (.ref C))) (hfs : ∀ τ ds, fs τ = .ok ds → ds.length = n) {σ : St} {H B Z F : Hp} {τ : DS} {E : Ends} (R : RS X.K B Z F τ σ H) (h : Post X B Z F E (sMake i c g fs τ)) :
  tMake C (spM X.K c 0 n g) [] E0 (tAs X fs) σ H fun v H' => E.nx (σ.set i (some v)) H' := by
 have hb := Post.of h
 refine ⟨F, τ, R.rv, ?_⟩
 cases q : fs τ with
 | no => rw [q] at hb; exact hb
 | ex c => rw [q] at hb; exact hb
 | ok ds =>
  rw [q] at hb
  intro us F1 H1 x r y dx hy hdx hne
  have R1 := R.ext x
  have hFy := zc6 x.fh hy
  rw [List.append_nil]
  have hk : ∀ {b : Addr} {u : HO}, H1 b = some u → upd (upd H1 dx (.own y)) y (.ins C dx []) b = some u := fun {b u} e => by
   rw [zb3 (zc7 e hy), zb3 (zc7 e hdx)]; exact e
  have hD : upd (upd H1 dx (.own y)) y (.ins C dx []) dx = some (.own y) := by rw [zb3 hne, zb2]
  have hL : Lof (upd (upd H1 dx (.own y)) y (.ins C dx [])) c y = [] := by rw [Lof.ins zb2]; rfl
  refine ⟨by rw [List.length_cons, ← r.length, hfs τ ds q], y, [], us, [], ds, [], F1, rfl, rfl, ⟨C, dx, [], zb2, hFy, hC, trivial, hD, by show ([] : List Addr).Nodup; exact List.nodup_nil⟩, fun b u e => hk (x.fh b u e), ⟨fun t ht => ?_, fun d b e => ?_⟩, Reps.nil, r, ?_⟩
  ·obtain ⟨t1, t2⟩ := R1.rv.tt.1 t ht
   refine ⟨t1, ?_⟩
   rcases t2 with z | ⟨c', z, z2⟩
   ·exact .inl (hk z)
   ·exact .inr ⟨c', hk z, hk z2⟩
  ·by_cases zd : d = dx
   ·subst zd; rw [hD] at e; cases e; exact ⟨C, d, [], zb2⟩
   ·by_cases zy : d = y
    ·subst zy; rw [zb2] at e; cases e
    ·rw [zb3 zy, zb3 zd] at e
     obtain ⟨C', dx', vs, h⟩ := R1.rv.tt.2 d b e
     exact ⟨C', dx', vs, hk h⟩
  ·rw [List.nil_append]
   dsimp only [Ok] at hb
   cases z : g [] ds with
   | ex c => rw [z] at hb; exact hb.elim
   | no => rw [z] at hb; exact hb.elim
   | ok p =>
    obtain ⟨d, o⟩ := p
    rw [z] at hb
    cases d with
    | non =>
     dsimp only at hb
     intro v F' H' xo ob nw rep
     simp only [Rep] at rep
     refine ⟨rep, ?_⟩
     have hF' : F' y = none := by obtain ⟨_, _, _, _, h, _⟩ := ob; exact h
     have ex : Ext F1 H1 F' H' := ⟨xo.ff, Hh.trans (fun b u e => .of (by rw [zE8 (zc7 e hy) (by rw [hL]; simp)]; exact hk e)) xo.hh, xo.fh, fun b u e => by
      rcases xo.nw b u e with z | z
      ·exact .inl z
      ·rcases zB9 z with z | z | z
       ·subst z; rw [hF'] at e; cases e
       ·rw [hL] at z; cases z
       ·by_cases n : b = y
        ·subst n; rw [zb2] at z; cases z
        ·rw [zb3 n] at z
         by_cases n2 : b = dx
         ·subst n2; rw [zb2] at z; cases z
         ·rw [zb3 n2] at z; exact .inr z, fun _ => xo.tt⟩
     refine hb _ F' H' (x.ff.trans xo.ff) (R1.setObj ex ob hy fun l hl => ?_)
     rcases nw l hl with z | z
     ·rw [hL] at z; cases z
     ·by_cases n : l = y
      ·subst n; exact hy
      ·rw [zb3 n] at z
       by_cases n2 : l = dx
       ·subst n2; exact hdx
       ·rw [zb3 n2] at z; exact z
    | _ => exact hb.elim
theorem ya9 {g : Fs → List D → Rs (D × Fs)} {p1 pos' cpos : Pos} (M : ClsM X.prog X.w X.K X.mg X.base c k n ps g) (hr : Room (k + 1) X.A) (hg : Gl X c) (ha : PDA X (e :: es) fs) (hfs : ∀ τ ds, fs τ = .ok ds → ds.length = n)
  (hN : X.N.Nodup) (hi : X.N[i]? = some x) (hx : Loc X.env.scope x) (hdb : (c == ("__debug__" : Str)) = false := by decide) (hst : starEach (e :: es) X.env = (false, eval e X.env) :: starEach es X.env := by rfl) (hpl : (backTo cpos (starEach es X.env)).any (·.1) = false := by rfl)
  (hs : swapsWith (.Call (.Name c p1) (e :: es) [] cpos) (some (.Name x pos')) pos.line X.env = pure false := by rfl) (hf : X.fn x = true ∨ X.env.scope.names.lookup x = some .local := by first | exact .inl rfl | exact .inr rfl | assumption) :
  PDS X (.Assign [.Name x pos'] (.Call (.Name c p1) (e :: es) [] cpos) pos) (sMake i c g fs) := by
 obtain ⟨C, f, fd, hC, hm, M, F, hb⟩ := M
 exact PS.imp (zT0 hN hi hx (pe_make M F hr hg hm hb .nil (E := E0) pass0 ha hdb hst hpl) hs hf) fun E σ H ⟨B, Z, F, τ, R, h⟩ => make_of hC hfs R h
end
structure ClsAt (K : PySem.W.Frag) (mg : Str → Option Value) (c : Str) (C : Addr) : Prop where
 ns : PySem.W.nsIn K mainGlobals c = some (some (.ref C))
 cls : Cls K C
 at_ : mg c = some (.ref C)
section
variable {P : Program} {w : World} {K : PySem.W.Frag} {mg : Str → Option Value} {base : Heap}
theorem MetM.mk {c m qual : Str} {C : Addr} {st : Stmt} {f : Addr} {fd : FuncData} {N ps : List Str} {k n : Nat} {fb : FS} (A : ClsAt K mg c C) (hm : Meth K C m f) (D : Fun K m qual st f fd) (S : zb8 N ps (za3 st)) (hn : ps.length = n + 1)
  (hb : ∀ (kV doc pm : Value) (an : Option Addr) (cdv ct : Value) (us : List Value), us.length = ps.length → bindArgs (PySem.W.fnOf m qual (zb9 st) (zb1 st) (za3 st) .none kV doc pm an cdv ct) ⟨us, []⟩ = pure (ps.zip us))
  (hbody : ∀ (cdv : Value) (A : Around) (outer : List Env) (s : Shared) (H : Hp) (E : XK), Room k (A.deeper (envOfC qual (za3 st) s.heap.objs.size f cdv)) →
   PDSs (cxOf CX0 P w K mg base N qual (za3 st) f cdv A outer s H E).nox (zb1 st) fb) : MetM P w K mg base c m (k + 1) n ps (runM N.length 0 c fb) :=
 ⟨C, f, fd, A.ns, A.cls, hm, fnM D S hn hbody, D.binds hb⟩
theorem MetR.mk {c m qual : Str} {C : Addr} {st : Stmt} {f : Addr} {fd : FuncData} {N ps : List Str} {k n : Nat} {fb : FS} (A : ClsAt K mg c C) (hm : Meth K C m f) (D : Fun K m qual st f fd) (S : zb8 N ps (za3 st)) (hn : ps.length = n + 1)
  (hb : ∀ (kV doc pm : Value) (an : Option Addr) (cdv ct : Value) (us : List Value), us.length = ps.length → bindArgs (PySem.W.fnOf m qual (zb9 st) (zb1 st) (za3 st) .none kV doc pm an cdv ct) ⟨us, []⟩ = pure (ps.zip us))
  (hbody : ∀ (cdv : Value) (A : Around) (outer : List Env) (s : Shared) (H : Hp) (E : XK), Room k (A.deeper (envOfC qual (za3 st) s.heap.objs.size f cdv)) →
   PDSs (cxOf CX0 P w K mg base N qual (za3 st) f cdv A outer s H E).nox (zb1 st) fb) : MetR P w K mg base c m (k + 1) n ps (runR N.length 0 c fb) :=
 ⟨C, f, fd, A.ns, A.cls, hm, fnR D S hn hbody, D.binds hb⟩
theorem ClsM.mk {c qual : Str} {C : Addr} {st : Stmt} {f : Addr} {fd : FuncData} {N ps : List Str} {k n : Nat} {fb : FS} (A : ClsAt K mg c C) (hm : Mk K C f) (D : Fun K "__init__" qual st f fd) (S : zb8 N ps (za3 st)) (hn : ps.length = n + 1)
  (hb : ∀ (kV doc pm : Value) (an : Option Addr) (cdv ct : Value) (us : List Value), us.length = ps.length → bindArgs (PySem.W.fnOf "__init__" qual (zb9 st) (zb1 st) (za3 st) .none kV doc pm an cdv ct) ⟨us, []⟩ = pure (ps.zip us))
  (hbody : ∀ (cdv : Value) (A : Around) (outer : List Env) (s : Shared) (H : Hp) (E : XK), Room k (A.deeper (envOfC qual (za3 st) s.heap.objs.size f cdv)) →
   PDSs (cxOf CX0 P w K mg base N qual (za3 st) f cdv A outer s H E).nox (zb1 st) fb) : ClsM P w K mg base c (k + 1) n ps (runM N.length 0 c fb) :=
 ⟨C, f, fd, A.ns, A.at_, hm, fnM D S hn hbody, D.binds hb⟩
theorem DefM.mk {x c : Str} {st : Stmt} {f : Addr} {fd : FuncData} {N ps : List Str} {k n j : Nat} {fb : FS} (D : DefAt K mg x st f fd) (S : zb8 N ps (za3 st)) (hn : ps.length = n + 1)
  (hb : ∀ (kV doc pm : Value) (an : Option Addr) (cdv ct : Value) (us : List Value), us.length = ps.length → bindArgs (PySem.W.fnOf x x (zb9 st) (zb1 st) (za3 st) .none kV doc pm an cdv ct) ⟨us, []⟩ = pure (ps.zip us))
  (hbody : ∀ (cdv : Value) (A : Around) (outer : List Env) (s : Shared) (H : Hp) (E : XK), Room k (A.deeper (envOfC x (za3 st) s.heap.objs.size f cdv)) →
   PDSs (cxOf CX0 P w K mg base N x (za3 st) f cdv A outer s H E).nox (zb1 st) fb) : DefM P w K mg base x c (k + 1) j n ps (runM N.length j c fb) :=
 ⟨f, fd, fnM D.fn S hn hbody, D.fn.binds hb, D.fn.kp, D.at_⟩
theorem DefR.mk {x c : Str} {st : Stmt} {f : Addr} {fd : FuncData} {N ps : List Str} {k n j : Nat} {fb : FS} (D : DefAt K mg x st f fd) (S : zb8 N ps (za3 st)) (hn : ps.length = n + 1)
  (hb : ∀ (kV doc pm : Value) (an : Option Addr) (cdv ct : Value) (us : List Value), us.length = ps.length → bindArgs (PySem.W.fnOf x x (zb9 st) (zb1 st) (za3 st) .none kV doc pm an cdv ct) ⟨us, []⟩ = pure (ps.zip us))
  (hbody : ∀ (cdv : Value) (A : Around) (outer : List Env) (s : Shared) (H : Hp) (E : XK), Room k (A.deeper (envOfC x (za3 st) s.heap.objs.size f cdv)) →
   PDSs (cxOf CX0 P w K mg base N x (za3 st) f cdv A outer s H E).nox (zb1 st) fb) : DefR P w K mg base x c (k + 1) j n ps (runR N.length j c fb) :=
 ⟨f, fd, fnR D.fn S hn hbody, D.fn.binds hb, D.fn.kp, D.at_⟩
end
def ItH (K : PySem.W.Frag) (J : It) (F1 H1 : Hp) (ds : List D) : Prop := ∀ (i : Nat) (F H : Hp), Same F1 F → Same F H → Hh H1 H →
 (ds.length ≤ i → J.stop i H) ∧ ∀ d, ds[i]? = some d → J.go i H ∧ ∀ x H', J.yld i H x H' → ∃ F', Ext F H F' H' ∧ Rep K F' d x
def tIh (X : Cx) (f : FA) : TI := fun σ H R => ∃ F τ, RV X.K F τ σ H ∧ Ok X (f τ) fun ds => ∀ J F1 H1, Ext F H F1 H1 → ItH X.K J F1 H1 ds → R J H1
def PDIh (X : Cx) (tg iter : Expr) (f : FA) : Prop := PI X tg iter (tIh X f)
theorem PDI.h {X : Cx} {tg e : Expr} {f : FA} (h : PDI X tg e f) : PDIh X tg e f := PI.imp h fun σ H R ⟨F, τ, Rv, q⟩ => ⟨F, τ, Rv, q.imp fun ds g J F1 H1 x io => g J F1 H1 x fun i F H a b _ => io i F H a b⟩
section
variable {X : Cx} {scope : Scope} {tn fr : List Str} {idx : List Nat} {tg iter elt : Expr} {ifs : List Expr} {pos : Pos} {fi : FA} {set : FG} {ft : FT} {fe : FE}
theorem yf2 (so : SetOk set) {Y : Cx} (hK : Y.K = X.K) (σ : St) (H : Hp) (Q : VK) (h : tFr X (eComp tn.length idx fi set ft fe) σ H Q) : tComp (sig0 tn.length idx) (tIh X fi) (tG Y set) (tTs Y ft) (tE Y fe) σ H Q := by
 obtain ⟨F, τ, R, h⟩ := h
 refine ⟨F, τ, R, h.bind.imp fun ds gds J F1 H1 x io => fun acc hacc => ?_⟩
 cases q : compL set ft fe (tau0 tn.length idx τ) ds with
 | no => rw [q] at gds; exact gds.elim
 | ex c => rw [q] at gds; exact gds.elim
 | ok xs =>
  rw [q] at gds
  obtain ⟨hz, k⟩ := zj4 gds
  have R1 := R.ext x
  have hF1 : F1 acc = none := zc6 x.fh hacc
  refine ⟨fun i m σ1 Hc => m = ds.length - i ∧ i ≤ ds.length ∧ ∃ F2 Hm τ1 dn rs vs, Ext F1 H1 F2 Hm ∧ Hm acc = none ∧ Hc = upd Hm acc (.lst vs) ∧ Reps X.K F2 dn vs ∧ RS X.K H1 F1 F2 τ1 σ1 Hc ∧ noOwn τ1 ∧ (∀ d, set d τ1 = set d (tau0 tn.length idx τ)) ∧
   compL set ft fe (tau0 tn.length idx τ) (ds.drop i) = .ok rs ∧ xs = dn ++ rs, ⟨ds.length, by simp, Nat.zero_le _, F1, H1, _, [], xs, [], Ext.refl x.fh, hacc, rfl, Reps.nil, ?_, zo5 _ _ _, fun _ => rfl, q, rfl⟩, ?_⟩
  ·exact (yh7 tn.length idx R1).free_upd (zo5 _ _ _) hacc hF1 (.inl hacc)
  rintro i m σ1 Hc ⟨rfl, hi, F2, Hm, τ1, dn, rs, vs, x2, hm, rfl, r2, R2, n2, so2, cl, ex⟩
  obtain ⟨i1, i2⟩ := io i F2 _ x2.ff R2.rv.fh (x2.hh.trans (.of (zf7 hm)))
  by_cases hlt : i < ds.length
  ·have hd : ds.drop i = ds[i] :: ds.drop (i + 1) := List.drop_eq_getElem_cons hlt
   rw [hd, compL] at cl
   obtain ⟨go, yl⟩ := i2 ds[i] (by simp [hlt])
   refine .inr ⟨go, fun y H' yy => ?_⟩
   obtain ⟨F3, x3, r3⟩ := yl y H' yy
   refine ⟨F3, τ1, ds[i], by rw [hK]; exact (R2.ext x3).rv, by rw [hK]; exact r3, ?_⟩
   rw [so2]
   cases e1 : set ds[i] (tau0 tn.length idx τ) with
   | no => rw [e1] at cl; cases cl
   | ex c => rw [e1] at cl; cases cl
   | ok τ2 =>
    rw [e1] at cl
    simp only at cl
    intro σ2 _ RR _
    rw [hK] at RR
    have RR := RR _ _ (R2.ext x3)
    have n3 := so.no _ _ _ e1 (zo5 _ _ _)
    have so3 : ∀ d, set d τ2 = set d (tau0 tn.length idx τ) := fun d => so.ov d _ _ _ e1
    cases e2 : ft τ2 with
    | no => rw [e2] at cl; cases cl
    | ex c => rw [e2] at cl; cases cl
    | ok b =>
     rw [e2] at cl
     refine ⟨F3, τ2, by rw [hK]; exact RR.rv, ?_⟩
     rw [e2]
     intro F4 H4 x4
     have x34 := x3.trans x4
     cases b with
     | false =>
      simp only at cl
      rw [if_neg (by simp)]
      obtain ⟨y1, y2⟩ := zA1 x2 hm x34
      have ha : H4 acc = some (.lst vs) := x34.hh acc _ zb2
      have eH : H4 = upd (zr3 H4 acc) acc (.lst vs) := by
       rw [zy3]; funext b; unfold upd; split
       ·rename_i z; subst z; exact ha
       ·rfl
      refine ⟨ds.length - (i + 1), by omega, rfl, hlt, F4, zr3 H4 acc, τ2, dn, rs, vs, y1, zr2 _ _, eH, r2.mono x34.ff, RR.ext x4, n3, so3, cl, ex⟩
     | true =>
      simp only at cl
      rw [if_pos rfl]
      cases e3 : fe τ2 with
      | no => rw [e3] at cl; cases cl
      | ex c => rw [e3] at cl; cases cl
      | ok z =>
       rw [e3] at cl
       simp only at cl
       cases e4 : compL set ft fe (tau0 tn.length idx τ) (ds.drop (i + 1)) with
       | no => rw [e4] at cl; cases cl
       | ex c => rw [e4] at cl; cases cl
       | ok rs' =>
        rw [e4] at cl
        have ers : z :: rs' = rs := by simpa using cl
        refine ⟨F4, τ2, by rw [hK]; exact (RR.ext x4).rv, ?_⟩
        rw [e3]
        intro v F5 H5 x5 r5
        rw [hK] at r5
        have x35 := x34.trans x5
        obtain ⟨y1, y2⟩ := zA1 x2 hm x35
        refine ⟨vs, x35.hh acc _ zb2, ?_, ds.length - (i + 1), by omega, rfl, hlt, F5, zr3 H5 acc, τ2, dn ++ [z], rs', vs ++ [v], y1, zr2 _ _, by rw [zy3], (r2.mono x35.ff).append (Reps.cons r5 Reps.nil), ?_, n3, so3, e4, ?_⟩
        ·have := congrArg List.length ex
         rw [← ers, List.length_append, List.length_cons, r2.length] at this
         omega
        ·exact ((RR.ext x4).ext x5).free_upd n3 hacc y2 (.inr ⟨_, x35.hh acc _ zb2⟩)
        ·rw [ex, ← ers, List.append_assoc]; rfl
  ·have e : i = ds.length := by omega
   subst e
   rw [List.drop_length, compL] at cl
   cases cl
   rw [List.append_nil] at ex
   subst ex
   exact .inl ⟨i1 (Nat.le_refl _), k acc vs F2 Hm (x.trans x2) hm r2⟩
theorem yi8 (hb : zx9 X.env.scope scope = true) (hc : X.calm = true) (hfr : FreeOk scope X.N fr idx) (so : SetOk set) (hi : PDIh X tg iter fi)
  (hg : ∀ s H C fp, PDG (X.comp scope (tn ++ fr) s H C fp) tg set) (ht : ∀ s H C fp, PDTs (X.comp scope (tn ++ fr) s H C fp) ifs ft) (he : ∀ s H C fp, PDE (X.comp scope (tn ++ fr) s H C fp) elt fe)
  (hs : ∀ x, foldedSetIterable iter X.env x = pure x := by intro _; rfl) : PDF X (.ListComp elt [⟨tg, iter, ifs, 0⟩] scope pos) (eComp tn.length idx fi set ft fe) :=
 PE.imp (yi5 (s0 := sig0 tn.length idx) (g := tG (X.comp scope (tn ++ fr) X.s₀ X.H₀ 0 []) set) (ti := tTs (X.comp scope (tn ++ fr) X.s₀ X.H₀ 0 []) ft) (te := tE (X.comp scope (tn ++ fr) X.s₀ X.H₀ 0 []) fe)
  (zp3 hb) hc (fun σ _ => by simp [sig0, hfr.len]) (zF6 hfr) hi hg ht he hs) (yf2 so rfl)
end
section
variable {X : Cx} {pos : Pos} {e tg : Expr} {es : List Expr} {fe : FE} {fs : FA} {c f x : Str} {i : Nat} {C : Addr}
def iOw (i : Nat) (c f : Str) : FA := fun τ => owAt τ i c f
theorem itl_h {K : PySem.W.Frag} {F H H1 : Hp} {l : Addr} {ds : List D} {ws : List V} {i : Nat} (hl : H1 l = some (.lst ws)) (hh : Hh H1 H) (fh : Same F H) (r : Reps K F ds ws) :
  (ds.length ≤ i → (Itl K l).stop i H) ∧ ∀ d, ds[i]? = some d → (Itl K l).go i H ∧ ∀ x H', (Itl K l).yld i H x H' → ∃ F', Ext F H F' H' ∧ Rep K F' d x := by
 have q : SqL K H l ws := SqL.of (hh _ _ hl)
 refine ⟨fun h => ⟨ws, q, by rw [← r.length]; exact h⟩, fun d hd => ?_⟩
 obtain ⟨v, h1, h2⟩ := r.get hd
 refine ⟨⟨ws, v, q, h1⟩, fun x H' y => ?_⟩
 obtain ⟨e1, y⟩ := y
 subst e1
 have h3 := y ws q
 rw [h1] at h3; cases h3
 exact ⟨F, Ext.refl fh, h2⟩
theorem pdi_ow {p1 p2 : Pos} (hx : PE X (.Name x p1) (tVar i)) (hC : PySem.W.nsIn X.K mainGlobals c = some (some (.ref C))) (cl : Cls X.K C) (na : NoAttr X.K C f) (ho : Tabs.own c f = true := by rfl) : PDIh X tg (.Attribute (.Name x p1) f p2) (iOw i c f) :=
 PI.imp (yi4 (pe_ow hx)) fun σ H R ⟨F, τ, Rv, h⟩ => by
  obtain ⟨ds, a, C', dx, vs, l, ws, h1, h2, h3, h4, h5, h6, h7, h8⟩ := zO6 Rv ho h
  obtain rfl : C = C' := by rw [hC] at h3; cases h3; rfl
  exact ⟨_, h1, a, C, dx, vs, .ref l, rfl, h2, cl, na, h4, l, rfl, ⟨ws, SqL.of h5⟩, h8 _ F H (Ext.refl Rv.fh) fun i F2 H2 f1 f2 hh => itl_h h5 hh f2 (h7.mono f1)⟩
theorem zT3 {p p1 p2 : Pos} (hx : PE X (.Name x p1) (tVar i)) (hC : PySem.W.nsIn X.K mainGlobals c = some (some (.ref C))) (cl : Cls X.K C) (na : NoAttr X.K C f) (hg : Gl X "list") (hm : X.mg "list" = none) (ho : Tabs.own c f = true := by rfl)
  (he : starEach [.Attribute (.Name x p1) f p2] X.env = [(false, eval (.Attribute (.Name x p1) f p2) X.env)] := by rfl) (hpl : (backTo pos (starEach [] X.env)).any (·.1) = false := by rfl) : PDF X (.Call (.Name "list" p) [.Attribute (.Name x p1) f p2] [] pos) (iOw i c f) :=
 PE.imp (L2.pe_callTy zD2 hg hm PyProof.Rows.boot_list (zt6 (pe_ow hx) zH1 (by rw [he]; rfl)) (by decide) (by decide) (by rw [he]; rfl) hpl) fun σ H Q ⟨F, τ, Rv, h⟩ => by
  obtain ⟨ds, a, C', dx, vs, l, ws, h1, h2, h3, h4, h5, h6, h7, h8⟩ := zO6 Rv ho h
  obtain rfl : C = C' := by rw [hC] at h3; cases h3; rfl
  exact ⟨_, h1, a, C, dx, vs, .ref l, rfl, h2, cl, na, h4, l, ws, rfl, .inl (SqL.of h5), fun p hp => h8 p ws F H (Ext.refl Rv.fh) hp h7⟩
def roAt (τ : DS) (i : Nat) (c f : Str) : Rs (List D) := match τ[i]? with
 | some (some (.obr c' fs)) => if c' = c then (match fldD f fs with
  | some (.lst ds) => .ok ds
  | _ => .no) else .no
 | _ => .no
theorem roAt_ok {X : Cx} {B Z F H : Hp} {τ : DS} {σ : St} {P : List D → Prop} (R : RS X.K B Z F τ σ H) (ho : Tabs.own c f = true) (h : Ok X (roAt τ i c f) P) :
  ∃ ds a C dx vs l ws, σ[i]? = some (some (.ref a)) ∧ H a = some (.ins C dx vs) ∧ PySem.W.nsIn X.K mainGlobals c = some (some (.ref C)) ∧ vs.lookup f = some (.ref l) ∧ B l = some (.lst ws) ∧ Reps X.K F ds ws ∧ P ds := by
 unfold roAt at h
 split at h
 ·rename_i c' fs e
  by_cases z : c' = c
  ·subst z
   rw [if_pos rfl] at h
   obtain ⟨a, C, dx, vs, h1, h2, h4, h5⟩ := R.rv.ob.rd i c' fs e
   obtain ⟨C2, dx2, vs2, b1, b2⟩ := R.ro i c' fs a e h1
   have hb : H a = some (.ins C2 dx2 vs2) := R.bh _ _ b1
   rw [h2] at hb; cases hb
   have l := h5.look (f := f)
   cases q : fldD f fs with
   | none => rw [q] at h; exact h.elim
   | some d =>
    rw [q] at h l
    obtain ⟨v, l1, l2⟩ := l
    unfold Fld1 at l2
    rw [if_pos ho] at l2
    obtain ⟨ds, p, ws, rfl, rfl, e3, e4, e5⟩ := l2
    obtain ⟨ws2, b3⟩ := b2 p (zs6 ho l1)
    have : H p = some (.lst ws2) := R.bh _ _ b3
    rw [e3] at this; cases this
    exact ⟨ds, a, C, dx, vs, p, ws, h1, h2, h4, l1, b3, e5, h⟩
  ·rw [if_neg z] at h; exact h.elim
 ·exact h.elim
def sForR (i : Nat) (c f : Str) (set : FG) (body : FS) : FS := fun τ => Fl.of (roAt τ i c f) fun ds => loopD set body ds τ
theorem pds_forR {p1 p2 : Pos} {body : List Stmt} {set : FG} {fb : FS} (hp : PassesOwn (model X.prog X.w) X.A X.env X.xe) (hc : X.calm = true) (hx : PE X (.Name x p1) (tVar i)) (hC : PySem.W.nsIn X.K mainGlobals c = some (some (.ref C))) (cl : Cls X.K C) (na : NoAttr X.K C f) (hg : PDG X tg set) (hb : PDSs X body fb) (ho : Tabs.own c f = true := by rfl)
  (hs2 : ∀ v, foldedSetIterable (.Attribute (.Name x p1) f p2) X.env v = pure v := by intro _; rfl) : PDS X (.For tg (.Attribute (.Name x p1) f p2) body [] pos) (sForR i c f set fb) :=
 PS.imp (ps_for hp hc (yi4 (pe_ow hx)) hg hb hs2) fun E σ H ⟨B, Z, F, τ, R, h⟩ => by
  obtain ⟨ds, a, C', dx, vs, l, ws, h1, h2, h3, h4, h5, h7, g⟩ := roAt_ok R ho (Post.of h)
  obtain rfl : C = C' := by rw [hC] at h3; cases h3; rfl
  refine ⟨_, h1, a, C, dx, vs, .ref l, rfl, h2, cl, na, h4, l, rfl, ⟨ws, SqL.of (R.bh _ _ h5)⟩, ?_⟩
  refine ⟨fun i m σ H => m = ds.length - i ∧ i ≤ ds.length ∧ ∃ F' τ', Same F F' ∧ RS X.K B Z F' τ' σ H ∧ Post X B Z F' E (loopD set fb (ds.drop i) τ'), ⟨ds.length, by simp, Nat.zero_le _, F, τ, Same.refl _, R, g⟩, ?_⟩
  rintro i m σ2 H2 ⟨rfl, hi, F2, τ2, f2, R2, p2⟩
  obtain ⟨i1, i2⟩ := itl_h (K := X.K) (i := i) h5 R2.bh R2.rv.fh (h7.mono f2)
  by_cases hlt : i < ds.length
  ·have hd : ds.drop i = ds[i] :: ds.drop (i + 1) := List.drop_eq_getElem_cons hlt
   rw [hd] at p2
   obtain ⟨go, yl⟩ := i2 ds[i] (by simp [hlt])
   refine .inr ⟨go, fun σ' H' => ∃ F' τ', Same F2 F' ∧ RS X.K B Z F' τ' σ' H' ∧ Post X B Z F' E (loopD set fb (ds.drop (i + 1)) τ'), fun σ' H' ⟨F', τ', a, b, c⟩ => ⟨ds.length - (i + 1), by omega, rfl, hlt, F', τ', f2.trans a, b, c⟩, fun y H' yy => ?_⟩
   obtain ⟨F3, x3, r3⟩ := yl y H' yy
   have R3 := R2.ext x3
   refine ⟨F3, τ2, ds[i], R3.rv, r3, (Post.of p2).imp fun τ4 p4 σ4 _ R4 _ => ⟨B, Z, F3, τ4, R4 B Z R3, ?_⟩⟩
   cases q : fb τ4 with
   | nx τ5 => rw [q] at p4; exact fun σ' F' H' ff RR => ⟨F', τ5, x3.ff.trans ff, RR, Post.same p4 (x3.ff.trans ff)⟩
   | ct τ5 => rw [q] at p4; exact fun σ' F' H' ff RR => ⟨F', τ5, x3.ff.trans ff, RR, Post.same p4 (x3.ff.trans ff)⟩
   | bk τ5 => rw [q] at p4; exact fun σ' F' H' ff RR => p4 σ' F' H' (x3.ff.trans ff) RR
   | rt d => rw [q] at p4; exact p4
   | ro d τ' => rw [q] at p4; exact fun v σ' F' H' ff RR rr => p4 v σ' F' H' (x3.ff.trans ff) RR rr
   | rb d τ' => rw [q] at p4; exact fun v σ' F' H' ff RR rr => p4 v σ' F' H' (x3.ff.trans ff) RR rr
   | ex c => rw [q] at p4; exact p4
   | no => rw [q] at p4; exact p4
   | rs c τ5 => rw [q] at p4; exact fun σ' F' H' ff RR => p4 σ' F' H' (x3.ff.trans ff) RR
  ·have e : i = ds.length := by omega
   subst e
   rw [List.drop_length] at p2
   exact .inl ⟨i1 (Nat.le_refl _), p2 σ2 F2 H2 (Same.refl _) R2⟩
theorem yj3 {c f g : Str} {l : Addr} : ∀ {vs : List (Str × V)}, (ownL c vs).Nodup → Tabs.own c f = true → Tabs.own c g = true → f ≠ g → vs.lookup f = some (.ref l) → vs.lookup g = some (.ref l) → False
 | [], _, _, _, _, e, _ => by cases e
 | (k, w) :: vs, nd, hf, hg, hne, e1, e2 => by
  obtain ⟨n1, n2⟩ := ownL_nd.mp nd
  by_cases z1 : f = k
  ·subst z1
   have : w = .ref l := by simpa [List.lookup] using e1
   subst this
   have hb : (g == f) = false := beq_eq_false_iff_ne.mpr (Ne.symm hne)
   exact n1 l hf rfl (zs6 hg (by simpa [List.lookup, hb] using e2))
  ·have hb1 : (f == k) = false := beq_eq_false_iff_ne.mpr z1
   have e3 : vs.lookup f = some (.ref l) := by simpa [List.lookup, hb1] using e1
   by_cases z2 : g = k
   ·subst z2
    have : w = .ref l := by simpa [List.lookup] using e2
    subst this
    exact n1 l hg rfl (zs6 hf e3)
   ·have hb2 : (g == k) = false := beq_eq_false_iff_ne.mpr z2
    exact yj3 n2 hf hg hne e3 (by simpa [List.lookup, hb2] using e2)
def zt3 (i : Nat) (c f g : Str) : FS := fun τ => Fl.of (omO τ i c f) fun p => Fl.of (omO τ i c g) fun q => match q.2.2[q.2.2.length - 1]? with
 | some d => if p.2.2.length < sizeLine then .nx ((τ.set i (some (.obj q.1 c (putD g (.lst q.2.2.dropLast) q.2.1)))).set i (some (.obj q.1 c (putD f (.lst (p.2.2 ++ [d])) (putD g (.lst q.2.2.dropLast) q.2.1))))) else .no
 | none => .no
theorem zL4 {g : Str} {p1 p2 p3 p4 apos cpos apos' cpos' : Pos} (hx : PE X (.Name x p1) (tVar i)) (hx' : PE X (.Name x p3) (tVar i)) (hC : PySem.W.nsIn X.K mainGlobals c = some (some (.ref C))) (cl : Cls X.K C) (na : NoAttr X.K C f) (na' : NoAttr X.K C g) (hne : f ≠ g) (ho : Tabs.own c f = true := by rfl) (ho' : Tabs.own c g = true := by rfl)
  (hfew : ((backTo cpos (starEach [.Call (.Attribute (.Attribute (.Name x p3) g p4) "pop" apos') [] [] cpos'] X.env)).all (fun x => !x.1) && (backToKw cpos (keywordEach [] X.env)).all (fun x => x.1.isSome)
   && decide ([Expr.Call (.Attribute (.Attribute (.Name x p3) g p4) "pop" apos') [] [] cpos'].length + ([] : List Keyword).length + (if ([] : List Keyword).isEmpty then 0 else 1) < 30)) = true := by rfl)
  (hline : (apos.endLine == cpos.line) = true := by rfl) (hline' : (apos'.endLine == cpos'.line) = true := by rfl) (hs : starEach [.Call (.Attribute (.Attribute (.Name x p3) g p4) "pop" apos') [] [] cpos'] X.env = [(false, eval (.Call (.Attribute (.Attribute (.Name x p3) g p4) "pop" apos') [] [] cpos') X.env)] := by rfl) (hplain : (backTo cpos (starEach [] X.env)).any (·.1) = false := by rfl)
  (hbase : attributeBase (.Attribute (.Name x p1) f p2) "append" X.env (eval (.Attribute (.Name x p1) f p2) X.env) = eval (.Attribute (.Name x p1) f p2) X.env := by rfl) (hbase' : attributeBase (.Attribute (.Name x p3) g p4) "pop" X.env (eval (.Attribute (.Name x p3) g p4) X.env) = eval (.Attribute (.Name x p3) g p4) X.env := by rfl)
  (hsw : swapsWith (.Call (.Attribute (.Attribute (.Name x p1) f p2) "append" apos) [.Call (.Attribute (.Attribute (.Name x p3) g p4) "pop" apos') [] [] cpos'] [] cpos) none pos.line X.env = pure false := by rfl) :
  PDS X (.Expr (.Call (.Attribute (.Attribute (.Name x p1) f p2) "append" apos) [.Call (.Attribute (.Attribute (.Name x p3) g p4) "pop" apos') [] [] cpos'] [] cpos) pos) (zt3 i c f g) :=
 PS.imp (zN2 (pe_bm PySem.F.plainAttrs_list PySem.F.slot_list_append PySem.F.type_list_append zz5 (pe_ow hx) (zt6 (pe_bm0 PySem.F.plainAttrs_list PySem.F.slot_list_pop PySem.F.type_list_pop mt_pop (pe_ow hx') hbase' hline') zH1 (by rw [hs]; rfl)) hbase hfew hline (by rw [hs]; rfl) hplain) hsw) fun E σ H ⟨B, Z, F, τ, R, h⟩ => by
  obtain ⟨n, fs, ds, a, C', dx, vs, l, ws, h0, h1, h2, h3, h4, h5, h6, h7, h8⟩ := yj9 R.rv ho (Post.of h)
  obtain rfl : C = C' := by rw [hC] at h3; cases h3; rfl
  obtain ⟨n', fs', ds', a', C', dx', vs', l', ws', k0, k1, k2, k3, k4, k5, k6, k7, k8⟩ := yj9 R.rv ho' (Post.of h8)
  obtain ⟨rfl, rfl⟩ : n = n' ∧ fs = fs' := by rw [h0] at k0; cases k0; exact ⟨rfl, rfl⟩
  obtain rfl : a = a' := by rw [h1] at k1; cases k1; rfl
  rw [h2] at k2; cases k2
  dsimp only at k8
  cases q : ds'[ds'.length - 1]? with
  | none => rw [q] at k8; exact k8.elim
  | some d =>
   rw [q] at k8
   obtain ⟨v, z1, z2⟩ := k7.get q
   by_cases z : ds.length < sizeLine
   ·dsimp only at k8
    rw [if_pos z] at k8
    have hll : l ≠ l' := fun e => by
     subst e
     obtain ⟨a2, q1, C2, dx2, vs2, q2, _, _, _, _, q7⟩ := R.rv.ob.at_ i n c fs h0
     rw [h1] at q1; cases q1
     rw [h2] at q2; cases q2
     exact yj3 q7 ho ho' hne h4 k4
    refine ⟨_, h1, a, C, dx, vs, .ref l, rfl, h2, cl, na, h4, .inl ⟨rfl, ws, SqL.of h5⟩, ?_⟩
    refine ⟨_, h1, a, C, dx, vs, .ref l', rfl, h2, cl, na', k4, .inl ⟨rfl, ws', SqL.of k5⟩, l', ws', v, rfl, rfl, k5, by rw [← k7.length]; exact z1, ?_⟩
    refine ⟨l, ws, v, rfl, rfl, by rw [zb3 hll]; exact h5, by rw [← h7.length]; exact z, ?_⟩
    have R1 := R.attL h0 h1 h2 ho' k4 k5 k6 (yh8 k7)
    have hal : a ≠ l' := fun e => by subst e; rw [h2] at k5; cases k5
    have hlen : i < τ.length := (List.getElem?_eq_some_iff.mp h0).1
    exact k8 _ F _ (Same.refl F) (R1.attL (n := n) (List.getElem?_set_self hlen) h1 (by rw [zb3 hal]; exact h2) ho h4 (by rw [zb3 hll]; exact h5) h6 (h7.append (Reps.cons z2 Reps.nil)))
   ·dsimp only at k8
    rw [if_neg z] at k8; exact k8.elim
end
def spO (K : PySem.W.Frag) (c : Str) (j n : Nat) (c2 : Str) (g : Fs → List D → Rs Fs) : Sp := fun vs H Q E => vs.length = n + 1 ∧ ∃ a us1 us2 ds1 ds2 fs F C dx ws, vs = us1 ++ .ref a :: us2 ∧ us1.length = j ∧ H a = some (.ins C dx ws) ∧ PySem.W.nsIn K mainGlobals c = some (some (.ref C)) ∧ Flds K F H c fs ws ∧ Same F H ∧ TbT F H ∧ Reps K F ds1 us1 ∧ Reps K F ds2 us2 ∧ match g fs (ds1 ++ ds2) with
 | .ok fs' => ∀ b F' H', Ext F H F' H' → ObAt K F' H' c2 fs' b → H b = none → (∀ l ∈ Lof H' c2 b, H l = none) → Q (.ref b) H'
 | _ => False
def flO (c2 : Str) : Fl → Rs Fs
 | .rb i τ => (omAt τ i c2).bind fun p => .ok p.2
 | _ => .no
def runO (N j : Nat) (c c2 : Str) (fb : FS) (fs : Fs) (ds : List D) : Rs Fs := flO c2 (fb (zj8 (.obr c fs) j N ds))
section
variable {P : Program} {w : World} {K : PySem.W.Frag} {mg : Str → Option Value} {base : Heap}
theorem fnO {x qual c c2 : Str} {st : Stmt} {f : Addr} {fd : FuncData} {N ps : List Str} {k n j : Nat} {fb : FS} (F : Fun K x qual st f fd) (S : zb8 N ps (za3 st)) (hn : ps.length = n + 1)
  (hbody : ∀ (cdv : Value) (A : Around) (outer : List Env) (s : Shared) (H : Hp) (E : XK), Room k (A.deeper (envOfC qual (za3 st) s.heap.objs.size f cdv)) →
   PDSs (cxOf CX0 P w K mg base N qual (za3 st) f cdv A outer s H E).nox (zb1 st) fb) : FnOk P w K mg base CX0 (k + 1) f fd ps (spO K c j n c2 (runO N.length j c c2 fb)) := by
 refine F.ok S (fun vs H Q E h => by rw [hn]; exact h.1) fun cdv A outer s H vs Q E hr h => ⟨_, hbody cdv A outer s H E hr, ?_⟩
 obtain ⟨hl, a, us1, us2, ds1, ds2, fs, Fz, C, dx, ws, rfl, hj, o1, o2, o3, fh, tt, r1, r2, h⟩ := h
 have hd1 : ds1.length = j := r1.length.trans hj
 have st : zj8 (.obr c fs) j N.length (ds1 ++ ds2) = argM (.obr c fs) ds1 ds2 N.length := zF5 hd1
 refine ⟨H, Fz, Fz, argM (.obr c fs) ds1 ds2 N.length, zG1 rfl fh tt r1 r2 (fun n' c' fs' e => by cases e) (fun c' fs' e => by cases e; exact ⟨C, dx, ws, o1, o2, o3⟩) (Hh.refl H) (fun _ _ e => e) (fun _ _ _ => rfl), ?_⟩
 unfold runO at h
 rw [st] at h
 cases q : fb (argM (.obr c fs) ds1 ds2 N.length) with
 | rb i τ =>
  rw [q] at h
  cases z : omAt τ i c2 with
  | ok p =>
   obtain ⟨m, fs'⟩ := p
   simp only [flO, z, Rs.bind] at h
   have zz := yk1 z
   intro v σ F' H' ff RR e
   obtain ⟨b, p1, p2⟩ := RR.rv.ob.at_ i m c2 fs' zz
   rw [p1] at e; cases e
   obtain ⟨b1, b2⟩ := RR.oo i m c2 fs' b zz p1
   exact h b F' H' RR.out p2 b1 b2
  | ex c => simp only [flO, z, Rs.bind] at h
  | no => simp only [flO, z, Rs.bind] at h
 | nx τ => rw [q] at h; exact h.elim
 | rt d => rw [q] at h; exact h.elim
 | ro d τ => rw [q] at h; exact h.elim
 | bk τ => rw [q] at h; exact h.elim
 | ct τ => rw [q] at h; exact h.elim
 | ex c => rw [q] at h; exact h.elim
 | no => rw [q] at h; exact h.elim
 | rs c τ => rw [q] at h; exact h.elim
def MetO (P : Program) (w : World) (K : PySem.W.Frag) (mg : Str → Option Value) (base : Heap) (c m : Str) (k n : Nat) (ps : List Str) (c2 : Str) (g : Fs → List D → Rs Fs) : Prop :=
 ∃ C f fd, PySem.W.nsIn K mainGlobals c = some (some (.ref C)) ∧ Cls K C ∧ Meth K C m f ∧ FnOk P w K mg base CX0 k f fd ps (spO K c 0 n c2 g) ∧ Binds K fd ps []
theorem MetO.mk {c m qual c2 : Str} {C : Addr} {st : Stmt} {f : Addr} {fd : FuncData} {N ps : List Str} {k n : Nat} {fb : FS} (A : ClsAt K mg c C) (hm : Meth K C m f) (D : Fun K m qual st f fd) (S : zb8 N ps (za3 st)) (hn : ps.length = n + 1)
  (hb : ∀ (kV doc pm : Value) (an : Option Addr) (cdv ct : Value) (us : List Value), us.length = ps.length → bindArgs (PySem.W.fnOf m qual (zb9 st) (zb1 st) (za3 st) .none kV doc pm an cdv ct) ⟨us, []⟩ = pure (ps.zip us))
  (hbody : ∀ (cdv : Value) (A : Around) (outer : List Env) (s : Shared) (H : Hp) (E : XK), Room k (A.deeper (envOfC qual (za3 st) s.heap.objs.size f cdv)) →
   PDSs (cxOf CX0 P w K mg base N qual (za3 st) f cdv A outer s H E).nox (zb1 st) fb) : MetO P w K mg base c m (k + 1) n ps c2 (runO N.length 0 c c2 fb) :=
 ⟨C, f, fd, A.ns, A.cls, hm, fnO D S hn hbody, D.binds hb⟩
end
section
variable {X : Cx} {pos : Pos} {e : Expr} {es : List Expr} {fs : FA} {c c2 m x y : Str} {i k n h_ : Nat} {ps : List Str}
def oOp2 (op : D → D → Rs D) (fo fo2 : FOb) : FOb := fun τ => (fo τ).bind fun p => (fo2 p.2).bind fun p2 => (op p.1 p2.1).bind fun z => .ok (z, p2.2)
theorem oop2_of {fo fo2 : FOb} {r : R2} {op : D → D → Rs D} (hl : ∀ F H x y dx dy Q, Same F H → Rep X.K F dx x → Rep X.K F dy y → Ok X (op dx dy) (Ev X.K F H Q) → r x y H Q)
  (σ : St) (H : Hp) (Q : VK) (h : tOb X (oOp2 op fo fo2) σ H Q) : tOp r (tOb X fo) (tOb X fo2) σ H Q := by
 obtain ⟨B, Z, F, τ, R, h⟩ := h
 refine ⟨B, Z, F, τ, R, h.bind.imp fun p g v F1 H1 f1 R1 r1 => ?_⟩
 refine ⟨B, Z, F1, p.2, R1, g.bind.imp fun p2 g2 w F2 H2 f2 R2 r2 => ?_⟩
 exact hl F2 H2 v w p.1 p2.1 Q R2.rv.fh (r1.mono f2) r2 (g2.bind.imp fun z gz u F3 H3 x3 r3 => gz u F3 H3 (f1.trans (f2.trans x3.ff)) (R2.ext x3) r3)
theorem yi7 {a b : Expr} {fo fo2 : FOb} {o : CmpOp} {op : D → D → Rs D} (ho : OpD X (compareOp o) op) (ha : PDOb X a fo) (hb : PDOb X b fo2) (hm : behindInMarks o b = false) : PDObT X (.Compare a [o] [b] pos) (oB (oOp2 op fo fo2)) := by
 obtain ⟨r, h1, h2⟩ := ho
 refine (zX1 h1 ha hb hm).imp fun σ H Q h => ?_
 obtain ⟨B, Z, F, τ, R, h⟩ := h
 refine oop2_of h2 σ H _ ⟨B, Z, F, τ, R, h.bind.imp fun p g v F1 H1 f1 R1 r1 => ?_⟩
 obtain ⟨d, τ'⟩ := p
 cases d with
 | bl k => simp only [Rep] at r1; exact ⟨k, r1, g F1 H1 f1 R1⟩
 | _ => exact g.elim
theorem pdot_val {fo : FOb} (h : PDOb X e fo) (he : ∀ whole, isTrue e X.env whole = (do let v ← whole; standAt e.pos; holding [v] (truthy v)) := by intro _; rfl) : PDObT X e (oB fo) :=
 PT.imp (pt_val h he) fun σ H Q ⟨B, Z, F, τ, R, h⟩ => ⟨B, Z, F, τ, R, h.bind.imp fun p g v F1 H1 f1 R1 r1 => by
  obtain ⟨d, τ'⟩ := p
  cases d with
  | bl k => simp only [Rep] at r1; exact ⟨k, r1, g F1 H1 f1 R1⟩
  | _ => exact g.elim⟩
def oNotT (ga : FObT) : FObT := fun τ => (ga τ).bind fun p => .ok (!p.1, p.2)
theorem pdot_not {ga : FObT} (ha : PDObT X e ga) : PDObT X (.UnaryOp .Not e pos) (oNotT ga) :=
 PT.imp (pt_not ha) fun σ H Q ⟨B, Z, F, τ, R, h⟩ => ⟨B, Z, F, τ, R, h.bind.imp fun p g F1 H1 f1 R1 => g F1 H1 f1 R1⟩
def sRetB (i : Nat) (c : Str) : FS := fun τ => Fl.of (omAt τ i c) fun _ => .rb i τ
theorem pds_retB {p1 : Pos} (hx : PE X (.Name x p1) (tVar i)) : PDS X (.Return (some (.Name x p1)) pos) (sRetB i c) :=
 PS.imp (ya5 hx) fun E σ H ⟨B, Z, F, τ, R, h⟩ => by
  obtain ⟨n, fs, h1, h2⟩ := zB3 (X := X) (Post.of h)
  obtain ⟨a, q1, _⟩ := R.rv.ob.at_ i n c fs h1
  exact ⟨_, q1, h2 _ σ F H (Same.refl F) R q1⟩
def sTwin (i h_ : Nat) (c m c2 : Str) (g : Fs → List D → Rs Fs) : FS := fun τ => Fl.of (obAt τ h_ c) fun o => if (fldD m o).isNone = true then (match g o [] with
 | .ok o' => .nx (τ.set i (some (.obj 0 c2 o')))
 | _ => .no) else .no
theorem ya8 {g : Fs → List D → Rs Fs} {p1 apos cpos pos' : Pos} {pl : Sem Bool} (M : MetO X.prog X.w X.K X.mg X.base c m k 0 ps c2 g) (hr : Room k X.A) (ho : PE X (.Name x p1) (tVar h_)) (hN : X.N.Nodup) (hi : X.N[i]? = some y) (hy : Loc X.env.scope y)
  (ht : eval (.Call (.Attribute (.Name x p1) m apos) [] [] cpos) X.env = (do
   let ov ← eval (.Name x p1) X.env
   standAt apos.atName
   let (f, first) ← holding [ov] (getMethod ov m pl)
   callWith cpos f first (backTo cpos (starEach [] X.env)) (backToKw cpos (keywordEach [] X.env))) := by rfl)
  (hs : swapsWith (.Call (.Attribute (.Name x p1) m apos) [] [] cpos) (some (.Name y pos')) pos.line X.env = pure false := by rfl) (hf : X.fn y = true ∨ X.env.scope.names.lookup y = some .local := by first | exact .inl rfl | exact .inr rfl | assumption) :
  PDS X (.Assign [.Name y pos'] (.Call (.Attribute (.Name x p1) m apos) [] [] cpos) pos) (sTwin i h_ c m c2 g) := by
 obtain ⟨C, f, fd, hC, cl, hm, F, hb⟩ := M
 refine PS.imp (zT0 hN hi hy (zN5 ho cl hm F hr hb .nil (E := E0) pass0 ht) hs hf) fun E σ H ⟨B, Z, Fz, τ, R, h⟩ => ?_
 obtain ⟨o, a, C', dx, vs, h1, h2, h3, h4, h5⟩ := zH8 R.rv (Post.of h)
 obtain rfl : C = C' := by rw [hC] at h3; cases h3; rfl
 have l := h4.look (f := m)
 cases z : fldD m o with
 | some d => rw [z, if_neg (by simp)] at h5; exact h5.elim
 | none =>
  rw [z] at l h5
  rw [if_pos (by rfl)] at h5
  refine ⟨_, h1, a, dx, vs, rfl, h2, l, ?_⟩
  refine ⟨rfl, a, [], [], [], [], o, Fz, C, dx, vs, rfl, rfl, h2, h3, h4, R.rv.fh, R.rv.tt, Reps.nil, Reps.nil, ?_⟩
  cases q : g o [] with
  | ex c => rw [q] at h5; exact h5.elim
  | no => rw [q] at h5; exact h5.elim
  | ok o' =>
   rw [q] at h5
   show match g o ([] ++ []) with
    | .ok fs' => _
    | _ => False
   rw [List.nil_append, q]
   exact fun b F' H' ex ob hb1 hb2 => h5 _ F' H' ex.ff (R.setObj ex ob hb1 hb2)
end
section
variable {τ : DS} {fa fb fc fe fi : FE} {fs : FA} {op : D → D → Rs D} {d x y : D} {i j k : Int} {n m : Nat}
def getV : Option (Option Sl) → Rs D
 | some (some (.val d)) => .ok d
 | _ => .no
def getO : Option (Option Sl) → Rs (List D)
 | some (some (.own d)) => .ok d
 | _ => .no
@[simp] theorem zc1 : getV (some (some (.val d))) = .ok d := rfl
@[simp] theorem zj2 {ds : List D} : getO (some (some (.own ds))) = .ok ds := rfl
theorem zc5 : eVar n τ = getV τ[n]? := rfl
theorem zr6 : ownAt τ n = getO τ[n]? := rfl
theorem eC_ap : eC d τ = .ok d := rfl
theorem zg1 : eOp op fa fb τ = (fa τ).bind fun x => (fb τ).bind fun y => op x y := rfl
theorem zb4 : aNil τ = .ok [] := rfl
theorem zb7 : aCons fa fs τ = (fa τ).bind fun x => (fs τ).bind fun r => .ok (x :: r) := rfl
theorem zY9 : eLst fs τ = (fs τ).bind fun ds => if ds.length ≤ sizeLine then .ok (.lst ds) else .no := rfl
theorem yn7 : eTup fs τ = (fs τ).bind fun ds => if ds.length ≤ sizeLine then .ok (.tup ds) else .no := rfl
theorem zg4 {g : List D → Rs D} : eCall g fs τ = (fs τ).bind fun ds => noEx (g ds) := rfl
theorem zr4 {g : List D → Rs D} : eBlt g fs τ = (fs τ).bind g := rfl
theorem eIf_ap {g : FT} : eIf g fa fb τ = (g τ).bind fun b => if b = true then fa τ else fb τ := rfl
theorem zZ0 : eAnd fa fb τ = (fa τ).bind fun x => (truD x).bind fun b => if b = true then fb τ else .ok x := rfl
theorem eOr_ap : eOr fa fb τ = (fa τ).bind fun x => (truD x).bind fun b => if b = true then .ok x else fb τ := rfl
def boolOf : D → Rs Bool
 | .bl b => .ok b
 | _ => .no
@[simp] theorem zd9 {b : Bool} : boolOf (.bl b) = .ok b := rfl
theorem tB_ap : FD.tB fe τ = (fe τ).bind boolOf := rfl
theorem zu6 : tTru fe τ = (fe τ).bind truD := rfl
theorem zr9 {f g : FT} : tAndD f g τ = (f τ).bind fun b => if b = true then g τ else .ok false := rfl
theorem zC4 {f g : FT} : tOrD f g τ = (f τ).bind fun b => if b = true then .ok true else g τ := rfl
theorem tNot_ap {f : FT} : tNotD f τ = (f τ).bind fun b => .ok (!b) := rfl
theorem yn8 {T : String} {g : D → List D → Rs D} : eMt0 T g fa τ = (fa τ).bind fun d => if isTy T d = true then g d [] else .no := rfl
theorem eSl_ap {fl fh : FO} : eSl fe fl fh τ = (fe τ).bind fun d => (fl τ).bind fun l => (fh τ).bind fun u => slD d l u := rfl
def yg9 : D → Rs (Option Int)
 | .int i => .ok (some i)
 | _ => .no
@[simp] theorem zW4 : yg9 (.int i) = .ok (some i) := rfl
theorem yb4 : oSome fe τ = (fe τ).bind yg9 := rfl
def Fl.thn (r : Fl) (g : FS) : Fl := match r with
 | .nx τ => g τ
 | r => r
@[simp] theorem zg5 {g : FS} : (Fl.nx τ).thn g = g τ := rfl
@[simp] theorem zL0 {g : FS} : (Fl.rt d).thn g = .rt d := rfl
theorem ze0 {f g : FS} : sSeq f g τ = (f τ).thn g := rfl
theorem zf0 : sSet n fe τ = Fl.of (fe τ) fun d => .nx (τ.set n (some (.val d))) := rfl
theorem zp9 : sSetO n fs τ = Fl.of (fs τ) fun ds => .nx (τ.set n (some (.own ds))) := rfl
theorem zi1 {g : FT} {f h : FS} : sIf g f h τ = Fl.of (g τ) fun b => if b = true then f τ else h τ := rfl
theorem ze7 : sRet fe τ = Fl.of (fe τ) fun d => .rt d := rfl
theorem zr5 : sRetO n τ = Fl.of (ownAt τ n) fun ds => .rt (.lst ds) := rfl
theorem ze2 : sNext τ = .nx τ := rfl
theorem zn5 {set : FG} {body : FS} : sFor fs set body τ = Fl.of (fs τ) fun ds => loopD set body ds τ := rfl
@[simp] theorem zd8 : flRes (.rt d) = .ok d := rfl
@[simp] theorem zm5 : noEx (.ok d) = .ok d := rfl
@[simp] theorem zi5 : addD (.int i) (.int j) = .ok (.int (i + j)) := rfl
theorem addD_s {a b : Str} (h : a.length + b.length ≤ sizeLine) : addD (.str a) (.str b) = .ok (.str (a ++ b)) := if_pos h
@[simp] theorem zp1 : subD (.int i) (.int j) = .ok (.int (i - j)) := rfl
theorem zv3 (h : (-(18446744073709551616) < i ∧ i < 18446744073709551616) ∨ (-(18446744073709551616) < j ∧ j < 18446744073709551616)) : mulD (.int i) (.int j) = .ok (.int (i * j)) := if_pos h
theorem zU2 (h : 0 < j) : modD (.int i) (.int j) = .ok (.int (i % j)) := by
 show (if decide (0 < j) = true then _ else _) = _
 rw [if_pos (by simpa using h)]
theorem zQ9 (h : 0 < j ∧ j < 1073741824) : fdivD (.int i) (.int j) = .ok (.int (i / j)) := by
 show (if decide (0 < j ∧ j < 1073741824) = true then _ else _) = _
 rw [if_pos (by simpa using h)]
@[simp] theorem ltI_i : ltI (.int i) (.int j) = .ok (.bl (decide (i < j))) := rfl
@[simp] theorem gtD_i : gtD (.int i) (.int j) = .ok (.bl (decide (j < i))) := rfl
@[simp] theorem geD_i : geD (.int i) (.int j) = .ok (.bl (decide (j ≤ i))) := rfl
@[simp] theorem eqD_i : eqD (.int i) (.int j) = .ok (.bl (i == j)) := rfl
@[simp] theorem eqD_s {a b : Str} : eqD (.str a) (.str b) = .ok (.bl (a == b)) := rfl
@[simp] theorem inD_s {a b : Str} : inD (.str a) (.str b) = .ok (.bl (strIn a b)) := rfl
theorem zq5 (c : Nat) (x : Str) : strIn ⟨#[c]⟩ x = decide (c ∈ x.cps.toList) := StrLaws.found_one x c
@[simp] theorem lenD_scr {ns : List Int} : lenD [.scr ns] = .ok (.int ns.length) := rfl
@[simp] theorem zq1 {ds : List D} : lenD [.lst ds] = .ok (.int ds.length) := rfl
theorem yc0 {a : Str} (h : a.length ≤ sizeLine) : lenD [.str a] = .ok (.int a.length) := if_pos h
theorem ixD_scr {ns : List Int} {a : Int} (h : atI ns k = some a) : ixD (.scr ns) (.int k) = .ok (.int a) := by
 show (match atI ns k with | some d => Rs.ok (D.int d) | none => .no) = _
 rw [h]
theorem zB8 {ds : List D} {a : D} (h : atI ds k = some a) : ixD (.lst ds) (.int k) = .ok a := by
 show (match atI ds k with | some d => Rs.ok d | none => .no) = _
 rw [h]
theorem zQ5 {a : Str} {c : Nat} (h : atI a.cps.toList k = some c) (hz : a.length ≤ sizeLine) : ixD (.str a) (.int k) = .ok (signD c) := by
 show (match atI a.cps.toList k with | some c => if a.length ≤ sizeLine then Rs.ok (D.str ⟨#[c]⟩) else .no | none => .no) = _
 rw [h]
 exact if_pos hz
theorem zD6 {α : Type} {xs : List α} {a : α} (h0 : 0 ≤ k) (h : xs[k.toNat]? = some a) : atI xs k = some a := by
 have := yp0 (j := k.toNat) h
 rwa [Int.toNat_of_nonneg h0] at this
@[simp] theorem zt0 {b : Bool} : truD (.bl b) = .ok b := rfl
theorem truD_str {a : Str} (h : a.length ≤ sizeLine) : truD (.str a) = .ok ((a.length : Int) != 0) := if_pos h
theorem zf5 {b : FS} {ds : List D} : runF n b ds = flRes (b (zf3 n ds)) := rfl
end
theorem yf0 (l : List PyData) : PyData.eqvAll l [] = l.isEmpty := by cases l <;> simp [PyData.eqvAll]
theorem okD_scr (ns : List Int) : okD (.scr ns) = true := by
 have c : ∀ l : List Int, PyData.canLayAll0 (l.map PyData.int) = true := fun l => by
  induction l with
  | nil => rfl
  | cons a r ih => simp [PyData.canLayAll0, PyData.canLay0, ih]
 have d : ∀ l : List Int, PyData.depthAll (l.map PyData.int) = 0 := fun l => by
  induction l with
  | nil => rfl
  | cons a r ih => simp [PyData.depthAll, PyData.depth, ih]
 simp [okD, zn6, toPy, PyData.canLay0, PyData.depth, c, d]
theorem zY8 (ns : List Int) : eqD (.scr ns) (.lst []) = .ok (.bl ns.isEmpty) := by
 have o2 : okD (.lst []) = true := by decide
 have : eqvD (.scr ns) (.lst []) = ns.isEmpty := by
  simp only [eqvD, toPy, toPys, PyData.eqv, yf0]
  cases ns <;> rfl
 simp only [eqD, okD_scr, o2, this, and_self, if_true]
end FD
set_option Elab.async false
set_option linter.all false
set_option maxRecDepth 100000
namespace Law
open PySem PySem.Spec PyProof.Rows L2 FD
instance tabs : FD.Tabs := ⟨[(126, 83, 28, ("in_order" : Str) ++ ".<locals>." ++ "<lambda>")], fun c f => (c == "Trail" && f == "done") || (c == "Trail" && f == "undone")⟩
def zJ6 : FS := (sSeq (sIf (tB (eOp eqD (eVar 0) (eLst aNil))) (sRet (eOp mulD (eC (.int 7)) (eVar 1))) sNext)
  (sRet (eOp addD (eOp ixD (eVar 0) (eOp modD (eVar 1) (eBlt lenD (aCons (eVar 0) aNil)))) (eOp mulD (eC (.int 6553)) (eOp fdivD (eVar 1) (eBlt lenD (aCons (eVar 0) aNil)))))))
def zo7 (ds : List D) : Rs D := runF 2 zJ6 ds
def zD5 : FS := (sSeq (sSet 3 (eOp modD (eOp addD (eOp mulD (eOp modD (eCall zo7 (aCons (eVar 0) (aCons (eVar 1) aNil))) (eC (.int 2147483563))) (eC (.int 69069))) (eOp mulD (eC (.int 104723)) (eOp addD (eVar 1) (eC (.int 1))))) (eC (.int 2147483563))))
  (sSeq (sSet 3 (eOp modD (eOp addD (eOp mulD (eVar 3) (eVar 3)) (eOp fdivD (eVar 3) (eC (.int 3)))) (eC (.int 2147483399))))
  (sRet (eOp modD (eOp fdivD (eOp modD (eOp addD (eOp mulD (eVar 3) (eVar 3)) (eOp fdivD (eVar 3) (eC (.int 7)))) (eC (.int 2147483647))) (eC (.int 11))) (eVar 2)))))
def zb0 (ds : List D) : Rs D := runF 4 zD5 ds
def zJ4 : FS := (sSeq (sSet 2 (eC (.str "")))
  (sSeq (sFor (iRg1 (aCons (eOp addD (eC (.int 1)) (eCall zb0 (aCons (eVar 0) (aCons (eVar 1) (aCons (eC (.int 10)) aNil))))) aNil)) (gNm 3) (sSet 2 (eOp addD (eVar 2) (eOp ixD (eC (.str "abcabABCab1_-./xyz")) (eCall zb0 (aCons (eVar 0) (aCons (eOp addD (eOp addD (eVar 1) (eC (.int 1))) (eVar 3)) (aCons (eC (.int 18)) aNil))))))))
  (sRet (eVar 2))))
def zk8 (ds : List D) : Rs D := runF 4 zJ4 ds
def zv9 : FS := (sSeq (sSetO 3 (eComp 1 [0, 1] (iRg1 (aCons (eCall zb0 (aCons (eVar 0) (aCons (eVar 1) (aCons (eOp addD (eVar 2) (eC (.int 1))) aNil)))) aNil)) (gNm 0) (fun _ => .ok true) (eCall zk8 (aCons (eVar 1) (aCons (eOp addD (eOp addD (eVar 2) (eC (.int 1))) (eOp mulD (eC (.int 12)) (eVar 0))) aNil)))))
  (sSeq (sIf (tAndD (tB (eOp gtD (eLenO 3) (eC (.int 1)))) (tB (eOp eqD (eCall zb0 (aCons (eVar 0) (aCons (eOp addD (eVar 1) (eC (.int 12))) (aCons (eC (.int 5)) aNil)))) (eC (.int 0))))) (sPut 3 (eC (.int 0)) (eIxO 3 (eNeg (eC (.int 1))))) sNext)
  (sRetO 3)))
def zi7 (ds : List D) : Rs D := runF 4 zv9 ds
def zp7 : FS := (sSeq (sAt 0 "Trail" "names" (eBlt listD (aCons (eVar 1) aNil)))
  (sSeq (sAtN 0 "Trail" "done" (fun τ => (aNil τ).bind fun ds => if ds.length ≤ sizeLine then .ok ds else .no))
  (sAtN 0 "Trail" "undone" (fun τ => (aNil τ).bind fun ds => if ds.length ≤ sizeLine then .ok ds else .no))))
def zd6 (fs : Fs) (ds : List D) : Rs (D × Fs) := runM 2 0 "Trail" zp7 fs ds
def zC1 : FS := (sRet (zV3 [0] (eVar 1) (eTup (aCons (eNeg (eOp ixD (eVar 0) (eC (.int 0)))) (aCons (eBlt lenD (aCons (eOp ixD (eVar 1) (eOp ixD (eVar 0) (eC (.int 1)))) aNil)) (aCons (eOp ixD (eVar 0) (eC (.int 1))) aNil))))))
def zn1 (ds : List D) : Rs D := runF 2 zC1 ds
def zv6 : FS := (sRet (eSl (eCall zn1 (aCons (eVar 0) (aCons (eVar 1) aNil))) oNone (oSome (eBlt max2D (aCons (eVar 2) (aCons (eC (.int 0)) aNil))))))
def zi6 (ds : List D) : Rs D := runF 3 zv6 ds
def zr7 : FS := (sSeq (sIf (tB (eOp eqD (eVar 1) (eC (.int 0)))) (sRet (eC (.int 8))) sNext)
  (sSeq (sSet 2 (eOp ixD (eVar 0) (eOp subD (eVar 1) (eC (.int 1)))))
  (sSeq (sIf (tB (eOp inD (eVar 2) (eC (.str "_-./")))) (sRet (eC (.int 6))) sNext)
  (sSeq (sIf (tAndD (tB (eOp inD (eOp ixD (eVar 0) (eVar 1)) (eC (.str "ABCDEFGHIJKLMNOPQRSTUVWXYZ")))) (tOrD (tB (eOp inD (eVar 2) (eC (.str "abcdefghijklmnopqrstuvwxyz")))) (tB (eOp inD (eVar 2) (eC (.str "0123456789")))))) (sRet (eC (.int 5))) sNext)
  (sRet (eC (.int 0)))))))
def zg0 (ds : List D) : Rs D := runF 3 zr7 ds
def zD3 : FS := (sSeq (sSet 3 (eIf (tB (eOp eqD (eOp ixD (eVar 1) (eVar 2)) (eVar 0))) (eC (.int 1)) (eC (.int 0))))
  (sRet (eOp addD (eOp addD (eC (.int 10)) (eCall zg0 (aCons (eVar 1) (aCons (eVar 2) aNil)))) (eVar 3))))
def zf6 (ds : List D) : Rs D := runF 4 zD3 ds
def yo8 : FS := (sRet (eOr (eOp eqD (eVar 0) (eVar 1)) (eAnd (eOp inD (eVar 0) (eC (.str "abcdefghijklmnopqrstuvwxyz"))) (eOp eqD (eMt0 "str" upD (eVar 0)) (eVar 1)))))
def zo0 (ds : List D) : Rs D := runF 2 yo8 ds
def zs8 : FS := (sRet (fun τ => ((eComp 1 [0, 1] (iRg1 (aCons (eBlt lenD (aCons (eVar 1) aNil)) aNil)) (gNm 0) (tTru (eCall zo0 (aCons (eVar 1) (aCons (eOp ixD (eVar 2) (eVar 0)) aNil)))) (eTup (aCons (eCall zf6 (aCons (eVar 1) (aCons (eVar 2) (aCons (eVar 0) aNil)))) (aCons (eLst (aCons (eVar 0) aNil)) aNil)))) τ).bind fun ds => .ok (.lst ds)))
def ze3 (ds : List D) : Rs D := runF 2 zs8 ds
def zv7 : FS := (sSeq (sSet 1 (eC .non))
  (sSeq (sFor (iAny (eVar 0)) (gNm 2) (sIf (tOrD (tB (eOp isD (eVar 1) (eC .non))) (tB (eOp gtD (eOp ixD (eVar 2) (eC (.int 0))) (eOp ixD (eVar 1) (eC (.int 0)))))) (sSet 1 (eVar 2)) sNext))
  (sRet (eVar 1))))
def zd0 (ds : List D) : Rs D := runF 3 zv7 ds
def zA5 : FS := (sSeq (sSet 2 (eOp subD (eOp subD (eVar 1) (eVar 0)) (eC (.int 1))))
  (sSeq (sIf (tB (eOp eqD (eVar 2) (eC (.int 0)))) (sRet (eC (.int 7))) sNext)
  (sRet (eNeg (eBlt min2D (aCons (eVar 2) (aCons (eC (.int 5)) aNil)))))))
def zj0 (ds : List D) : Rs D := runF 3 zA5 ds
def zx4 : FS := (sRet (fun τ => ((eComp 1 [0] (iAny (eVar 1)) (gNm 0) (tB (eOp gtD (eOp ixD (eOp ixD (eVar 0) (eC (.int 1))) (eC (.int 0))) (eVar 1))) (eTup (aCons (eOp addD (eOp ixD (eVar 0) (eC (.int 0))) (eCall zj0 (aCons (eVar 1) (aCons (eOp ixD (eOp ixD (eVar 0) (eC (.int 1))) (eC (.int 0))) aNil)))) (aCons (eOp ixD (eVar 0) (eC (.int 1))) aNil)))) τ).bind fun ds => .ok (.lst ds)))
def zg6 (ds : List D) : Rs D := runF 2 zx4 ds
def zs1 : FS := (sSeq (sSetO 3 (fun τ => (aNil τ).bind fun ds => if ds.length ≤ sizeLine then .ok ds else .no))
  (sSeq (sFor (iRg1 (aCons (eBlt lenD (aCons (eVar 1) aNil)) aNil)) (gNm 4) (sIf (tTru (eCall zo0 (aCons (eVar 0) (aCons (eOp ixD (eVar 1) (eVar 4)) aNil)))) (sSeq (sSet 5 (eCall zd0 (aCons (eCall zg6 (aCons (eVar 4) (aCons (eVar 2) aNil))) aNil)))
  (sIf (tB (eOp zz6 (eVar 5) (eC .non))) (sApp 3 (eTup (aCons (eOp addD (eCall zf6 (aCons (eVar 0) (aCons (eVar 1) (aCons (eVar 4) aNil)))) (eOp ixD (eVar 5) (eC (.int 0)))) (aCons (eOp addD (eLst (aCons (eVar 4) aNil)) (eOp ixD (eVar 5) (eC (.int 1)))) aNil)))) sNext)) sNext))
  (sRetO 3)))
def zi0 (ds : List D) : Rs D := runF 6 zs1 ds
def zA6 : FS := (sRet (eNeg (eBlt min2D (aCons (eVar 0) (aCons (eC (.int 3)) aNil)))))
def zh5 (ds : List D) : Rs D := runF 1 zA6 ds
def yo9 : FS := (sSeq (sIf (tB (eOp eqD (eBlt lenD (aCons (eVar 0) aNil)) (eC (.int 0)))) (sRet (eTup (aCons (eC (.int 0)) (aCons (eLst aNil) aNil)))) sNext)
  (sSeq (sSet 2 (eCall ze3 (aCons (eOp ixD (eVar 0) (eNeg (eC (.int 1)))) (aCons (eVar 1) aNil))))
  (sSeq (sFor (iRg3 (aCons (eOp subD (eBlt lenD (aCons (eVar 0) aNil)) (eC (.int 2))) (aCons (eNeg (eC (.int 1))) (aCons (eNeg (eC (.int 1))) aNil)))) (gNm 3) (sSet 2 (eCall zi0 (aCons (eOp ixD (eVar 0) (eVar 3)) (aCons (eVar 1) (aCons (eVar 2) aNil))))))
  (sRet (eCall zd0 (aCons (fun τ => ((eComp 1 [] (iAny (eVar 2)) (gNm 0) (fun _ => .ok true) (eTup (aCons (eOp addD (eOp ixD (eVar 0) (eC (.int 0))) (eCall zh5 (aCons (eOp ixD (eOp ixD (eVar 0) (eC (.int 1))) (eC (.int 0))) aNil))) (aCons (eOp ixD (eVar 0) (eC (.int 1))) aNil)))) τ).bind fun ds => .ok (.lst ds)) aNil))))))
def zx3 (ds : List D) : Rs D := runF 4 yo9 ds
def zs2 : FS := (sSeq (sSetO 3 (fun τ => (aNil τ).bind fun ds => if ds.length ≤ sizeLine then .ok ds else .no))
  (sSeq (sFor (iAny (eVar 2)) (gNm 4) (sSeq (sSet 5 (eCall zx3 (aCons (eVar 1) (aCons (eOp ixD (eVar 0) (eVar 4)) aNil))))
  (sIf (tB (eOp zz6 (eVar 5) (eC .non))) (sApp 3 (eTup (aCons (eOp ixD (eVar 5) (eC (.int 0))) (aCons (eVar 4) aNil)))) sNext)))
  (sRetO 3)))
def zg7 (ds : List D) : Rs D := runF 6 zs2 ds
def zC2 : FS := (sRet (eCall zg7 (aCons (eVar 0) (aCons (eVar 1) (aCons (fun τ => ((lstRg (iRg1 (aCons (eBlt lenD (aCons (eVar 0) aNil)) aNil))) τ).bind fun ds => .ok (.lst ds)) aNil)))))
def zn2 (ds : List D) : Rs D := runF 2 zC2 ds
def zZ4 : FS := (sRet (eCall zi6 (aCons (eVar 0) (aCons (eCall zn2 (aCons (eVar 0) (aCons (eVar 1) aNil))) (aCons (eVar 2) aNil)))))
def zo6 (ds : List D) : Rs D := runF 3 zZ4 ds
def zJ5 : FS := (sRet (eOp inD (eVar 0) (eC (.str "_-./"))))
def zk9 (ds : List D) : Rs D := runF 1 zJ5 ds
def zD4 : FS := (sSeq (sSet 4 (eC (.str "")))
  (sSeq (sSet 5 (eC (.int 0)))
  (sSeq (sFor (iRg1 (aCons (eCall zb0 (aCons (eVar 0) (aCons (eVar 1) (aCons (eOp addD (eVar 3) (eC (.int 1))) aNil)))) aNil)) (gNm 6) (sSeq (sSet 5 (eBlt min2D (aCons (eOp subD (eBlt lenD (aCons (eVar 2) aNil)) (eC (.int 1))) (aCons (eOp addD (eVar 5) (eCall zb0 (aCons (eVar 0) (aCons (eOp addD (eOp addD (eVar 1) (eC (.int 1))) (eOp mulD (eC (.int 3)) (eVar 6))) (aCons (eC (.int 3)) aNil))))) aNil))))
  (sSeq (sSet 7 (eMt0 "str" loD (eOr (eSl (eVar 2) (oSome (eVar 5)) (oSome (eOp addD (eVar 5) (eC (.int 1))))) (eC (.str "a")))))
  (sSeq (sSet 5 (eOp addD (eVar 5) (eC (.int 1))))
  (sSeq (sIf (tB (eOp eqD (eCall zb0 (aCons (eVar 0) (aCons (eOp addD (eOp addD (eVar 1) (eC (.int 2))) (eOp mulD (eC (.int 3)) (eVar 6))) (aCons (eC (.int 5)) aNil)))) (eC (.int 0)))) (sSet 7 (eOp ixD (eC (.str "abAB1c")) (eCall zb0 (aCons (eVar 0) (aCons (eOp addD (eOp addD (eVar 1) (eC (.int 3))) (eOp mulD (eC (.int 3)) (eVar 6))) (aCons (eC (.int 6)) aNil)))))) sNext)
  (sIf (tNotD (tTru (eCall zk9 (aCons (eVar 7) aNil)))) (sSet 4 (eOp addD (eVar 4) (eVar 7))) sNext))))))
  (sRet (eVar 4)))))
def zk7 (ds : List D) : Rs D := runF 8 zD4 ds
def zv8 : FS := (sRet (eCall zk7 (aCons (eVar 0) (aCons (eVar 1) (aCons (eOp ixD (eOp addD (eVar 2) (eLst (aCons (eC (.str "abc")) aNil))) (eCall zb0 (aCons (eVar 0) (aCons (eOp addD (eVar 1) (eC (.int 30))) (aCons (eOp addD (eBlt lenD (aCons (eVar 2) aNil)) (eC (.int 1))) aNil))))) (aCons (eC (.int 3)) aNil))))))
def zk6 (ds : List D) : Rs D := runF 3 zv8 ds
def zu3 : FS := (sSeq (sIf (tAndD (tB (eOp gtD (eLenA 0 "Trail" "done") (eC (.int 0)))) (tB (eOp eqD (eOp ixD (eIxA 0 "Trail" "done" (eNeg (eC (.int 1)))) (eC (.int 0))) (eC (.str "ask"))))) (sRet (eOp ixD (eIxA 0 "Trail" "done" (eNeg (eC (.int 1)))) (eC (.int 1)))) sNext)
  (sRet (eC (.str ""))))
def zd4 (fs : Fs) (ds : List D) : Rs D := runR 1 0 "Trail" zu3 fs ds
def zw2 : FS := (sSeq (sAppA 0 "Trail" "done" (eTup (aCons (eVar 1) (aCons (eVar 2) aNil))))
  (sAtN 0 "Trail" "undone" (fun τ => (aNil τ).bind fun ds => if ds.length ≤ sizeLine then .ok ds else .no)))
def zh6 (fs : Fs) (ds : List D) : Rs (D × Fs) := runM 3 0 "Trail" zw2 fs ds
def zw3 : FS := (sSeq (sSet 2 (eCall zo6 (aCons (eAt 0 "Trail" "names") (aCons (zg9 0 "Trail" "asked" zd4 aNil) (aCons (eBlt lenD (aCons (eAt 0 "Trail" "names") aNil)) aNil)))))
  (sSeq (sIf (tOrD (tB (eOp ltI (eVar 1) (eC (.int 0)))) (tB (eOp geD (eVar 1) (eBlt lenD (aCons (eVar 2) aNil))))) sNo sNext)
  (sSeq (sSet 3 (eOp ixD (eOp ixD (eVar 2) (eVar 1)) (eC (.int 1))))
  (sSeq (zl6 (oMeth 0 "Trail" "step" zh6 (aCons (eC (.str "pick")) (aCons (eVar 3) aNil))))
  (sRetM (eVar 3))))))
def zn3 (fs : Fs) (ds : List D) : Rs (D × Fs) := runM 4 0 "Trail" zw3 fs ds
def zs9 : FS := (sSeq (sSetO 2 (fun τ => (aNil τ).bind fun ds => if ds.length ≤ sizeLine then .ok ds else .no))
  (sSeq (sFor (iRg1 (aCons (eBlt lenD (aCons (eVar 1) aNil)) aNil)) (gNm 3) (sIf (tAndD (tB (eOp ltI (eLenO 2) (eBlt lenD (aCons (eVar 0) aNil)))) (tTru (eCall zo0 (aCons (eOp ixD (eVar 0) (eLenO 2)) (aCons (eOp ixD (eVar 1) (eVar 3)) aNil))))) (sApp 2 (eVar 3)) sNext))
  (sRetO 2)))
def zh0 (ds : List D) : Rs D := runF 4 zs9 ds
def b_fits : FS := (sRet (eOp eqD (eBlt lenD (aCons (eCall zh0 (aCons (eVar 0) (aCons (eVar 1) aNil))) aNil)) (eBlt lenD (aCons (eVar 0) aNil))))
def zC7 (ds : List D) : Rs D := runF 2 b_fits ds
def zy2 : FS := (sSeq (zl6 (oMeth 0 "Trail" "step" zh6 (aCons (eC (.str "ask")) (aCons (eVar 1) aNil))))
  (sRetM (eBlt lenD (aCons (fun τ => ((eComp 1 [1] (iAny (eAt 0 "Trail" "names")) (gNm 0) (tTru (eCall zC7 (aCons (eVar 1) (aCons (eVar 0) aNil)))) (eVar 0)) τ).bind fun ds => .ok (.lst ds)) aNil))))
def zo8 (fs : Fs) (ds : List D) : Rs (D × Fs) := runM 2 0 "Trail" zy2 fs ds
def zy0 : FS := (sSeq (sSet 4 (eCall zo6 (aCons (eVar 3) (aCons (zg9 2 "Trail" "asked" zd4 aNil) (aCons (eBlt lenD (aCons (eVar 3) aNil)) aNil)))))
  (sIf (tAndD (tB (eOp neD (eVar 4) (eLst aNil))) (tB (eOp eqD (eCall zb0 (aCons (eVar 0) (aCons (eVar 1) (aCons (eC (.int 3)) aNil)))) (eC (.int 0))))) (zl6 (oMeth 2 "Trail" "pick" zn3 (aCons (eCall zb0 (aCons (eVar 0) (aCons (eOp addD (eVar 1) (eC (.int 1))) (aCons (eBlt lenD (aCons (eVar 4) aNil)) aNil)))) aNil))) (zl6 (oMeth 2 "Trail" "ask" zo8 (aCons (eCall zk6 (aCons (eVar 0) (aCons (eOp addD (eVar 1) (eC (.int 2))) (aCons (eVar 3) aNil)))) aNil)))))
def zh2 (fs : Fs) (ds : List D) : Rs (D × Fs) := runM 5 2 "Trail" zy0 fs ds
def zs3 : FS := (sSeq (sSetO 1 (fun τ => (aNil τ).bind fun ds => if ds.length ≤ sizeLine then .ok ds else .no))
  (sSeq (sSet 2 (eC (.str "")))
  (sSeq (sForR 0 "Trail" "done" (gPr 3 4) (sSeq (sIf (tB (eOp eqD (eVar 3) (eC (.str "pick")))) (sApp 1 (eTup (aCons (eVar 2) (aCons (eVar 4) aNil)))) sNext)
  (sSet 2 (eIf (tB (eOp eqD (eVar 3) (eC (.str "ask")))) (eVar 4) (eC (.str ""))))))
  (sRetO 1))))
def zj6 (fs : Fs) (ds : List D) : Rs D := runR 5 0 "Trail" zs3 fs ds
def zu0 : FS := (sRet (fun τ => ((eComp 2 [] (iOw 0 "Trail" "done") (gPr 0 1) (fun _ => .ok true) (eTup (aCons (eVar 0) (aCons (eVar 1) aNil)))) τ).bind fun ds => .ok (.lst ds)))
def zf4 (fs : Fs) (ds : List D) : Rs D := runR 1 0 "Trail" zu0 fs ds
def zC3 : FS := (sRet (eTup (aCons (zg9 0 "Trail" "asked" zd4 aNil) (aCons (zg9 0 "Trail" "chosen" zj6 aNil) (aCons (zg9 0 "Trail" "steps" zf4 aNil) aNil)))))
def zc2 (fs : Fs) (ds : List D) : Rs D := runR 1 0 "Trail" zC3 fs ds
def zu1 : FS := (sRet (eTup (aCons (eLenA 0 "Trail" "done") (aCons (eLenA 0 "Trail" "undone") aNil))))
def zc0 (fs : Fs) (ds : List D) : Rs D := runR 1 0 "Trail" zu1 fs ds
def zw0 : FS := (sSeq (sFor (iRg1 (aCons (eC (.int 2)) aNil)) (gNm 3) (zl6 (oDefM 1 "Trail" zh2 (aCons (eVar 0) (aCons (eOp addD (eC (.int 600)) (eOp mulD (eC (.int 50)) (eVar 3))) aNil)) (aCons (eVar 2) aNil))))
  (sRetM (eTup (aCons (eDefR 1 "Trail" zc2 aNil aNil) (aCons (zg9 1 "Trail" "sizes" zc0 aNil) aNil)))))
def zl0 (fs : Fs) (ds : List D) : Rs (D × Fs) := runM 4 1 "Trail" zw0 fs ds
def zw4 : FS := (sSeq (sIf (tB (eOp eqD (eLenA 0 "Trail" "done") (eC (.int 0)))) sNo sNext)
  (sSeq (zt3 0 "Trail" "undone" "done")
  (sRetM (eOp ixD (eIxA 0 "Trail" "undone" (eNeg (eC (.int 1)))) (eC (.int 0))))))
def ze4 (fs : Fs) (ds : List D) : Rs (D × Fs) := runM 1 0 "Trail" zw4 fs ds
def zu2 : FS := (sSeq (sIf (tB (eOp eqD (eLenA 0 "Trail" "undone") (eC (.int 0)))) sNo sNext)
  (sSeq (zt3 0 "Trail" "done" "undone")
  (sRetM (eOp ixD (eIxA 0 "Trail" "done" (eNeg (eC (.int 1)))) (eC (.int 0))))))
def ze8 (fs : Fs) (ds : List D) : Rs (D × Fs) := runM 1 0 "Trail" zu2 fs ds
def zy1 : FS := (sSeq (sSet 2 (eOp subD (eBlt lenD (aCons (eVar 1) aNil)) (eC (.int 1))))
  (sSeq (sSet 3 fun τ => ((eComp 1 [] (iAny (zg9 0 "Trail" "steps" zf4 aNil)) (gNm 0) (fun _ => .ok true) (eOp ixD (eVar 0) (eC (.int 0)))) τ).bind fun ds => .ok (.lst ds))
  (sSeq (sFor (iRg3 (aCons (eOp subD (eVar 2) (eC (.int 1))) (aCons (eNeg (eC (.int 1))) (aCons (eNeg (eC (.int 1))) aNil)))) (gNm 4) (sSeq (sIfO (oOrT (oB (oOp neD (oMeth 0 "Trail" "back" ze4 aNil) (eOp ixD (eVar 3) (eVar 4)))) (otOf (tB (eOp neD (eDefR 0 "Trail" zc2 aNil aNil) (eOp ixD (eVar 1) (eVar 4)))))) (sRetM (eC (.bl false))) sNext)
  (sIf (tB (eOp neD (zg9 0 "Trail" "sizes" zc0 aNil) (eTup (aCons (eVar 4) (aCons (eOp subD (eVar 2) (eVar 4)) aNil))))) (sRetM (eC (.bl false))) sNext)))
  (sSeq (sFor (iRg2 (aCons (eC (.int 1)) (aCons (eOp addD (eVar 2) (eC (.int 1))) aNil))) (gNm 4) (sSeq (sIfO (oOrT (oB (oOp neD (oMeth 0 "Trail" "forth" ze8 aNil) (eOp ixD (eVar 3) (eOp subD (eVar 4) (eC (.int 1)))))) (otOf (tB (eOp neD (eDefR 0 "Trail" zc2 aNil aNil) (eOp ixD (eVar 1) (eVar 4)))))) (sRetM (eC (.bl false))) sNext)
  (sIf (tB (eOp neD (zg9 0 "Trail" "sizes" zc0 aNil) (eTup (aCons (eVar 4) (aCons (eOp subD (eVar 2) (eVar 4)) aNil))))) (sRetM (eC (.bl false))) sNext)))
  (sRetM (eC (.bl true)))))))
def zm6 (fs : Fs) (ds : List D) : Rs (D × Fs) := runM 5 0 "Trail" zy1 fs ds
def zw1 : FS := (sSeq (sMake 1 "Trail" zd6 (aCons (eAt 0 "Trail" "names") aNil))
  (sSeq (sAtN 1 "Trail" "done" (iOw 0 "Trail" "done"))
  (sSeq (sAtN 1 "Trail" "undone" (iOw 0 "Trail" "undone"))
  (sRetB 1 "Trail"))))
def zg8 (fs : Fs) (ds : List D) : Rs Fs := runO 2 0 "Trail" "Trail" zw1 fs ds
def b_law : FS := (sSeq (sSet 1 (eCall zi7 (aCons (eVar 0) (aCons (eC (.int 0)) (aCons (eC (.int 4)) aNil)))))
  (sSeq (sMake 2 "Trail" zd6 (aCons (eVar 1) aNil))
  (sSeq (sSetO 3 (fun τ => ((aCons (eDefR 2 "Trail" zc2 aNil aNil) aNil) τ).bind fun ds => if ds.length ≤ sizeLine then .ok ds else .no))
  (sSeq (sFor (iRg1 (aCons (eOp addD (eC (.int 2)) (eCall zb0 (aCons (eVar 0) (aCons (eC (.int 99)) (aCons (eC (.int 6)) aNil))))) aNil)) (gNm 4) (sSeq (zl6 (oDefM 2 "Trail" zh2 (aCons (eVar 0) (aCons (eOp addD (eC (.int 100)) (eOp mulD (eC (.int 50)) (eVar 4))) aNil)) (aCons (eVar 1) aNil)))
  (sApp 3 (eDefR 2 "Trail" zc2 aNil aNil))))
  (sSeq (sSet 5 (eOp subD (eLenO 3) (eC (.int 1))))
  (fun τ => (sSeq (sIfO (oOrT (otOf (tB (eOp neD (zg9 2 "Trail" "sizes" zc0 aNil) (eTup (aCons (eVar 5) (aCons (eC (.int 0)) aNil)))))) (oNotT (oB (oDefM 2 "Trail" zm6 aNil (aCons (eVar 3) aNil))))) (sRet (eC (.bl false))) sNext)
  (sSeq (sSet 6 (eOp addD (eC (.int 1)) (eCall zb0 (aCons (eVar 0) (aCons (eC (.int 98)) (aCons (eVar 5) aNil))))))
  (sSeq (sFor (iRg1 (aCons (eVar 6) aNil)) (gNm 7) (zl6 (oMeth 2 "Trail" "back" ze4 aNil)))
  (sSeq (sSet 8 (eTup (aCons (eDefR 2 "Trail" zc2 aNil aNil) (aCons (zg9 2 "Trail" "sizes" zc0 aNil) aNil))))
  (sSeq (sTwin 9 2 "Trail" "twin" "Trail" zg8)
  (sSeq (sTwin 10 9 "Trail" "twin" "Trail" zg8)
  (sSeq (sIf (tB (eOp neD (eVar 8) (eTup (aCons (eOp ixD (eVar 3) (eOp subD (eVar 5) (eVar 6))) (aCons (eTup (aCons (eOp subD (eVar 5) (eVar 6)) (aCons (eVar 6) aNil))) aNil))))) (sRet (eC (.bl false))) sNext)
  (sSeq (sSetB 11 (oDefM 2 "Trail" zl0 (aCons (eVar 0) aNil) (aCons (eVar 1) aNil)))
  (sSeq (sIf (tOrD (tB (eOp neD (eOp ixD (eVar 11) (eC (.int 1))) (eTup (aCons (eOp addD (eOp subD (eVar 5) (eVar 6)) (eC (.int 2))) (aCons (eC (.int 0)) aNil))))) (tB (eOp neD (eTup (aCons (eDefR 9 "Trail" zc2 aNil aNil) (aCons (zg9 9 "Trail" "sizes" zc0 aNil) aNil))) (eVar 8)))) (sRet (eC (.bl false))) sNext)
  (sSeq (sIfO (oB (oOp neD (oDefM 9 "Trail" zl0 (aCons (eVar 0) aNil) (aCons (eVar 1) aNil)) (eVar 11))) (sRet (eC (.bl false))) sNext)
  (sSeq (sIf (tB (eOp neD (eTup (aCons (eDefR 10 "Trail" zc2 aNil aNil) (aCons (zg9 10 "Trail" "sizes" zc0 aNil) aNil))) (eVar 8))) (sRet (eC (.bl false))) sNext)
  (sSeq (sFor (iRg1 (aCons (eVar 6) aNil)) (gNm 7) (zl6 (oMeth 10 "Trail" "forth" ze8 aNil)))
  (sSeq (sFor (iRg1 (aCons (eOp addD (eOp subD (eVar 5) (eVar 6)) (eC (.int 2))) aNil)) (gNm 7) (sIfO (oOrT (oB (oOp2 neD (oMeth 9 "Trail" "back" ze4 aNil) (oMeth 2 "Trail" "back" ze4 aNil))) (otOf (tB (eOp neD (eDefR 9 "Trail" zc2 aNil aNil) (eDefR 2 "Trail" zc2 aNil aNil))))) (sRet (eC (.bl false))) sNext))
  (sRet (eAnd (eOp eqD (eDefR 10 "Trail" zc2 aNil aNil) (eOp ixD (eVar 3) (eNeg (eC (.int 1))))) (eAnd (eOp eqD (eDefR 9 "Trail" zc2 aNil aNil) (eTup (aCons (eC (.str "")) (aCons (eLst aNil) (aCons (eLst aNil) aNil))))) (eOp eqD (zg9 10 "Trail" "sizes" zc0 aNil) (eTup (aCons (eVar 5) (aCons (eC (.int 0)) aNil)))))))))))))))))))) (frzT τ)))))))
def m_law (ds : List D) : Rs D := runF 12 b_law ds
def cellZ (ns : List Int) (k : Int) : Int := if ns = [] then 7 * k else ns.getD (k % ns.length).toNat 0 + 6553 * (k / ns.length)
theorem zd7 : sizeLine = 16777216 := sizeLine_eq
theorem cell_ok (ns : List Int) (k : Int) (h63 : ns.length ≤ 63) (h0 : 0 ≤ k) : zo7 [.scr ns, .int k] = .ok (.int (cellZ ns k)) := by
 have st : zf3 2 [D.scr ns, .int k] = [some (.val (.scr ns)), some (.val (.int k))] := rfl
 unfold zo7 zJ6
 rw [zf5, st]
 simp only [ze0, zi1, tB_ap, zg1, zc5, zY9, zb4, List.getElem?_cons_zero, zc1, Rs.bind_ok, List.length_nil, Nat.zero_le, if_true, zY8, zd9, Fl.of_ok]
 cases ns with
 | nil =>
  simp only [List.isEmpty_nil, if_true, ze7, zg1, eC_ap, zc5, List.getElem?_cons_zero, List.getElem?_cons_succ, zc1, Rs.bind_ok, zv3 (i := 7) (j := k) (.inl ⟨by decide, by decide⟩), Fl.of_ok, zL0, zd8, cellZ]
 | cons a r =>
  have hl : (0 : Int) < ((a :: r).length : Int) := by simp only [List.length_cons]; omega
  have hm0 := Int.emod_nonneg k (show ((a :: r).length : Int) ≠ 0 by omega)
  have hm1 := Int.emod_lt_of_pos k hl
  have hat : atI (a :: r) (k % ((a :: r).length : Int)) = some ((a :: r).getD (k % ((a :: r).length : Int)).toNat 0) := by
   refine zD6 hm0 ?_
   have : (k % ((a :: r).length : Int)).toNat < (a :: r).length := by omega
   rw [List.getD_eq_getElem?_getD, List.getElem?_eq_getElem this]; rfl
  have hdv : fdivD (.int k) (.int ((a :: r).length : Int)) = .ok (.int (k / ((a :: r).length : Int))) := zQ9 ⟨hl, by omega⟩
  have hmd : modD (.int k) (.int ((a :: r).length : Int)) = .ok (.int (k % ((a :: r).length : Int))) := zU2 hl
  have hml := zv3 (i := 6553) (j := k / ((a :: r).length : Int)) (.inl ⟨by decide, by decide⟩)
  simp only [List.isEmpty_cons, Bool.false_eq_true, if_false, ze2, zg5, ze7, zg1, eC_ap, zc5, zr4, zb7, zb4, List.getElem?_cons_zero, List.getElem?_cons_succ, zc1, Rs.bind_ok, lenD_scr, hmd, hdv, hml, ixD_scr hat, zi5, Fl.of_ok, zd8]
  simp [cellZ]
def d1 (ns : List Int) (k : Int) : Int := (cellZ ns k % 2147483563 * 69069 + 104723 * (k + 1)) % 2147483563
def d2 (ns : List Int) (k : Int) : Int := (d1 ns k * d1 ns k + d1 ns k / 3) % 2147483399
def drawZ (ns : List Int) (k m : Int) : Int := (d2 ns k * d2 ns k + d2 ns k / 7) % 2147483647 / 11 % m
theorem zo9 (ns : List Int) (k m : Int) (h63 : ns.length ≤ 63) (h0 : 0 ≤ k) (hk : k < 1000000) (hm : 0 < m) : zb0 [.scr ns, .int k, .int m] = .ok (.int (drawZ ns k m)) := by
 have st : zf3 4 [D.scr ns, .int k, .int m] = [some (.val (.scr ns)), some (.val (.int k)), some (.val (.int m)), none] := rfl
 have b1 : 0 ≤ d1 ns k ∧ d1 ns k < 2147483563 := ⟨Int.emod_nonneg _ (by decide), Int.emod_lt_of_pos _ (by decide)⟩
 have b2 : 0 ≤ d2 ns k ∧ d2 ns k < 2147483399 := ⟨Int.emod_nonneg _ (by decide), Int.emod_lt_of_pos _ (by decide)⟩
 have c0 := Int.emod_lt_of_pos (cellZ ns k) (show (0 : Int) < 2147483563 by decide)
 have c1 := Int.emod_nonneg (cellZ ns k) (show (2147483563 : Int) ≠ 0 by decide)
 have q1 := zv3 (i := cellZ ns k % 2147483563) (j := 69069) (.inr ⟨by decide, by decide⟩)
 have q2 := zv3 (i := 104723) (j := k + 1) (.inl ⟨by decide, by decide⟩)
 have q3 := zv3 (i := d1 ns k) (j := d1 ns k) (.inl ⟨by omega, by omega⟩)
 have q4 := zv3 (i := d2 ns k) (j := d2 ns k) (.inl ⟨by omega, by omega⟩)
 have e1 : (cellZ ns k % 2147483563 * 69069 + 104723 * (k + 1)) % 2147483563 = d1 ns k := rfl
 have e2 : (d1 ns k * d1 ns k + d1 ns k / 3) % 2147483399 = d2 ns k := rfl
 have m1 := fun i => zU2 (i := i) (j := 2147483563) (by decide)
 have m2 := fun i => zU2 (i := i) (j := 2147483399) (by decide)
 have m3 := fun i => zU2 (i := i) (j := 2147483647) (by decide)
 have m4 := fun i => zU2 (i := i) (j := m) hm
 have f3 := fun i => zQ9 (i := i) (j := 3) ⟨by decide, by decide⟩
 have f7 := fun i => zQ9 (i := i) (j := 7) ⟨by decide, by decide⟩
 have f11 := fun i => zQ9 (i := i) (j := 11) ⟨by decide, by decide⟩
 unfold zb0 zD5
 rw [zf5, st]
 simp only [ze0, zf0, ze7, zg1, zc5, eC_ap, zg4, zb7, zb4, List.getElem?_cons_zero, List.getElem?_cons_succ, zc1, Rs.bind_ok, cell_ok ns k h63 h0, zm5, m1, q1, zi5, q2, e1, Fl.of_ok, zg5, List.set_cons_succ, List.set_cons_zero, q3, f3, m2, e2, q4, f7, m3, f11, m4, zd8]
 rfl
theorem zp6 (ns : List Int) (k : Int) {m : Int} (hm : 0 < m) : 0 ≤ drawZ ns k m ∧ drawZ ns k m < m := ⟨Int.emod_nonneg _ (by omega), Int.emod_lt_of_pos _ hm⟩
end Law
set_option Elab.async false
set_option linter.all false
namespace FD
open PySem PySem.Spec PyProof.Rows L2
theorem zU3 {set : FG} {body : FS} (f : Nat → D) (S : Nat → DS) : ∀ (m j : Nat), (∀ k, j ≤ k → k < j + m → ∃ τ1, set (f k) (S k) = .ok τ1 ∧ body τ1 = .nx (S (k + 1))) → loopD set body ((List.range' j m).map f) (S j) = .nx (S (j + m))
 | 0, j, _ => rfl
 | m + 1, j, h => by
  obtain ⟨τ1, h1, h2⟩ := h j (Nat.le_refl _) (by omega)
  rw [List.range'_succ, List.map_cons, loopD, h1, Fl.of_ok]
  simp only [h2]
  rw [zU3 f S m (j + 1) fun k hk hk2 => h k (by omega) (by omega)]
  congr 2; omega
theorem ye6 {set : FG} {body : FS} (f : Nat → D) (S : Nat → DS) (n : Nat) (h : ∀ k, k < n → ∃ τ1, set (f k) (S k) = .ok τ1 ∧ body τ1 = .nx (S (k + 1))) : loopD set body ((List.range n).map f) (S 0) = .nx (S n) := by
 have := zU3 f S n 0 fun k _ hk => h k (by omega)
 rw [Nat.zero_add] at this
 rwa [List.range_eq_range']
theorem ya3 {fs : FA} {τ : DS} {j : Int} (h : fs τ = .ok [.int j]) (h1 : -(2 ^ 62) ≤ j) (h2 : j < 2 ^ 62) : iRg1 fs τ = .ok (rngD 0 j.toNat) := by
 unfold iRg1
 rw [h]
 simp only [Rs.bind_ok, int1]
 rw [if_pos ⟨h1, h2⟩]
theorem yg6 (a : List Nat) (c : Nat) : (⟨a.toArray⟩ : Str) ++ (⟨#[c]⟩ : Str) = ⟨(a ++ [c]).toArray⟩ := by
 show Str.mk _ = _
 simp
theorem zs7 {n : Nat} {d : D} {τ : DS} : gNm n d τ = .ok (τ.set n (some (.val d))) := rfl
end FD
namespace Law
open PySem PySem.Spec PyProof.Rows L2 FD
def A18 : List Nat := [97, 98, 99, 97, 98, 65, 66, 67, 97, 98, 49, 95, 45, 46, 47, 120, 121, 122]
def nameN (ns : List Int) (a : Int) : Nat := (1 + drawZ ns a 10).toNat
def nameC (ns : List Int) (a : Int) (k : Nat) : Nat := A18.getD (drawZ ns (a + 1 + k) 18).toNat 0
def nameL (ns : List Int) (a : Int) (n : Nat) : List Nat := (List.range n).map (nameC ns a)
theorem a18 : ("abcabABCab1_-./xyz" : Str).cps.toList = A18 := by decide +kernel
theorem name_ok (ns : List Int) (a : Int) (h63 : ns.length ≤ 63) (h0 : 0 ≤ a) (ha : a < 900000) : zk8 [.scr ns, .int a] = .ok (.str ⟨(nameL ns a (nameN ns a)).toArray⟩) := by
 have st : zf3 4 [D.scr ns, .int a] = [some (.val (.scr ns)), some (.val (.int a)), none, none] := rfl
 have dl := zp6 ns a (m := 10) (by decide)
 unfold zk8 zJ4
 rw [zf5, st, ze0, zf0, eC_ap, Fl.of_ok, zg5, ze0, zn5]
 have r1 := ya3 (fs := aCons (eOp addD (eC (.int 1)) (eCall zb0 (aCons (eVar 0) (aCons (eVar 1) (aCons (eC (.int 10)) aNil))))) aNil) (τ := [some (.val (.scr ns)), some (.val (.int a)), some (.val (.str "")), none]) (j := 1 + drawZ ns a 10)
  (by simp only [zb7, zb4, zg1, eC_ap, zg4, zc5, List.getElem?_cons_zero, List.getElem?_cons_succ, zc1, Rs.bind_ok, zo9 ns a 10 h63 h0 (by omega) (by decide), zm5, zi5]) (by omega) (by omega)
 simp only [List.set_cons_succ, List.set_cons_zero]
 rw [r1, Fl.of_ok]
 let S : Nat → DS := fun k => [some (.val (.scr ns)), some (.val (.int a)), some (.val (.str ⟨(nameL ns a k).toArray⟩)), if k = 0 then none else some (.val (.int ((k : Int) - 1)))]
 have s0 : S 0 = [some (.val (.scr ns)), some (.val (.int a)), some (.val (.str "")), none] := by
  simp only [S, nameL, List.range_zero, List.map_nil, if_true]
  rfl
 rw [← s0]
 have lp := ye6 (set := gNm 3) (body := (sSet 2 (eOp addD (eVar 2) (eOp ixD (eC (.str "abcabABCab1_-./xyz")) (eCall zb0 (aCons (eVar 0) (aCons (eOp addD (eOp addD (eVar 1) (eC (.int 1))) (eVar 3)) (aCons (eC (.int 18)) aNil)))))))) (fun (k : Nat) => D.int (0 + k)) S (1 + drawZ ns a 10).toNat fun k hk => by
  refine ⟨_, zs7, ?_⟩
  have hk' : (k : Int) < 20 := by omega
  have dk := zp6 ns (a + 1 + (0 + (k : Int))) (m := 18) (by decide)
  have hd := zo9 ns (a + 1 + (0 + (k : Int))) 18 h63 (by omega) (by omega) (by decide)
  have hix := zQ5 (a := "abcabABCab1_-./xyz") (k := drawZ ns (a + 1 + (0 + (k : Int))) 18) (c := A18.getD (drawZ ns (a + 1 + (0 + (k : Int))) 18).toNat 0) (zD6 dk.1 (by
   rw [a18]
   have : (drawZ ns (a + 1 + (0 + (k : Int))) 18).toNat < A18.length := by
    have : A18.length = 18 := rfl
    omega
   rw [List.getD_eq_getElem?_getD, List.getElem?_eq_getElem this]; rfl)) (by decide +kernel)
  have hadd := addD_s (a := ⟨(nameL ns a k).toArray⟩) (b := ⟨#[A18.getD (drawZ ns (a + 1 + (0 + (k : Int))) 18).toNat 0]⟩) (by
   show (nameL ns a k).toArray.size + 1 ≤ sizeLine
   rw [zd7, List.size_toArray]
   simp only [nameL, List.length_map, List.length_range]; omega)
  simp only [S, List.set_cons_succ, List.set_cons_zero, zf0, zg1, eC_ap, zg4, zb7, zb4, zc5, List.getElem?_cons_zero, List.getElem?_cons_succ, zc1, Rs.bind_ok, zi5, hd, zm5, hix, signD, hadd, Fl.of_ok, yg6]
  have e1 : nameL ns a k ++ [A18.getD (drawZ ns (a + 1 + (0 + (k : Int))) 18).toNat 0] = nameL ns a (k + 1) := by
   simp only [nameL, List.range_succ, List.map_append, List.map_cons, List.map_nil, nameC, Int.zero_add]
  rw [e1]
  simp
 unfold rngD
 rw [lp, zg5]
 simp only [S, ze7, zc5, List.getElem?_cons_zero, List.getElem?_cons_succ, zc1, Fl.of_ok, zd8]
 rfl
end Law
set_option Elab.async false
set_option linter.all false
namespace FD
open PySem PySem.Spec PyProof.Rows L2
theorem yb8 {set : FG} {body : FS} (f : Nat → D) (I : Nat → DS → Prop) : ∀ (m j : Nat) (τ : DS), I j τ → (∀ k τ, j ≤ k → k < j + m → I k τ → ∃ τ1 τ2, set (f k) τ = .ok τ1 ∧ body τ1 = .nx τ2 ∧ I (k + 1) τ2) → ∃ τ', loopD set body ((List.range' j m).map f) τ = .nx τ' ∧ I (j + m) τ'
 | 0, j, τ, h, _ => ⟨τ, rfl, h⟩
 | m + 1, j, τ, h, hs => by
  obtain ⟨τ1, τ2, h1, h2, h3⟩ := hs j τ (Nat.le_refl _) (by omega) h
  obtain ⟨τ', h4, h5⟩ := yb8 f I m (j + 1) τ2 h3 fun k τ hk hk2 => hs k τ (by omega) (by omega)
  refine ⟨τ', ?_, by rw [show j + (m + 1) = j + 1 + m by omega]; exact h5⟩
  rw [List.range'_succ, List.map_cons, loopD, h1, Fl.of_ok]
  simp only [h2, h4]
theorem zo1 {set : FG} {body : FS} (f : Nat → D) (I : Nat → DS → Prop) (n : Nat) (τ : DS) (h0 : I 0 τ) (h : ∀ k τ, k < n → I k τ → ∃ τ1 τ2, set (f k) τ = .ok τ1 ∧ body τ1 = .nx τ2 ∧ I (k + 1) τ2) : ∃ τ', loopD set body ((List.range n).map f) τ = .nx τ' ∧ I n τ' := by
 obtain ⟨τ', h1, h2⟩ := yb8 f I n 0 τ h0 fun k τ _ hk hi => h k τ (by omega) hi
 rw [Nat.zero_add] at h2
 exact ⟨τ', by rw [List.range_eq_range']; exact h1, h2⟩
end FD
namespace Law
open PySem PySem.Spec PyProof.Rows L2 FD
def QS : List Nat := [97, 98, 99, 120, 121, 122, 65, 66, 49]
def MK : List Nat := [95, 45, 46, 47]
theorem mk_l : ("_-./" : Str).cps.toList = MK := by decide +kernel
theorem mark_ok (c : Nat) : zk9 [signD c] = .ok (.bl (decide (c ∈ MK))) := by
 have st : zf3 1 [signD c] = [some (.val (signD c))] := rfl
 unfold zk9 zJ5
 rw [zf5, st]
 simp only [ze7, zg1, zc5, eC_ap, List.getElem?_cons_zero, zc1, Rs.bind_ok, signD, inD_s, zq5, mk_l, Fl.of_ok, zd8]
theorem slice_ss (x : List Nat) {i j : Int} (h0 : 0 ≤ i) (h1 : i ≤ j) (h2 : j ≤ x.length) : Txt.slice (⟨x.toArray⟩ : Str) (some i) (some j) = ⟨((x.drop i.toNat).take (j - i).toNat).toArray⟩ := by
 have := slice_closesL (x := ⟨x.toArray⟩) (i := i) (j := j) h0 h1 (by show j ≤ ((x.toArray.size : Nat) : Int); simpa using h2)
 exact eq_of_beq this
theorem yh1 (x : List Nat) (p : Nat) (hp : p < x.length) : Txt.slice (⟨x.toArray⟩ : Str) (some (p : Int)) (some ((p : Int) + 1)) = ⟨#[x[p]]⟩ := by
 rw [slice_ss x (by omega) (by omega) (by omega)]
 have e1 : ((p : Int) + 1 - (p : Int)).toNat = 1 := by omega
 have e2 : ((p : Int)).toNat = p := by omega
 rw [e1, e2, List.drop_eq_getElem_cons hp]
 rfl
theorem yl6 (c : Nat) (h : c < 128) : Txt.lower (⟨#[c]⟩ : Str) = ⟨#[lo1 c]⟩ := by
 rw [lower_ascii (x := ⟨#[c]⟩) (by intro d hd; have e : d = c := (by simpa using hd); omega)]
 simp
def NS : List Nat := [97, 98, 99, 65, 66, 67, 49, 95, 45, 46, 47, 120, 121, 122]
theorem yk8 (ns : List Int) (a : Int) (k : Nat) (h : 0 ≤ a + 1 + k) : nameC ns a k ∈ NS := by
 have d := zp6 ns (a + 1 + k) (m := 18) (by decide)
 have hall : ∀ n, n < 18 → A18.getD n 0 ∈ NS := by decide
 exact hall _ (by omega)
def S6 : List Nat := [97, 98, 65, 66, 49, 99]
theorem s6_l : ("abAB1c" : Str).cps.toList = S6 := by decide +kernel
theorem ym0 : ∀ c ∈ NS, c < 128 ∧ (lo1 c ∈ QS ∨ lo1 c ∈ MK) := by decide
theorem s6_sign : ∀ n, n < 6 → S6.getD n 0 ∈ QS := by decide
set_option maxHeartbeats 1000000
def qBody : FS := (sSeq (sSet 5 (eBlt min2D (aCons (eOp subD (eBlt lenD (aCons (eVar 2) aNil)) (eC (.int 1))) (aCons (eOp addD (eVar 5) (eCall zb0 (aCons (eVar 0) (aCons (eOp addD (eOp addD (eVar 1) (eC (.int 1))) (eOp mulD (eC (.int 3)) (eVar 6))) (aCons (eC (.int 3)) aNil))))) aNil))))
  (sSeq (sSet 7 (eMt0 "str" loD (eOr (eSl (eVar 2) (oSome (eVar 5)) (oSome (eOp addD (eVar 5) (eC (.int 1))))) (eC (.str "a")))))
  (sSeq (sSet 5 (eOp addD (eVar 5) (eC (.int 1))))
  (sSeq (sIf (FD.tB (eOp eqD (eCall zb0 (aCons (eVar 0) (aCons (eOp addD (eOp addD (eVar 1) (eC (.int 2))) (eOp mulD (eC (.int 3)) (eVar 6))) (aCons (eC (.int 5)) aNil)))) (eC (.int 0)))) (sSet 7 (eOp ixD (eC (.str "abAB1c")) (eCall zb0 (aCons (eVar 0) (aCons (eOp addD (eOp addD (eVar 1) (eC (.int 3))) (eOp mulD (eC (.int 3)) (eVar 6))) (aCons (eC (.int 6)) aNil)))))) sNext)
  (sIf (tNotD (tTru (eCall zk9 (aCons (eVar 7) aNil)))) (sSet 4 (eOp addD (eVar 4) (eVar 7))) sNext)))))
def qSt (ns : List Int) (a : Int) (x : List Nat) (most : Int) (q : List Nat) (p : Int) (s1 s2 : Option Sl) : DS :=
 [some (.val (.scr ns)), some (.val (.int a)), some (.val (.str ⟨x.toArray⟩)), some (.val (.int most)), some (.val (.str ⟨q.toArray⟩)), some (.val (.int p)), s1, s2]
theorem ye0 (ns : List Int) (a : Int) (x : List Nat) (most : Int) (q : List Nat) (p : Int) (k : Nat) (s2 : Option Sl) (h63 : ns.length ≤ 63) (h0 : 0 ≤ a) (ha : a < 900000) (hk : k < 100) (hx0 : 0 < x.length) (hx1 : x.length ≤ 100) (hx : ∀ c ∈ x, c ∈ NS) (hq : q.length ≤ 100) (hqs : ∀ c ∈ q, c ∈ QS) (hp : 0 ≤ p) :
  ∃ q' p' s', qBody (qSt ns a x most q p (some (.val (.int (0 + k)))) s2) = .nx (qSt ns a x most q' p' (some (.val (.int (0 + k)))) s') ∧ q'.length ≤ q.length + 1 ∧ (∀ c ∈ q', c ∈ QS) ∧ 0 ≤ p' := by
 have hl : ((⟨x.toArray⟩ : Str).length : Int) = x.length := by show ((x.toArray.size : Nat) : Int) = _; simp
 have hsz : (⟨x.toArray⟩ : Str).length ≤ sizeLine := by rw [zd7]; show x.toArray.size ≤ _; simp; omega
 have m3 := zv3 (i := 3) (j := 0 + (k : Int)) (.inl ⟨by decide, by decide⟩)
 have g1 := zo9 ns (a + 1 + 3 * (0 + (k : Int))) 3 h63 (by omega) (by omega) (by decide)
 have g2 := zo9 ns (a + 2 + 3 * (0 + (k : Int))) 5 h63 (by omega) (by omega) (by decide)
 have g3 := zo9 ns (a + 3 + 3 * (0 + (k : Int))) 6 h63 (by omega) (by omega) (by decide)
 have b1 := zp6 ns (a + 1 + 3 * (0 + (k : Int))) (m := 3) (by decide)
 have b3 := zp6 ns (a + 3 + 3 * (0 + (k : Int))) (m := 6) (by decide)
 generalize drawZ ns (a + 1 + 3 * (0 + (k : Int))) 3 = e1 at *
 generalize drawZ ns (a + 2 + 3 * (0 + (k : Int))) 5 = e2 at *
 generalize drawZ ns (a + 3 + 3 * (0 + (k : Int))) 6 = e3 at *
 obtain ⟨n, hn, hmin⟩ : ∃ n : Nat, n < x.length ∧ (if p + e1 < (x.length : Int) - 1 then p + e1 else (x.length : Int) - 1) = (n : Int) := by
  by_cases h : p + e1 < (x.length : Int) - 1
  ·exact ⟨(p + e1).toNat, by omega, by rw [if_pos h]; omega⟩
  ·exact ⟨x.length - 1, by omega, by rw [if_neg h]; omega⟩
 have hmn : min2D [.int ((x.length : Int) - 1), .int (p + e1)] = .ok (.int n) := by
  simp only [min2D, int2]; rw [hmin]
 have hsl : slD (.str ⟨x.toArray⟩) (some (n : Int)) (some ((n : Int) + 1)) = .ok (.str ⟨#[x[n]]⟩) := by
  simp only [slD]
  rw [if_pos hsz, yh1 x n hn]
 have hxn := hx x[n] (List.getElem_mem hn)
 have hlo : loD (.str ⟨#[x[n]]⟩) [] = .ok (.str ⟨#[lo1 x[n]]⟩) := by
  simp only [loD]
  rw [if_pos (by show 1 ≤ 5000000; decide), yl6 _ (ym0 _ hxn).1]
 have htr : truD (.str ⟨#[x[n]]⟩) = .ok true := by
  rw [truD_str (by rw [zd7]; show 1 ≤ _; decide)]; rfl
 have hix : ixD (.str "abAB1c") (.int e3) = .ok (signD (S6.getD e3.toNat 0)) := zQ5 (zD6 b3.1 (by
   rw [s6_l]
   have : e3.toNat < S6.length := by show e3.toNat < 6; omega
   rw [List.getD_eq_getElem?_getD, List.getElem?_eq_getElem this]; rfl)) (by decide +kernel)
 have key : ∀ c : Nat, (c ∈ QS ∨ c ∈ MK) → ∃ q' s', (sIf (tNotD (tTru (eCall zk9 (aCons (eVar 7) aNil)))) (sSet 4 (eOp addD (eVar 4) (eVar 7))) sNext) (qSt ns a x most q ((n : Int) + 1) (some (.val (.int (0 + k)))) (some (.val (signD c)))) = .nx (qSt ns a x most q' ((n : Int) + 1) (some (.val (.int (0 + k)))) s') ∧ q'.length ≤ q.length + 1 ∧ ∀ c ∈ q', c ∈ QS := fun c hc => by
  have hadd := addD_s (a := ⟨q.toArray⟩) (b := ⟨#[c]⟩) (by
   show q.toArray.size + 1 ≤ sizeLine
   rw [zd7, List.size_toArray]; omega)
  simp only [qSt, zi1, tNot_ap, zu6, zg4, zb7, zb4, zc5, List.getElem?_cons_zero, List.getElem?_cons_succ, zc1, Rs.bind_ok, mark_ok, zm5, zt0, Fl.of_ok]
  by_cases hm : c ∈ MK
  ·exact ⟨q, some (.val (signD c)), by simp only [hm, decide_true, Bool.not_true, Bool.false_eq_true, if_false, ze2], by omega, hqs⟩
  ·refine ⟨q ++ [c], some (.val (signD c)), by simp only [hm, decide_false, Bool.not_false, if_true, zf0, zg1, zc5, List.getElem?_cons_zero, List.getElem?_cons_succ, zc1, Rs.bind_ok, signD, hadd, Fl.of_ok, List.set_cons_succ, List.set_cons_zero, yg6], by simp, fun d hd => ?_⟩
   rcases List.mem_append.mp hd with h | h
   ·exact hqs d h
   ·have : d = c := by simpa using h
    subst this
    exact hc.resolve_right hm
 unfold qBody
 simp only [qSt, ze0, zf0, zr4, zb7, zb4, zg1, zc5, eC_ap, zg4, List.getElem?_cons_zero, List.getElem?_cons_succ, zc1, Rs.bind_ok, yc0 hsz, hl, zp1, zi5, m3, g1, zm5, hmn, Fl.of_ok, List.set_cons_succ, List.set_cons_zero, zg5,
  yn8, eOr_ap, eSl_ap, yb4, zW4, hsl, htr, if_true, isTy, decide_true, hlo, zi1, tB_ap, g2, eqD_i, zd9]
 by_cases hz : e2 = 0
 ·subst hz
  obtain ⟨q', s', h1, h2, h3⟩ := key (S6.getD e3.toNat 0) (.inl (s6_sign _ (by omega)))
  simp only [qSt] at h1
  refine ⟨q', (n : Int) + 1, s', ?_, h2, h3, by omega⟩
  simp only [beq_self_eq_true, if_true, g3, zm5, Rs.bind_ok, hix, Fl.of_ok, zg5]
  exact h1
 ·obtain ⟨q', s', h1, h2, h3⟩ := key (lo1 x[n]) (ym0 _ hxn).2
  simp only [qSt] at h1
  refine ⟨q', (n : Int) + 1, s', ?_, h2, h3, by omega⟩
  have hb : (e2 == 0) = false := by simpa using hz
  simp only [hb, Bool.false_eq_true, if_false, ze2, zg5]
  exact h1
theorem query_ok (ns : List Int) (a : Int) (x : List Nat) (most : Int) (h63 : ns.length ≤ 63) (h0 : 0 ≤ a) (ha : a < 900000) (hm0 : 0 ≤ most) (hm1 : most < 50) (hx0 : 0 < x.length) (hx1 : x.length ≤ 100) (hx : ∀ c ∈ x, c ∈ NS) :
  ∃ q : List Nat, (q.length : Int) ≤ most ∧ (∀ c ∈ q, c ∈ QS) ∧ zk7 [.scr ns, .int a, .str ⟨x.toArray⟩, .int most] = .ok (.str ⟨q.toArray⟩) := by
 have st : zf3 8 [D.scr ns, .int a, .str ⟨x.toArray⟩, .int most] = [some (.val (.scr ns)), some (.val (.int a)), some (.val (.str ⟨x.toArray⟩)), some (.val (.int most)), none, none, none, none] := rfl
 have dl := zp6 ns a (m := most + 1) (by omega)
 have dk := zo9 ns a (most + 1) h63 h0 (by omega) (by omega)
 generalize hN : drawZ ns a (most + 1) = N at *
 have r1 := ya3 (fs := aCons (eCall zb0 (aCons (eVar 0) (aCons (eVar 1) (aCons (eOp addD (eVar 3) (eC (.int 1))) aNil)))) aNil) (τ := qSt ns a x most [] 0 none none) (j := N)
  (by simp only [qSt, zb7, zb4, zg1, eC_ap, zg4, zc5, List.getElem?_cons_zero, List.getElem?_cons_succ, zc1, Rs.bind_ok, zi5, dk, zm5]) (by omega) (by omega)
 obtain ⟨τ', l1, q, p, s1, s2, rfl, l2, l3, l4⟩ := zo1 (set := gNm 6) (body := qBody) (fun (k : Nat) => D.int (0 + k)) (fun k τ => ∃ q p s1 s2, τ = qSt ns a x most q p s1 s2 ∧ q.length ≤ k ∧ (∀ c ∈ q, c ∈ QS) ∧ 0 ≤ p) N.toNat (qSt ns a x most [] 0 none none)
  ⟨[], 0, none, none, rfl, Nat.le_refl _, (fun _ h => nomatch h), Int.le_refl _⟩ fun k τ hk ⟨q, p, s1, s2, e, h1, h2, h3⟩ => by
   subst e
   obtain ⟨q', p', s', g1, g2, g3, g4⟩ := ye0 ns a x most q p k s2 h63 h0 ha (by omega) hx0 hx1 hx (by omega) h2 h3
   exact ⟨_, _, zs7, g1, q', p', _, s', rfl, by omega, g3, g4⟩
 refine ⟨q, by omega, l3, ?_⟩
 have s0 : qSt ns a x most [] 0 none none = [some (.val (.scr ns)), some (.val (.int a)), some (.val (.str ⟨x.toArray⟩)), some (.val (.int most)), some (.val (.str "")), some (.val (.int 0)), none, none] := rfl
 unfold zk7 zD4
 rw [zf5, st, ze0, zf0, eC_ap, Fl.of_ok, zg5, ze0, zf0, eC_ap, Fl.of_ok, zg5, ze0, zn5]
 simp only [List.set_cons_succ, List.set_cons_zero]
 rw [← s0, r1, Fl.of_ok]
 unfold rngD
 have l1' : loopD (gNm 6) qBody ((List.range N.toNat).map fun (k : Nat) => D.int (0 + k)) (qSt ns a x most [] 0 none none) = .nx (qSt ns a x most q p s1 s2) := l1
 unfold qBody at l1'
 rw [l1', zg5]
 simp only [qSt, ze7, zc5, List.getElem?_cons_zero, List.getElem?_cons_succ, zc1, Fl.of_ok, zd8]
def meetC (c d : Nat) : Bool := c == d || (decide (97 ≤ c ∧ c ≤ 122) && up1 c == d)
theorem small_l : ("abcdefghijklmnopqrstuvwxyz" : Str).cps.toList = (List.range 26).map (· + 97) := by decide +kernel
theorem zy4 (c : Nat) : decide (c ∈ ("abcdefghijklmnopqrstuvwxyz" : Str).cps.toList) = decide (97 ≤ c ∧ c ≤ 122) := by
 rw [small_l]
 apply decide_eq_decide.mpr
 rw [List.mem_map]
 constructor
 ·rintro ⟨i, hi, rfl⟩
  have := List.mem_range.mp hi
  omega
 ·intro h
  exact ⟨c - 97, List.mem_range.mpr (by omega), by omega⟩
theorem yf5 (c : Nat) (h : c < 128) : Txt.upper (⟨#[c]⟩ : Str) = ⟨#[up1 c]⟩ := by
 rw [upper_ascii (x := ⟨#[c]⟩) (by intro d hd; have e : d = c := (by simpa using hd); omega)]
 simp
theorem yj8 (c d : Nat) : ((⟨#[c]⟩ : Str) == ⟨#[d]⟩) = (c == d) := by
 rw [Bool.eq_iff_iff]
 simp
theorem zQ1 (c d : Nat) (hc : c < 128) : zo0 [signD c, signD d] = .ok (.bl (meetC c d)) := by
 have st : zf3 2 [signD c, signD d] = [some (.val (signD c)), some (.val (signD d))] := rfl
 have hup : upD (.str ⟨#[c]⟩) [] = .ok (.str ⟨#[up1 c]⟩) := by
  simp only [upD]
  rw [if_pos (by show 1 ≤ 5000000; decide), yf5 _ hc]
 unfold zo0 yo8
 rw [zf5, st]
 simp only [ze7, eOr_ap, zZ0, zg1, zc5, eC_ap, yn8, List.getElem?_cons_zero, List.getElem?_cons_succ, zc1, Rs.bind_ok, signD, eqD_s, yj8, zt0, inD_s, zq5, zy4, isTy, decide_true, if_true, hup]
 unfold meetC
 by_cases h : c = d
 ·subst h; simp
 ·have hb : (c == d) = false := by simpa using h
  simp only [hb, Bool.false_eq_true, if_false, Bool.false_or]
  by_cases h2 : 97 ≤ c ∧ c ≤ 122
  ·simp [h2]
  ·simp [h2]
end Law
set_option Elab.async false
set_option linter.all false
set_option maxHeartbeats 1000000
namespace FD
open PySem PySem.Spec PyProof.Rows L2
section
variable {τ : DS} {fa fb fe fi : FE} {fs : FA} {n : Nat} {i : Int}
theorem zF0 : eLenO n τ = (getO τ[n]?).bind fun ds => .ok (.int ds.length) := rfl
theorem zt2 : sApp n fe τ = Fl.of (getO τ[n]?) fun ds => Fl.of (fe τ) fun d => if ds.length < sizeLine then .nx (τ.set n (some (.own (ds ++ [d])))) else .no := rfl
theorem zQ6 : iAny fe τ = (fe τ).bind iterD := rfl
@[simp] theorem iter_lst {ds : List D} : iterD (.lst ds) = .ok ds := rfl
def putAt (n : Nat) (ds : List D) (d : D) (τ : DS) : D → Fl
 | .int k => match ixN ds.length k with
  | some j => .nx (τ.set n (some (.own (ds.set j d))))
  | none => .no
 | _ => .no
theorem zW8 : sPut n fi fe τ = Fl.of (fe τ) fun d => Fl.of (getO τ[n]?) fun ds => Fl.of (fi τ) (putAt n ds d τ) := by
 unfold sPut ownAt
 cases fe τ <;> rfl
theorem putAt_ok {ds : List D} {d : D} {j : Nat} (h : j < ds.length) : putAt n ds d τ (.int j) = .nx (τ.set n (some (.own (ds.set j d)))) := by
 have : ixN ds.length (j : Int) = some j := by
  unfold ixN
  rw [if_pos (by omega), if_pos (by omega)]
  simp
 simp only [putAt, this]
def ixO (ds : List D) : D → Rs D
 | .int k => match atI ds k with
  | some d => .ok d
  | none => .no
 | _ => .no
theorem eIxO_ap : eIxO n fi τ = (getO τ[n]?).bind fun ds => (fi τ).bind (ixO ds) := by
 unfold eIxO
 show (getO τ[n]?).bind _ = _
 cases getO τ[n]? <;> rfl
end
end FD
namespace Law
open PySem PySem.Spec PyProof.Rows L2 FD
abbrev tx (x : List Nat) : D := .str ⟨x.toArray⟩
abbrev nts (x : List Nat) : D := .lst (x.map fun (k : Nat) => D.int k)
theorem zu4 (x : List Nat) (h : x.length ≤ 1000) : lenD [tx x] = .ok (.int x.length) := by
 rw [yc0 (by rw [zd7]; show x.toArray.size ≤ _; simp; omega)]
 show Rs.ok (D.int ((x.toArray.size : Nat) : Int)) = _
 simp
theorem tx_ix (x : List Nat) (j : Nat) (c : Nat) (h : x[j]? = some c) (hl : x.length ≤ 1000) : ixD (tx x) (.int j) = .ok (signD c) := by
 refine zQ5 (zD6 (by omega) (by simpa using h)) (by rw [zd7]; show x.toArray.size ≤ _; simp; omega)
def epR : List Nat → List Nat → Nat → List Nat
 | [], _, _ => []
 | _ :: _, [], _ => []
 | a :: q, c :: x, k => if meetC a c = true then k :: epR q x (k + 1) else epR (a :: q) x (k + 1)
def subs : List Nat → List Nat → Bool
 | [], _ => true
 | _ :: _, [] => false
 | a :: q, c :: x => if meetC a c = true then subs q x else subs (a :: q) x
theorem zR0 : ∀ (q x : List Nat) (k : Nat), ((epR q x k).length = q.length) ↔ subs q x = true
 | [], x, k => by simp [epR, subs]
 | a :: q, [], k => by simp [epR, subs]
 | a :: q, c :: x, k => by
  simp only [epR, subs]
  split
  ·simpa using zR0 q x (k + 1)
  ·exact zR0 (a :: q) x (k + 1)
abbrev its (x : List Int) : D := .lst (x.map D.int)
theorem zA2 {set : FG} {fe : FE} {τ : DS} {α β : Type} (f : α → D) (g : β → D) (h : α → β) : ∀ (xs : List α), (∀ a ∈ xs, ∃ τ1, set (f a) τ = .ok τ1 ∧ fe τ1 = .ok (g (h a))) → compL set (fun _ => .ok true) fe τ (xs.map f) = .ok ((xs.map h).map g)
 | [], _ => rfl
 | a :: xs, hs => by
  obtain ⟨τ1, h1, h2⟩ := hs a (List.mem_cons_self ..)
  rw [List.map_cons, compL, h1]
  simp only [h2, zA2 f g h xs fun b hb => hs b (List.mem_cons_of_mem _ hb), Rs.bind_ok, List.map_cons]
end Law
set_option Elab.async false
set_option linter.all false
set_option maxHeartbeats 1000000
namespace FD
open PySem PySem.Spec PyProof.Rows L2
theorem mk_len (x : List Nat) : (⟨x.toArray⟩ : Str).length = x.length := by show x.toArray.size = _; simp
theorem zt8 {set : FG} {ft : FT} {fe : FE} {τ : DS} {α : Type} (f g : α → D) (p : α → Bool) : ∀ (xs : List α), (∀ a ∈ xs, ∃ τ1, set (f a) τ = .ok τ1 ∧ ft τ1 = .ok (p a) ∧ fe τ1 = .ok (g a)) → compL set ft fe τ (xs.map f) = .ok ((xs.filter p).map g)
 | [], _ => rfl
 | a :: xs, hs => by
  obtain ⟨τ1, h1, h2, h3⟩ := hs a (List.mem_cons_self ..)
  have ih := zt8 f g p xs fun b hb => hs b (List.mem_cons_of_mem _ hb)
  rw [List.map_cons, compL, h1]
  cases hp : p a
  ·rw [hp] at h2
   simp only [h2, ih, List.filter_cons, hp, Bool.false_eq_true, if_false]
  ·rw [hp] at h2
   simp only [h2, h3, ih, List.filter_cons, hp, if_true, Rs.bind_ok, List.map_cons]
end FD
namespace Law
open PySem PySem.Spec PyProof.Rows L2 FD
theorem f1 : ∀ a ∈ QS, ∀ c ∈ NS, meetC (lo1 a) c = meetC (lo1 a) (lo1 c) := by decide
theorem f2 : ∀ a ∈ QS, ∀ c ∈ NS, meetC a c = true → meetC (lo1 a) c = true := by decide
theorem f3 : ∀ a ∈ QS, ∀ c ∈ NS, meetC a c = true → lo1 c = lo1 a := by decide
theorem f5 : ∀ c ∈ NS, c < 128 ∧ lo1 c < 128 := by decide
theorem f6 : ∀ c ∈ QS, c < 128 ∧ lo1 c < 128 := by decide
structure Lay (q x l : List Nat) : Prop where
 len : l.length = q.length
 ris : ∀ j, j + 1 < l.length → l.getD j 0 < l.getD (j + 1) 0
 inn : ∀ j, j < l.length → l.getD j 0 < x.length
 met : ∀ j, j < l.length → meetC (q.getD j 0) (x.getD (l.getD j 0) 0) = true
theorem zv5 (l : List Nat) (m j : Nat) (h : j < m) : (l.take m).getD j 0 = l.getD j 0 := by
 simp [List.getD_eq_getElem?_getD, h]
theorem Lay.take {q x l : List Nat} (h : Lay q x l) (m : Nat) : Lay (q.take m) x (l.take m) := by
 refine ⟨by simp [h.len], fun j hj => ?_, fun j hj => ?_, fun j hj => ?_⟩
 ·rw [List.length_take] at hj
  rw [zv5 _ _ _ (by omega), zv5 _ _ _ (by omega)]
  exact h.ris j (by omega)
 ·rw [List.length_take] at hj
  rw [zv5 _ _ _ (by omega)]
  exact h.inn j (by omega)
 ·rw [List.length_take] at hj
  rw [zv5 _ _ _ (by omega), zv5 _ _ _ (by omega)]
  exact h.met j (by omega)
def begP (x : List Nat) (p : Nat) : Int := if p = 0 then 8 else if x.getD (p - 1) 0 ∈ MK then 6 else if (65 ≤ x.getD p 0 ∧ x.getD p 0 ≤ 90) ∧ ((97 ≤ x.getD (p - 1) 0 ∧ x.getD (p - 1) 0 ≤ 122) ∨ (48 ≤ x.getD (p - 1) 0 ∧ x.getD (p - 1) 0 ≤ 57)) then 5 else 0
def ownP (a : Nat) (x : List Nat) (p : Nat) : Int := 10 + begP x p + (if x.getD p 0 = a then 1 else 0)
def leadP (p : Nat) : Int := -(if (p : Int) < 3 then (p : Int) else 3)
def linkP (r p : Nat) : Int := if (p : Int) - r - 1 = 0 then 7 else -(if (p : Int) - r - 1 < 5 then (p : Int) - r - 1 else 5)
abbrev Tl := Int × List Nat
def fmost : List Tl → Option Tl → Option Tl
 | [], c => c
 | t :: r, none => fmost r (some t)
 | t :: r, some c => fmost r (some (if c.1 < t.1 then t else c))
def lastT (a : Nat) (x : List Nat) : List Tl := ((List.range x.length).filter fun p => meetC a (x.getD p 0)).map fun p => (ownP a x p, [p])
def linkT (p : Nat) (ts : List Tl) : List Tl := (ts.filter fun t => decide (p < t.2.getD 0 0)).map fun t => (t.1 + linkP p (t.2.getD 0 0), t.2)
def longF (a : Nat) (x : List Nat) (ts : List Tl) (p : Nat) : Option Tl := if meetC a (x.getD p 0) = true then (fmost (linkT p ts) none).map fun t => (ownP a x p + t.1, p :: t.2) else none
def longT (a : Nat) (x : List Nat) (ts : List Tl) : List Tl := (List.range x.length).filterMap (longF a x ts)
def zj7 : List Nat → List Nat → List Tl
 | [], _ => []
 | [a], x => lastT a x
 | a :: b :: q, x => longT a x (zj7 (b :: q) x)
def leadT (t : Tl) : Tl := (t.1 + leadP (t.2.getD 0 0), t.2)
def bestR (q x : List Nat) : Option Tl := fmost ((zj7 q x).map leadT) none
theorem zA0 : ∀ (ts : List Tl) (c : Option Tl) (t : Tl), fmost ts c = some t → t ∈ ts ∨ c = some t
 | [], c, t, h => .inr h
 | u :: r, none, t, h => by
  rcases zA0 r (some u) t h with h | h
  ·exact .inl (List.mem_cons_of_mem _ h)
  ·cases h; exact .inl (List.mem_cons_self ..)
 | u :: r, some c, t, h => by
  rcases zA0 r _ t h with h | h
  ·exact .inl (List.mem_cons_of_mem _ h)
  ·by_cases g : c.1 < u.1
   ·rw [if_pos g] at h; cases h; exact .inl (List.mem_cons_self ..)
   ·rw [if_neg g] at h; exact .inr h
def sm (f : Nat → Int) : Nat → Int
 | 0 => 0
 | n + 1 => sm f n + f n
theorem yh0 (f : Nat → Int) : ∀ n, sm f (n + 1) = f 0 + sm (fun j => f (j + 1)) n
 | 0 => by simp [sm]
 | n + 1 => by rw [sm, yh0 f n, sm]; omega
def trk (x : List Nat) (r : Nat) (q l : List Nat) (j : Nat) : Int := ownP (q.getD j 0) x (l.getD j 0) + linkP (if j = 0 then r else l.getD (j - 1) 0) (l.getD j 0)
theorem trk_cons (a p r : Nat) (q x l : List Nat) (j : Nat) : trk x r (a :: q) (p :: l) (j + 1) = trk x p q l j := by
 simp only [trk, List.getD_cons_succ, Nat.succ_ne_zero, if_false, Nat.add_sub_cancel]
 cases j with
 | zero => rw [if_pos rfl, List.getD_cons_zero]
 | succ j => rw [if_neg (Nat.succ_ne_zero j), List.getD_cons_succ, Nat.add_sub_cancel]
def tailP (x : List Nat) : List Nat → List Nat → Int
 | a :: q, p :: l => ownP a x p + sm (trk x p q l) l.length
 | _, _ => 0
theorem yg4 (a b p r : Nat) (q x l : List Nat) : tailP x (a :: b :: q) (p :: r :: l) = ownP a x p + linkP p r + tailP x (b :: q) (r :: l) := by
 simp only [tailP, List.length_cons]
 rw [yh0, funext (trk_cons b r p q x l)]
 simp only [trk, if_true, List.getD_cons_zero]
 omega
theorem Lay.one {a p : Nat} {x : List Nat} (h1 : p < x.length) (h2 : meetC a (x.getD p 0) = true) : Lay [a] x [p] :=
 ⟨rfl, fun j hj => by simp at hj, fun j hj => by
   have : j = 0 := by simpa using hj
   subst this; exact h1, fun j hj => by
   have : j = 0 := by simpa using hj
   subst this; exact h2⟩
theorem Lay.cons {a p : Nat} {q x l : List Nat} (h : Lay q x l) (h1 : p < x.length) (h2 : meetC a (x.getD p 0) = true) (h3 : 0 < l.length → p < l.getD 0 0) : Lay (a :: q) x (p :: l) := by
 refine ⟨by simp [h.len], fun j hj => ?_, fun j hj => ?_, fun j hj => ?_⟩
 ·cases j with
  | zero => simpa using h3 (by simpa using hj)
  | succ j => simpa using h.ris j (by simpa using hj)
 ·cases j with
  | zero => simpa using h1
  | succ j => simpa using h.inn j (by simpa using hj)
 ·cases j with
  | zero => exact h2
  | succ j => simpa using h.met j (by simpa using hj)
theorem Lay.tail {a p : Nat} {q x l : List Nat} (h : Lay (a :: q) x (p :: l)) : Lay q x l ∧ p < x.length ∧ meetC a (x.getD p 0) = true ∧ (0 < l.length → p < l.getD 0 0) := by
 refine ⟨⟨by simpa using h.len, fun j hj => ?_, fun j hj => ?_, fun j hj => ?_⟩, by simpa using h.inn 0 (by simp), by simpa using h.met 0 (by simp), fun h0 => by simpa using h.ris 0 (by simpa using h0)⟩
 ·simpa using h.ris (j + 1) (by simpa using hj)
 ·simpa using h.inn (j + 1) (by simpa using hj)
 ·simpa using h.met (j + 1) (by simpa using hj)
theorem zF4 (x : List Nat) : ∀ (q : List Nat) (t : Tl), t ∈ zj7 q x → Lay q x t.2 ∧ t.1 = tailP x q t.2
 | [], t, h => by simp [zj7] at h
 | [a], t, h => by
  simp only [zj7, lastT, List.mem_map, List.mem_filter, List.mem_range] at h
  obtain ⟨p, ⟨h1, h2⟩, rfl⟩ := h
  exact ⟨Lay.one h1 h2, by simp [tailP, sm]⟩
 | a :: b :: q, t, h => by
  simp only [zj7, longT, List.mem_filterMap, List.mem_range] at h
  obtain ⟨p, h1, h2⟩ := h
  unfold longF at h2
  split at h2
  ·rename_i hm
   cases e : fmost (linkT p (zj7 (b :: q) x)) none with
   | none => rw [e] at h2; cases h2
   | some u =>
    rw [e] at h2
    have h2 : some (ownP a x p + u.1, p :: u.2) = some t := h2
    cases h2
    rcases zA0 _ _ _ e with g | g
    ·simp only [linkT, List.mem_map, List.mem_filter, decide_eq_true_eq] at g
     obtain ⟨v, ⟨g1, g2⟩, rfl⟩ := g
     obtain ⟨k1, k2⟩ := zF4 x (b :: q) v g1
     refine ⟨k1.cons h1 hm fun _ => g2, ?_⟩
     have hl := k1.len
     cases e2 : v.2 with
     | nil => rw [e2] at hl; simp at hl
     | cons r l =>
      rw [e2] at k2
      simp only [List.getD_cons_zero]
      rw [yg4, k2]
      omega
    ·cases g
  ·cases h2
theorem zz8 (l : List Nat) (j : Nat) (h : j < l.length) : (l.map (· - 1)).getD j 0 = l.getD j 0 - 1 := by
 simp [List.getD_eq_getElem?_getD, List.getElem?_map, List.getElem?_eq_getElem h]
theorem Lay.back {q x l : List Nat} {c : Nat} (h : Lay q (c :: x) l) (h0 : ∀ j, j < l.length → 0 < l.getD j 0) : Lay q x (l.map (· - 1)) := by
 refine ⟨by simp [h.len], fun j hj => ?_, fun j hj => ?_, fun j hj => ?_⟩ <;> rw [List.length_map] at hj
 ·rw [zz8 _ _ (by omega), zz8 _ _ hj]
  have := h.ris j hj; have := h0 j (by omega); omega
 ·rw [zz8 _ _ hj]
  have := h.inn j hj; have := h0 j hj; simp only [List.length_cons] at *; omega
 ·rw [zz8 _ _ hj]
  have a := h.met j hj; have b := h0 j hj
  obtain ⟨k, hk⟩ : ∃ k, l.getD j 0 = k + 1 := ⟨l.getD j 0 - 1, by omega⟩
  rw [hk, List.getD_cons_succ] at a
  rw [hk]; exact a
end Law
set_option Elab.async false
set_option linter.all false
set_option maxHeartbeats 1000000
namespace FD
open PySem PySem.Spec PyProof.Rows L2
def negI : D → Rs D
 | .int i => .ok (.int (-i))
 | _ => .no
@[simp] theorem negI_i {i : Int} : negI (.int i) = .ok (.int (-i)) := rfl
theorem zR1 {fa : FE} {τ : DS} : eNeg fa τ = (fa τ).bind negI := by
 unfold eNeg
 show (fa τ).bind _ = _
 cases fa τ with
 | ok d => cases d <;> rfl
 | _ => rfl
theorem min2_i (i j : Int) : min2D [.int i, .int j] = .ok (.int (if j < i then j else i)) := rfl
end FD
namespace Law
open PySem PySem.Spec PyProof.Rows L2 FD
abbrev tlD (t : Tl) : D := .tup [.int t.1, nts t.2]
def optD : Option Tl → D
 | none => .non
 | some t => tlD t
theorem tl_0 (t : Tl) : ixD (tlD t) (.int 0) = .ok (.int t.1) := rfl
theorem tl_1 (t : Tl) : ixD (tlD t) (.int 1) = .ok (nts t.2) := rfl
theorem nts_ix (l : List Nat) (j : Nat) (h : j < l.length) : ixD (nts l) (.int (j : Int)) = .ok (.int (l.getD j 0 : Nat)) := by
 refine zB8 (zD6 (by omega) ?_)
 simp [List.getD_eq_getElem?_getD, List.getElem?_eq_getElem h]
theorem zX8 (l : List Nat) (h : 0 < l.length) : ixD (nts l) (.int 0) = .ok (.int (l.getD 0 0 : Nat)) := nts_ix l 0 h
theorem zE9 (x : List Nat) (j : Nat) (h : j < x.length) : x[j]? = some (x.getD j 0) := by
 rw [List.getD_eq_getElem?_getD, List.getElem?_eq_getElem h]; rfl
theorem tx_at (x : List Nat) (j : Nat) (h : j < x.length) (hx : x.length ≤ 1000) : ixD (tx x) (.int (j : Int)) = .ok (signD (x.getD j 0)) := tx_ix x j _ (zE9 x j h) hx
theorem great_l : ("ABCDEFGHIJKLMNOPQRSTUVWXYZ" : Str).cps.toList = (List.range 26).map (· + 65) := by decide +kernel
theorem figs_l : ("0123456789" : Str).cps.toList = (List.range 10).map (· + 48) := by decide +kernel
theorem yh5 (c n a : Nat) : decide (c ∈ (List.range (n + 1)).map (· + a)) = decide (a ≤ c ∧ c ≤ n + a) := by
 apply decide_eq_decide.mpr
 rw [List.mem_map]
 constructor
 ·rintro ⟨i, hi, rfl⟩
  have := List.mem_range.mp hi
  omega
 ·intro h
  exact ⟨c - a, List.mem_range.mpr (by omega), by omega⟩
theorem zz7 (c : Nat) : decide (c ∈ ("ABCDEFGHIJKLMNOPQRSTUVWXYZ" : Str).cps.toList) = decide (65 ≤ c ∧ c ≤ 90) := by
 rw [great_l]; exact yh5 c 25 65
theorem zQ8 (c : Nat) : decide (c ∈ ("0123456789" : Str).cps.toList) = decide (48 ≤ c ∧ c ≤ 57) := by
 rw [figs_l]; exact yh5 c 9 48
theorem beg_ok (x : List Nat) (p : Nat) (hx : x.length ≤ 1000) (hp : p < x.length) : zg0 [tx x, .int (p : Int)] = .ok (.int (begP x p)) := by
 have st : zf3 3 [tx x, .int (p : Int)] = [some (.val (tx x)), some (.val (.int (p : Int))), none] := rfl
 unfold zg0 zr7
 rw [zf5, st]
 cases p with
 | zero =>
  simp only [ze0, zi1, ze7, ze2, tB_ap, zg1, zc5, eC_ap, List.getElem?_cons_zero, List.getElem?_cons_succ, zc1, Rs.bind_ok, Fl.of_ok, zL0, zd8, zd9, eqD_i, if_true, show ((((0 : Nat) : Int)) == 0) = true from rfl]
  rfl
 | succ k =>
  have e0 : (((k + 1 : Nat) : Int) == 0) = false := by simp; omega
  have e1 : ((k + 1 : Nat) : Int) - 1 = (k : Int) := by omega
  have hk := tx_at x k (by omega) hx
  have hk1 := tx_at x (k + 1) hp hx
  have hb : begP x (k + 1) = if x.getD k 0 ∈ MK then 6 else if (65 ≤ x.getD (k + 1) 0 ∧ x.getD (k + 1) 0 ≤ 90) ∧ ((97 ≤ x.getD k 0 ∧ x.getD k 0 ≤ 122) ∨ (48 ≤ x.getD k 0 ∧ x.getD k 0 ≤ 57)) then 5 else 0 := by
   unfold begP; rw [if_neg (Nat.succ_ne_zero k)]; rfl
  rw [hb]
  generalize x.getD k 0 = c at *
  generalize x.getD (k + 1) 0 = d at *
  simp only [signD] at hk hk1
  by_cases h1 : c ∈ MK
  ·simp only [ze0, zf0, zi1, ze7, ze2, tB_ap, zg1, zc5, eC_ap, List.getElem?_cons_zero, List.getElem?_cons_succ, List.set_cons_succ, List.set_cons_zero, zc1, Rs.bind_ok, Fl.of_ok, zg5, zL0, zd8, zd9, zp1, eqD_i, if_true, Bool.false_eq_true, if_false, e0, e1, hk, inD_s, zq5, mk_l, h1, decide_true]
  ·by_cases h2 : 65 ≤ d ∧ d ≤ 90
   ·by_cases h3 : 97 ≤ c ∧ c ≤ 122
    ·have h4 : (65 ≤ d ∧ d ≤ 90) ∧ ((97 ≤ c ∧ c ≤ 122) ∨ (48 ≤ c ∧ c ≤ 57)) := ⟨h2, .inl h3⟩
     rw [if_neg h1, if_pos h4]
     simp only [ze0, zf0, zi1, ze7, ze2, tB_ap, zr9, zC4, zg1, zc5, eC_ap, List.getElem?_cons_zero, List.getElem?_cons_succ, List.set_cons_succ, List.set_cons_zero, zc1, Rs.bind_ok, Fl.of_ok, zg5, zL0, zd8, zd9, zp1, eqD_i, if_true, Bool.false_eq_true, if_false, e0, e1, hk, hk1, inD_s, zq5, mk_l, h1, decide_false, zz7, zy4, zQ8, h2, h3, and_self, decide_true]
    ·by_cases h5 : 48 ≤ c ∧ c ≤ 57
     ·have h4 : (65 ≤ d ∧ d ≤ 90) ∧ ((97 ≤ c ∧ c ≤ 122) ∨ (48 ≤ c ∧ c ≤ 57)) := ⟨h2, .inr h5⟩
      rw [if_neg h1, if_pos h4]
      simp only [ze0, zf0, zi1, ze7, ze2, tB_ap, zr9, zC4, zg1, zc5, eC_ap, List.getElem?_cons_zero, List.getElem?_cons_succ, List.set_cons_succ, List.set_cons_zero, zc1, Rs.bind_ok, Fl.of_ok, zg5, zL0, zd8, zd9, zp1, eqD_i, if_true, Bool.false_eq_true, if_false, e0, e1, hk, hk1, inD_s, zq5, mk_l, h1, decide_false, zz7, zy4, zQ8, decide_eq_true h2, decide_eq_false h3, decide_eq_true h5]
     ·have h4 : ¬ ((65 ≤ d ∧ d ≤ 90) ∧ ((97 ≤ c ∧ c ≤ 122) ∨ (48 ≤ c ∧ c ≤ 57))) := fun h => by rcases h.2 with h | h; exact h3 h; exact h5 h
      rw [if_neg h1, if_neg h4]
      simp only [ze0, zf0, zi1, ze7, ze2, tB_ap, zr9, zC4, zg1, zc5, eC_ap, List.getElem?_cons_zero, List.getElem?_cons_succ, List.set_cons_succ, List.set_cons_zero, zc1, Rs.bind_ok, Fl.of_ok, zg5, zd8, zd9, zp1, eqD_i, if_true, Bool.false_eq_true, if_false, e0, e1, hk, hk1, inD_s, zq5, mk_l, h1, decide_false, zz7, zy4, zQ8, decide_eq_true h2, decide_eq_false h3, decide_eq_false h5]
   ·have h4 : ¬ ((65 ≤ d ∧ d ≤ 90) ∧ ((97 ≤ c ∧ c ≤ 122) ∨ (48 ≤ c ∧ c ≤ 57))) := fun h => h2 h.1
    rw [if_neg h1, if_neg h4]
    simp only [ze0, zf0, zi1, ze7, ze2, tB_ap, zr9, zC4, zg1, zc5, eC_ap, List.getElem?_cons_zero, List.getElem?_cons_succ, List.set_cons_succ, List.set_cons_zero, zc1, Rs.bind_ok, Fl.of_ok, zg5, zd8, zd9, zp1, eqD_i, Bool.false_eq_true, if_false, e0, e1, hk, hk1, inD_s, zq5, mk_l, h1, decide_false, zz7, decide_eq_false h2]
theorem own_ok (a : Nat) (x : List Nat) (p : Nat) (hx : x.length ≤ 1000) (hp : p < x.length) : zf6 [signD a, tx x, .int (p : Int)] = .ok (.int (ownP a x p)) := by
 have st : zf3 4 [signD a, tx x, .int (p : Int)] = [some (.val (signD a)), some (.val (tx x)), some (.val (.int (p : Int))), none] := rfl
 have hk := tx_at x p hp hx
 have hb := beg_ok x p hx hp
 unfold zf6 zD3 ownP
 rw [zf5, st]
 simp only [signD] at hk ⊢
 by_cases h : x.getD p 0 = a
 ·have h' : (x.getD p 0 == a) = true := by simpa using h
  rw [if_pos h]
  simp only [ze0, zf0, ze7, tB_ap, zg1, zc5, eC_ap, zb4, zb7, zg4, eIf_ap, List.getElem?_cons_zero, List.getElem?_cons_succ, List.set_cons_succ, List.set_cons_zero, zc1, Rs.bind_ok, Fl.of_ok, zg5, zd8, zm5, zd9, zi5, eqD_s, if_true, hk, yj8, h', hb]
 ·have h' : (x.getD p 0 == a) = false := by simpa using h
  rw [if_neg h]
  simp only [ze0, zf0, ze7, tB_ap, zg1, zc5, eC_ap, zb4, zb7, zg4, eIf_ap, List.getElem?_cons_zero, List.getElem?_cons_succ, List.set_cons_succ, List.set_cons_zero, zc1, Rs.bind_ok, Fl.of_ok, zg5, zd8, zm5, zd9, zi5, eqD_s, Bool.false_eq_true, if_false, hk, yj8, h', hb]
theorem lead_ok (p : Nat) : zh5 [.int (p : Int)] = .ok (.int (leadP p)) := by
 have st : zf3 1 [.int (p : Int)] = [some (.val (.int (p : Int)))] := rfl
 unfold zh5 zA6 leadP
 rw [zf5, st]
 simp only [ze7, zc5, eC_ap, zb4, zb7, zr4, List.getElem?_cons_zero, zc1, Rs.bind_ok, Fl.of_ok, zd8, min2_i, zR1, negI_i]
 congr 3
 split <;> split <;> omega
theorem link_ok (r p : Nat) : zj0 [.int (r : Int), .int (p : Int)] = .ok (.int (linkP r p)) := by
 have st : zf3 3 [.int (r : Int), .int (p : Int)] = [some (.val (.int (r : Int))), some (.val (.int (p : Int))), none] := rfl
 unfold zj0 zA5 linkP
 rw [zf5, st]
 by_cases h : (p : Int) - r - 1 = 0
 ·have h' : ((p : Int) - r - 1 == 0) = true := by simpa using h
  rw [if_pos h]
  simp only [ze0, zf0, zi1, ze7, ze2, tB_ap, zg1, zc5, eC_ap, List.getElem?_cons_zero, List.getElem?_cons_succ, List.set_cons_succ, List.set_cons_zero, zc1, Rs.bind_ok, Fl.of_ok, zg5, zL0, zd8, zd9, zp1, eqD_i, if_true, h']
 ·have h' : ((p : Int) - r - 1 == 0) = false := by simpa using h
  rw [if_neg h]
  simp only [ze0, zf0, zi1, ze7, ze2, tB_ap, zg1, zc5, eC_ap, zb4, zb7, zr4, List.getElem?_cons_zero, List.getElem?_cons_succ, List.set_cons_succ, List.set_cons_zero, zc1, Rs.bind_ok, Fl.of_ok, zg5, zd8, zd9, zp1, eqD_i, Bool.false_eq_true, if_false, h', min2_i, zR1, negI_i]
  congr 3
  split <;> split <;> omega
end Law
set_option Elab.async false
set_option linter.all false
set_option maxHeartbeats 1000000
namespace FD
open PySem PySem.Spec PyProof.Rows L2
theorem rg3_ok {fs : FA} {τ : DS} {i j : Int} (h : fs τ = .ok [.int i, .int j, .int (-1)]) (h1 : -(2 ^ 62) ≤ i) (h2 : i < 2 ^ 62) (h3 : -(2 ^ 62) ≤ j) (h4 : j < 2 ^ 62) : iRg3 fs τ = .ok (rngDn i (i - j).toNat) := by
 unfold iRg3
 rw [h]
 simp only [Rs.bind_ok, int3d]
 rw [if_pos ⟨⟨h1, h2⟩, h3, h4⟩]
end FD
namespace Law
open PySem PySem.Spec PyProof.Rows L2 FD
def zM4 : FS := (sIf (tOrD (FD.tB (eOp isD (eVar 1) (eC .non))) (FD.tB (eOp gtD (eOp ixD (eVar 2) (eC (.int 0))) (eOp ixD (eVar 1) (eC (.int 0)))))) (sSet 1 (eVar 2)) sNext)
theorem is_non : isD .non .non = .ok (.bl true) := rfl
theorem is_tl (t : Tl) : isD (tlD t) .non = .ok (.bl false) := rfl
theorem zU6 : zz6 .non .non = .ok (.bl false) := rfl
theorem yc2 (t : Tl) : zz6 (tlD t) .non = .ok (.bl true) := rfl
theorem zY7 (z : D) : ∀ (ts : List Tl) (c : Option Tl) (s : Option Sl), ∃ s', loopD (gNm 2) zM4 (ts.map tlD) [some (.val z), some (.val (optD c)), s] = .nx [some (.val z), some (.val (optD (fmost ts c))), s']
 | [], c, s => ⟨s, rfl⟩
 | t :: ts, none, s => by
  obtain ⟨s', ih⟩ := zY7 z ts (some t) (some (.val (tlD t)))
  refine ⟨s', ?_⟩
  have : zM4 [some (.val z), some (.val (optD none)), some (.val (tlD t))] = .nx [some (.val z), some (.val (optD (some t))), some (.val (tlD t))] := by
   unfold zM4 optD
   simp only [zf0, zi1, ze2, tB_ap, zC4, zg1, zc5, eC_ap, List.getElem?_cons_zero, List.getElem?_cons_succ, List.set_cons_succ, List.set_cons_zero, zc1, Rs.bind_ok, Fl.of_ok, zd9, if_true, is_non]
  rw [List.map_cons, loopD, zs7, Fl.of_ok]
  simp only [List.set_cons_succ, List.set_cons_zero, this]
  rw [ih]
  rfl
 | t :: ts, some c, s => by
  obtain ⟨s', ih⟩ := zY7 z ts (some (if c.1 < t.1 then t else c)) (some (.val (tlD t)))
  refine ⟨s', ?_⟩
  have : zM4 [some (.val z), some (.val (optD (some c))), some (.val (tlD t))] = .nx [some (.val z), some (.val (optD (some (if c.1 < t.1 then t else c)))), some (.val (tlD t))] := by
   unfold zM4 optD
   by_cases h : c.1 < t.1
   ·rw [if_pos h]
    simp only [zf0, zi1, ze2, tB_ap, zC4, zg1, zc5, eC_ap, List.getElem?_cons_zero, List.getElem?_cons_succ, List.set_cons_succ, List.set_cons_zero, zc1, Rs.bind_ok, Fl.of_ok, zd9, gtD_i, if_true, Bool.false_eq_true, if_false, is_tl, tl_0, h, decide_true]
   ·rw [if_neg h]
    simp only [zf0, zi1, ze2, tB_ap, zC4, zg1, zc5, eC_ap, List.getElem?_cons_zero, List.getElem?_cons_succ, List.set_cons_succ, List.set_cons_zero, zc1, Rs.bind_ok, Fl.of_ok, zd9, gtD_i, Bool.false_eq_true, if_false, is_tl, tl_0, h, decide_false]
  rw [List.map_cons, loopD, zs7, Fl.of_ok]
  simp only [List.set_cons_succ, List.set_cons_zero, this]
  rw [ih]
  rfl
theorem fm_ok (ts : List Tl) : zd0 [.lst (ts.map tlD)] = .ok (optD (fmost ts none)) := by
 have st : zf3 3 [.lst (ts.map tlD)] = [some (.val (.lst (ts.map tlD))), none, none] := rfl
 obtain ⟨s', h⟩ := zY7 (.lst (ts.map tlD)) ts none none
 unfold zM4 at h
 unfold zd0 zv7
 rw [zf5, st]
 simp only [optD] at h
 simp only [ze0, zf0, ze7, zn5, zQ6, iter_lst, zc5, eC_ap, List.getElem?_cons_zero, List.getElem?_cons_succ, List.set_cons_succ, List.set_cons_zero, zc1, Rs.bind_ok, Fl.of_ok, zg5, zd8, h]
 rfl
theorem size2 : ∀ a b : D, ([a, b] : List D).length ≤ sizeLine := fun a b => by rw [zd7]; exact Nat.le_of_ble_eq_true rfl
theorem size1 : ∀ a : D, ([a] : List D).length ≤ sizeLine := fun a => by rw [zd7]; exact Nat.le_of_ble_eq_true rfl
theorem tup2 {fa fb : FE} {τ : DS} {a b : D} (h1 : fa τ = .ok a) (h2 : fb τ = .ok b) : eTup (aCons fa (aCons fb aNil)) τ = .ok (.tup [a, b]) := by
 rw [yn7, zb7, h1, Rs.bind_ok, zb7, h2, Rs.bind_ok, zb4, Rs.bind_ok, Rs.bind_ok, Rs.bind_ok]
 exact if_pos (size2 a b)
theorem lst1e {fa : FE} {τ : DS} {a : D} (h1 : fa τ = .ok a) : eLst (aCons fa aNil) τ = .ok (.lst [a]) := by
 rw [zY9, zb7, h1, Rs.bind_ok, zb4, Rs.bind_ok, Rs.bind_ok]
 exact if_pos (size1 a)
theorem call1 {f : List D → Rs D} {fa : FE} {τ : DS} {a d : D} (h1 : fa τ = .ok a) (h : f [a] = .ok d) : eCall f (aCons fa aNil) τ = .ok d := by
 rw [zg4, zb7, h1, Rs.bind_ok, zb4, Rs.bind_ok, Rs.bind_ok, h]; rfl
theorem call2 {f : List D → Rs D} {fa fb : FE} {τ : DS} {a b d : D} (h1 : fa τ = .ok a) (h2 : fb τ = .ok b) (h : f [a, b] = .ok d) : eCall f (aCons fa (aCons fb aNil)) τ = .ok d := by
 rw [zg4, zb7, h1, Rs.bind_ok, zb7, h2, Rs.bind_ok, zb4, Rs.bind_ok, Rs.bind_ok, Rs.bind_ok, h]; rfl
theorem call3 {f : List D → Rs D} {fa fb fc : FE} {τ : DS} {a b c d : D} (h1 : fa τ = .ok a) (h2 : fb τ = .ok b) (h3 : fc τ = .ok c) (h : f [a, b, c] = .ok d) : eCall f (aCons fa (aCons fb (aCons fc aNil))) τ = .ok d := by
 rw [zg4, zb7, h1, Rs.bind_ok, zb7, h2, Rs.bind_ok, zb7, h3, Rs.bind_ok, zb4, Rs.bind_ok, Rs.bind_ok, Rs.bind_ok, Rs.bind_ok, h]; rfl
theorem op2 {op : D → D → Rs D} {fa fb : FE} {τ : DS} {a b : D} {r : Rs D} (h1 : fa τ = .ok a) (h2 : fb τ = .ok b) (h : op a b = r) : eOp op fa fb τ = r := by
 rw [zg1, h1, Rs.bind_ok, h2, Rs.bind_ok, h]
theorem za7 {n : Nat} {τ : DS} {d : D} (h : τ[n]? = some (some (.val d))) : eVar n τ = .ok d := by rw [zc5, h]; rfl
theorem zx8 {k : Nat} {idx : List Nat} {fi : FA} {set : FG} {ft : FT} {fe : FE} {τ : DS} {ds xs : List D} (h1 : fi τ = .ok ds) (h2 : compL set ft fe (tau0 k idx τ) ds = .ok xs) (h3 : xs.length ≤ 1000) : eComp k idx fi set ft fe τ = .ok xs := by
 unfold eComp
 rw [h1, Rs.bind_ok, h2]
 exact if_pos (by rw [zd7]; omega)
theorem tru_ok {fe : FE} {τ : DS} {b : Bool} (h : fe τ = .ok (.bl b)) : tTru fe τ = .ok b := by rw [zu6, h]; rfl
theorem tB_ok {fe : FE} {τ : DS} {b : Bool} (h : fe τ = .ok (.bl b)) : FD.tB fe τ = .ok b := by rw [tB_ap, h]; rfl
theorem zC5 {fa : FE} {τ : DS} {n : Nat} (h : fa τ = .ok (.int (n : Int))) (hn : n ≤ 1000) : iRg1 (aCons fa aNil) τ = .ok ((List.range n).map fun (k : Nat) => D.int (0 + k)) := by
 rw [ya3 (j := (n : Int)) (by rw [zb7, h, Rs.bind_ok, zb4, Rs.bind_ok]) (by omega) (by omega), Int.toNat_natCast]; rfl
theorem blt1 {g : List D → Rs D} {fa : FE} {τ : DS} {a d : D} (h1 : fa τ = .ok a) (h : g [a] = .ok d) : eBlt g (aCons fa aNil) τ = .ok d := by
 rw [zr4, zb7, h1, Rs.bind_ok, zb4, Rs.bind_ok, Rs.bind_ok, h]
theorem zQ4 (a : Nat) (x : List Nat) (ha : a < 128) (hx : x.length ≤ 1000) : ze3 [signD a, tx x] = .ok (.lst ((lastT a x).map tlD)) := by
 have st : zf3 2 [signD a, tx x] = [some (.val (signD a)), some (.val (tx x))] := rfl
 have cf := zt8 (set := gNm 0) (ft := (tTru (eCall zo0 (aCons (eVar 1) (aCons (eOp ixD (eVar 2) (eVar 0)) aNil))))) (fe := (eTup (aCons (eCall zf6 (aCons (eVar 1) (aCons (eVar 2) (aCons (eVar 0) aNil)))) (aCons (eLst (aCons (eVar 0) aNil)) aNil)))) (τ := [none, some (.val (signD a)), some (.val (tx x))])
  (fun (k : Nat) => D.int (0 + k)) (fun (p : Nat) => tlD (ownP a x p, [p])) (fun p => meetC a (x.getD p 0)) (List.range x.length) fun p hp => by
   have hp := List.mem_range.mp hp
   refine ⟨[some (.val (.int (p : Int))), some (.val (signD a)), some (.val (tx x))], by rw [Int.zero_add]; rfl, ?_, ?_⟩
   ·exact tru_ok (call2 (za7 rfl) (op2 (za7 rfl) (za7 rfl) (tx_at x p hp hx)) (zQ1 a _ ha))
   ·exact tup2 (call3 (za7 rfl) (za7 rfl) (za7 rfl) (own_ok a x p hx hp)) (lst1e (za7 rfl))
 have hlen : (((List.range x.length).filter fun p => meetC a (x.getD p 0)).map fun (p : Nat) => tlD (ownP a x p, [p])).length ≤ 1000 := by
  rw [List.length_map]
  have := List.length_filter_le (fun p => meetC a (x.getD p 0)) (List.range x.length)
  rw [List.length_range] at this; omega
 have ec := zx8 (k := 1) (idx := [0, 1]) (fi := iRg1 (aCons (eBlt lenD (aCons (eVar 1) aNil)) aNil)) (τ := [some (.val (signD a)), some (.val (tx x))]) (zC5 (blt1 (za7 rfl) (zu4 x hx)) hx) cf hlen
 unfold ze3 zs8
 rw [zf5, st, ze7]
 simp only [ec, Rs.bind_ok, Fl.of_ok, zd8]
 unfold lastT
 rw [List.map_map]
 rfl
theorem ym1 (p : Nat) (ts : List Tl) (hs : ts.length ≤ 1000) (hn : ∀ t ∈ ts, 0 < t.2.length) : zg6 [.int (p : Int), .lst (ts.map tlD)] = .ok (.lst ((linkT p ts).map tlD)) := by
 have st : zf3 2 [.int (p : Int), .lst (ts.map tlD)] = [some (.val (.int (p : Int))), some (.val (.lst (ts.map tlD)))] := rfl
 have cf := zt8 (set := gNm 0) (ft := (FD.tB (eOp gtD (eOp ixD (eOp ixD (eVar 0) (eC (.int 1))) (eC (.int 0))) (eVar 1)))) (fe := (eTup (aCons (eOp addD (eOp ixD (eVar 0) (eC (.int 0))) (eCall zj0 (aCons (eVar 1) (aCons (eOp ixD (eOp ixD (eVar 0) (eC (.int 1))) (eC (.int 0))) aNil)))) (aCons (eOp ixD (eVar 0) (eC (.int 1))) aNil)))) (τ := [none, some (.val (.int (p : Int)))])
  tlD (fun t => tlD (t.1 + linkP p (t.2.getD 0 0), t.2)) (fun t => decide (p < t.2.getD 0 0)) ts fun t ht => by
   refine ⟨[some (.val (tlD t)), some (.val (.int (p : Int)))], rfl, ?_, ?_⟩
   ·have := zX8 t.2 (hn t ht)
    refine tB_ok (op2 (op2 (op2 (za7 rfl) rfl (tl_1 t)) rfl this) (za7 rfl) ?_)
    rw [gtD_i]
    congr 2
    exact decide_eq_decide.mpr (by omega)
   ·have := zX8 t.2 (hn t ht)
    exact tup2 (op2 (op2 (za7 rfl) rfl (tl_0 t)) (call2 (za7 rfl) (op2 (op2 (za7 rfl) rfl (tl_1 t)) rfl this) (link_ok p _)) (zi5)) (op2 (za7 rfl) rfl (tl_1 t))
 have hlen : ((ts.filter fun t => decide (p < t.2.getD 0 0)).map fun t => tlD (t.1 + linkP p (t.2.getD 0 0), t.2)).length ≤ 1000 := by
  rw [List.length_map]
  have := List.length_filter_le (fun t : Tl => decide (p < t.2.getD 0 0)) ts
  omega
 have it : iAny (eVar 1) [some (.val (.int (p : Int))), some (.val (.lst (ts.map tlD)))] = .ok (ts.map tlD) := rfl
 have ec := zx8 (k := 1) (idx := [0]) (τ := [some (.val (.int (p : Int))), some (.val (.lst (ts.map tlD)))]) it cf hlen
 unfold zg6 zx4
 rw [zf5, st, ze7]
 simp only [ec, Rs.bind_ok, Fl.of_ok, zd8]
 unfold linkT
 rw [List.map_map]
 rfl
def zM0 : FS := (sIf (tTru (eCall zo0 (aCons (eVar 0) (aCons (eOp ixD (eVar 1) (eVar 4)) aNil)))) (sSeq (sSet 5 (eCall zd0 (aCons (eCall zg6 (aCons (eVar 4) (aCons (eVar 2) aNil))) aNil)))
  (sIf (FD.tB (eOp zz6 (eVar 5) (eC .non))) (sApp 3 (eTup (aCons (eOp addD (eCall zf6 (aCons (eVar 0) (aCons (eVar 1) (aCons (eVar 4) aNil)))) (eOp ixD (eVar 5) (eC (.int 0)))) (aCons (eOp addD (eLst (aCons (eVar 4) aNil)) (eOp ixD (eVar 5) (eC (.int 1)))) aNil)))) sNext)) sNext)
theorem yo4 (p : Nat) (l : List Nat) (h : l.length ≤ 1000) : addD (.lst [.int (p : Int)]) (nts l) = .ok (nts (p :: l)) := by
 show (if _ then Rs.ok (D.lst _) else Rs.no) = _
 rw [if_pos (by rw [zd7, List.length_map, List.length_singleton]; omega)]
 rfl
theorem link_len (p : Nat) (ts : List Tl) : ∀ t, fmost (linkT p ts) none = some t → ∃ u ∈ ts, t.2 = u.2 := fun t h => by
 rcases zA0 _ _ _ h with g | g
 ·simp only [linkT, List.mem_map, List.mem_filter] at g
  obtain ⟨u, ⟨g1, _⟩, rfl⟩ := g
  exact ⟨u, g1, rfl⟩
 ·cases g
theorem lg_step (a : Nat) (x : List Nat) (ts acc : List Tl) (p : Nat) (s5 : Option Sl) (ha : a < 128) (hx : x.length ≤ 1000) (hs : ts.length ≤ 1000) (hn : ∀ t ∈ ts, 0 < t.2.length ∧ t.2.length ≤ 1000) (hp : p < x.length) (hc : acc.length ≤ 1000) :
  ∃ s', zM0 [some (.val (signD a)), some (.val (tx x)), some (.val (.lst (ts.map tlD))), some (.own (acc.map tlD)), some (.val (.int (p : Int))), s5] = .nx [some (.val (signD a)), some (.val (tx x)), some (.val (.lst (ts.map tlD))), some (.own ((acc ++ (longF a x ts p).toList).map tlD)), some (.val (.int (p : Int))), s'] := by
 have hm := zQ1 a (x.getD p 0) ha
 have hlk := ym1 p ts hs fun t ht => (hn t ht).1
 have hfm := fm_ok (linkT p ts)
 have how := own_ok a x p hx hp
 have hix := tx_at x p hp hx
 have hsz : (acc.map tlD).length < sizeLine := by rw [zd7, List.length_map]; omega
 unfold zM0 longF
 generalize zo0 = fa at hm ⊢
 generalize zg6 = fb at hlk ⊢
 generalize zd0 = fc at hfm ⊢
 generalize zf6 = fd at how ⊢
 by_cases h : meetC a (x.getD p 0) = true
 ·rw [if_pos h]
  rw [h] at hm
  cases e : fmost (linkT p ts) none with
  | none =>
   rw [e] at hfm
   refine ⟨some (.val .non), ?_⟩
   simp only [ze0, zf0, zi1, ze2, zt2, tB_ap, zu6, zg1, zc5, eC_ap, zb4, zb7, zg4, List.getElem?_cons_zero, List.getElem?_cons_succ, List.set_cons_succ, List.set_cons_zero, zc1, zj2, Rs.bind_ok, Fl.of_ok, zg5, zm5, zd9, zt0, if_true, Bool.false_eq_true, if_false, hix, hm, hlk, hfm, optD, zU6, Option.map_none, Option.toList_none, List.append_nil]
  | some t =>
   rw [e] at hfm
   obtain ⟨u, u1, u2⟩ := link_len p ts t e
   have hct := yo4 p t.2 (by rw [u2]; exact (hn u u1).2)
   refine ⟨some (.val (tlD t)), ?_⟩
   have tp : eTup (aCons (eOp addD (eCall fd (aCons (eVar 0) (aCons (eVar 1) (aCons (eVar 4) aNil)))) (eOp ixD (eVar 5) (eC (.int 0)))) (aCons (eOp addD (eLst (aCons (eVar 4) aNil)) (eOp ixD (eVar 5) (eC (.int 1)))) aNil)) [some (.val (signD a)), some (.val (tx x)), some (.val (.lst (ts.map tlD))), some (.own (acc.map tlD)), some (.val (.int (p : Int))), some (.val (tlD t))] = .ok (tlD (ownP a x p + t.1, p :: t.2)) :=
    tup2 (op2 (call3 (za7 rfl) (za7 rfl) (za7 rfl) how) (op2 (za7 rfl) rfl (tl_0 t)) zi5) (op2 (lst1e (za7 rfl)) (op2 (za7 rfl) rfl (tl_1 t)) hct)
   simp only [ze0, zf0, zi1, ze2, zt2, tB_ap, zu6, zg1, zc5, eC_ap, zb4, zb7, zg4, List.getElem?_cons_zero, List.getElem?_cons_succ, List.set_cons_succ, List.set_cons_zero, zc1, zj2, Rs.bind_ok, Fl.of_ok, zg5, zm5, zd9, zt0, if_true, hix, hm, hlk, hfm, optD, yc2, tp, hsz, Option.map_some, Option.toList_some, List.map_append, List.map_cons, List.map_nil]
 ·have h' : meetC a (x.getD p 0) = false := by simpa using h
  rw [h'] at hm
  rw [if_neg h]
  refine ⟨s5, ?_⟩
  simp only [ze0, zf0, zi1, ze2, zu6, zg1, zc5, zb4, zb7, zg4, List.getElem?_cons_zero, List.getElem?_cons_succ, List.set_cons_succ, List.set_cons_zero, zc1, Rs.bind_ok, Fl.of_ok, zm5, zt0, Bool.false_eq_true, if_false, hix, hm, Option.toList_none, List.append_nil]
theorem zK9 (f : Nat → Option Tl) (k : Nat) : (List.range (k + 1)).filterMap f = (List.range k).filterMap f ++ (f k).toList := by
 rw [List.range_succ, List.filterMap_append]
 simp only [List.filterMap_cons, List.filterMap_nil]
 cases h : f k <;> rfl
theorem zU4 (f : Nat → Option Tl) (k : Nat) : ((List.range k).filterMap f).length ≤ k := by
 have := List.length_filterMap_le f (List.range k)
 rwa [List.length_range] at this
theorem lg_loop (a : Nat) (x : List Nat) (ts : List Tl) (ha : a < 128) (hx : x.length ≤ 1000) (hs : ts.length ≤ 1000) (hn : ∀ t ∈ ts, 0 < t.2.length ∧ t.2.length ≤ 1000) :
  ∃ s4 s5, loopD (gNm 4) zM0 ((List.range x.length).map fun (k : Nat) => D.int (0 + k)) [some (.val (signD a)), some (.val (tx x)), some (.val (.lst (ts.map tlD))), some (.own []), none, none] = .nx [some (.val (signD a)), some (.val (tx x)), some (.val (.lst (ts.map tlD))), some (.own ((longT a x ts).map tlD)), s4, s5] := by
 obtain ⟨τ', h1, s4, s5, h2⟩ := zo1 (set := gNm 4) (body := zM0) (fun (k : Nat) => D.int (0 + k)) (fun k τ => ∃ s4 s5, τ = [some (.val (signD a)), some (.val (tx x)), some (.val (.lst (ts.map tlD))), some (.own (((List.range k).filterMap (longF a x ts)).map tlD)), s4, s5]) x.length
  [some (.val (signD a)), some (.val (tx x)), some (.val (.lst (ts.map tlD))), some (.own []), none, none] ⟨_, _, rfl⟩ fun k τ hk ⟨s4, s5, e⟩ => by
   subst e
   obtain ⟨s', g⟩ := lg_step a x ts ((List.range k).filterMap (longF a x ts)) k s5 ha hx hs hn hk (by have := zU4 (longF a x ts) k; omega)
   have e0 : (0 : Int) + (k : Int) = (k : Int) := by omega
   rw [zK9]
   exact ⟨_, _, by rw [e0]; exact zs7, g, _, _, rfl⟩
 subst h2
 exact ⟨s4, s5, h1⟩
theorem gen_lg (bd : FS) (ri : FA) (A B C : D) (n : Nat) (P : List D) (s4 s5 : Option Sl) (r1 : ri [some (.val A), some (.val B), some (.val C), some (.own []), none, none] = .ok ((List.range n).map fun (k : Nat) => D.int (0 + k)))
  (h1 : loopD (gNm 4) bd ((List.range n).map fun (k : Nat) => D.int (0 + k)) [some (.val A), some (.val B), some (.val C), some (.own []), none, none] = .nx [some (.val A), some (.val B), some (.val C), some (.own P), s4, s5]) :
  runF 6 (sSeq (sSetO 3 (fun τ => (aNil τ).bind fun ds => if ds.length ≤ sizeLine then .ok ds else .no)) (sSeq (sFor ri (gNm 4) bd) (sRetO 3))) [A, B, C] = .ok (.lst P) := by
 have st : zf3 6 [A, B, C] = [some (.val A), some (.val B), some (.val C), none, none, none] := rfl
 rw [zf5, st]
 simp only [ze0, zp9, zr5, zr6, zn5, zb4, List.getElem?_cons_zero, List.getElem?_cons_succ, List.set_cons_succ, List.set_cons_zero, zj2, Rs.bind_ok, Fl.of_ok, zg5, zd8, if_true, List.length_nil, Nat.zero_le, r1, h1]
theorem longer_b : zs1 = (sSeq (sSetO 3 (fun τ => (aNil τ).bind fun ds => if ds.length ≤ sizeLine then .ok ds else .no)) (sSeq (sFor (iRg1 (aCons (eBlt lenD (aCons (eVar 1) aNil)) aNil)) (gNm 4) zM0) (sRetO 3))) := by unfold zs1 zM0; rfl
theorem yl9 (a : Nat) (x : List Nat) (ts : List Tl) (ha : a < 128) (hx : x.length ≤ 1000) (hs : ts.length ≤ 1000) (hn : ∀ t ∈ ts, 0 < t.2.length ∧ t.2.length ≤ 1000) : zi0 [signD a, tx x, .lst (ts.map tlD)] = .ok (.lst ((longT a x ts).map tlD)) := by
 obtain ⟨s4, s5, h1⟩ := lg_loop a x ts ha hx hs hn
 unfold zi0
 rw [longer_b]
 exact gen_lg _ _ _ _ _ x.length _ _ _ (zC5 (blt1 (za7 rfl) (zu4 x hx)) hx) h1
theorem zS1 (x : List Nat) : ∀ q : List Nat, (zj7 q x).length ≤ x.length
 | [] => by simp [zj7]
 | [a] => by
  simp only [zj7, lastT, List.length_map]
  have := List.length_filter_le (fun p => meetC a (x.getD p 0)) (List.range x.length)
  rwa [List.length_range] at this
 | a :: b :: q => by simp only [zj7, longT]; exact zU4 _ _
theorem zZ9 (q x : List Nat) (hq : q ≠ []) (hl : q.length ≤ 1000) : ∀ t ∈ zj7 q x, 0 < t.2.length ∧ t.2.length ≤ 1000 := fun t ht => by
 have := (zF4 x q t ht).1.len
 have : 0 < q.length := List.length_pos_iff.mpr hq
 omega
def zV6 : FS := (sSet 2 (eCall zi0 (aCons (eOp ixD (eVar 0) (eVar 3)) (aCons (eVar 1) (aCons (eVar 2) aNil)))))
theorem bs_loop (q x : List Nat) (m : Nat) (hm : q.length = m + 1) (hq : q.length ≤ 1000) (hx : x.length ≤ 1000) (ha : ∀ c ∈ q, c < 128) :
  ∃ s, loopD (gNm 3) zV6 (rngDn ((m : Int) - 1) m) [some (.val (tx q)), some (.val (tx x)), some (.val (.lst ((zj7 (q.drop m) x).map tlD))), none] = .nx [some (.val (tx q)), some (.val (tx x)), some (.val (.lst ((zj7 q x).map tlD))), s] := by
 obtain ⟨τ', h1, s, h2⟩ := zo1 (set := gNm 3) (body := zV6) (fun (k : Nat) => D.int ((m : Int) - 1 - k)) (fun k τ => ∃ s, τ = [some (.val (tx q)), some (.val (tx x)), some (.val (.lst ((zj7 (q.drop (m - k)) x).map tlD))), s]) m
  [some (.val (tx q)), some (.val (tx x)), some (.val (.lst ((zj7 (q.drop m) x).map tlD))), none] ⟨_, rfl⟩ fun k τ hk ⟨s, e⟩ => by
   subst e
   obtain ⟨j, hj⟩ : ∃ j, m = j + 1 + k := ⟨m - 1 - k, by omega⟩
   have e0 : (m : Int) - 1 - (k : Int) = (j : Int) := by omega
   have d1 : q.drop (m - k) = q.drop (j + 1) := by congr 1; omega
   have d2 : q.drop (m - (k + 1)) = q.drop j := by congr 1; omega
   have hjq : j < q.length := by omega
   have hne : q.drop (j + 1) ≠ [] := fun h => by
    have := congrArg List.length h
    rw [List.length_drop] at this; simp at this; omega
   have hlg := yl9 (q.getD j 0) x (zj7 (q.drop (j + 1)) x) (ha _ (List.mem_of_getElem? (zE9 q j hjq))) hx (by have := zS1 x (q.drop (j + 1)); omega) (zZ9 _ x hne (by rw [List.length_drop]; omega))
   have ht : longT (q.getD j 0) x (zj7 (q.drop (j + 1)) x) = zj7 (q.drop j) x := by
    have e1 : q.drop j = q.getD j 0 :: q.drop (j + 1) := by
     rw [List.drop_eq_getElem_cons hjq, List.getD_eq_getElem?_getD, List.getElem?_eq_getElem hjq]; rfl
    rw [e1]
    cases e2 : q.drop (j + 1) with
    | nil => exact absurd e2 hne
    | cons b r => rfl
   rw [ht] at hlg
   rw [d1, d2]
   refine ⟨[some (.val (tx q)), some (.val (tx x)), some (.val (.lst ((zj7 (q.drop (j + 1)) x).map tlD))), some (.val (.int (j : Int)))], [some (.val (tx q)), some (.val (tx x)), some (.val (.lst ((zj7 (q.drop j) x).map tlD))), some (.val (.int (j : Int)))], by rw [e0]; rfl, ?_, _, rfl⟩
   unfold zV6
   rw [zf0, call3 (op2 (za7 rfl) (za7 rfl) (tx_at q j hjq hq)) (za7 rfl) (za7 rfl) hlg, Fl.of_ok]
   rfl
 subst h2
 refine ⟨s, ?_⟩
 rw [Nat.sub_self, List.drop_zero] at h1
 exact h1
def ldE : FE := (fun τ => ((eComp 1 [] (iAny (eVar 2)) (gNm 0) (fun _ => .ok true) (eTup (aCons (eOp addD (eOp ixD (eVar 0) (eC (.int 0))) (eCall zh5 (aCons (eOp ixD (eOp ixD (eVar 0) (eC (.int 1))) (eC (.int 0))) aNil))) (aCons (eOp ixD (eVar 0) (eC (.int 1))) aNil)))) τ).bind fun ds => .ok (.lst ds))
theorem ld_ok (A B : D) (ts : List Tl) (s : Option Sl) (hs : ts.length ≤ 1000) (hn : ∀ t ∈ ts, 0 < t.2.length) : ldE [some (.val A), some (.val B), some (.val (.lst (ts.map tlD))), s] = .ok (.lst ((ts.map leadT).map tlD)) := by
 have cf := zA2 (set := gNm 0) (fe := (eTup (aCons (eOp addD (eOp ixD (eVar 0) (eC (.int 0))) (eCall zh5 (aCons (eOp ixD (eOp ixD (eVar 0) (eC (.int 1))) (eC (.int 0))) aNil))) (aCons (eOp ixD (eVar 0) (eC (.int 1))) aNil)))) (τ := [none]) tlD tlD leadT ts fun t ht => by
   refine ⟨[some (.val (tlD t))], rfl, ?_⟩
   have := zX8 t.2 (hn t ht)
   exact tup2 (op2 (op2 (za7 rfl) rfl (tl_0 t)) (call1 (op2 (op2 (za7 rfl) rfl (tl_1 t)) rfl this) (lead_ok _)) zi5) (op2 (za7 rfl) rfl (tl_1 t))
 have it : iAny (eVar 2) [some (.val A), some (.val B), some (.val (.lst (ts.map tlD))), s] = .ok (ts.map tlD) := rfl
 have ec := zx8 (k := 1) (idx := []) (τ := [some (.val A), some (.val B), some (.val (.lst (ts.map tlD))), s]) it cf (by simpa using hs)
 unfold ldE
 simp only [ec, Rs.bind_ok]
theorem best_b : yo9 = (sSeq (sIf (FD.tB (eOp eqD (eBlt lenD (aCons (eVar 0) aNil)) (eC (.int 0)))) (sRet (eTup (aCons (eC (.int 0)) (aCons (eLst aNil) aNil)))) sNext)
  (sSeq (sSet 2 (eCall ze3 (aCons (eOp ixD (eVar 0) (eNeg (eC (.int 1)))) (aCons (eVar 1) aNil))))
  (sSeq (sFor (iRg3 (aCons (eOp subD (eBlt lenD (aCons (eVar 0) aNil)) (eC (.int 2))) (aCons (eNeg (eC (.int 1))) (aCons (eNeg (eC (.int 1))) aNil)))) (gNm 3) zV6)
  (sRet (eCall zd0 (aCons ldE aNil)))))) := by unfold yo9 zV6 ldE; rfl
theorem neg_ix (q : List Nat) (m : Nat) (hm : q.length = m + 1) (hq : q.length ≤ 1000) : ixD (tx q) (.int (-1)) = .ok (signD (q.getD m 0)) := by
 refine zQ5 ?_ (by rw [mk_len, zd7]; omega)
 have e : ixN q.length (-1) = some m := by
  unfold ixN
  rw [if_neg (by omega), if_pos (by omega)]
  congr 1; omega
 unfold atI
 show (ixN q.length (-1)).bind _ = _
 rw [e]
 exact zE9 q m (by omega)
theorem bs_r3 (q x : List Nat) (T : D) (m : Nat) (hm : q.length = m + 1) (hq : q.length ≤ 1000) : iRg3 (aCons (eOp subD (eBlt lenD (aCons (eVar 0) aNil)) (eC (.int 2))) (aCons (eNeg (eC (.int 1))) (aCons (eNeg (eC (.int 1))) aNil))) [some (.val (tx q)), some (.val (tx x)), some (.val T), none] = .ok (rngDn ((m : Int) - 1) m) := by
 have a1 : eOp subD (eBlt lenD (aCons (eVar 0) aNil)) (eC (.int 2)) [some (.val (tx q)), some (.val (tx x)), some (.val T), none] = .ok (.int ((m : Int) - 1)) := by
  refine op2 (blt1 (za7 rfl) (zu4 q hq)) rfl ?_
  rw [zp1]; congr 2; omega
 have a2 : ∀ τ, eNeg (eC (.int 1)) τ = .ok (.int (-1)) := fun τ => rfl
 have r3 := rg3_ok (fs := aCons (eOp subD (eBlt lenD (aCons (eVar 0) aNil)) (eC (.int 2))) (aCons (eNeg (eC (.int 1))) (aCons (eNeg (eC (.int 1))) aNil))) (τ := [some (.val (tx q)), some (.val (tx x)), some (.val T), none]) (i := (m : Int) - 1) (j := -1)
  (by rw [zb7, a1, Rs.bind_ok, zb7, a2, Rs.bind_ok, zb7, a2, Rs.bind_ok, zb4, Rs.bind_ok, Rs.bind_ok, Rs.bind_ok]) (by omega) (by omega) (by omega) (by omega)
 rw [r3]
 congr 2
 omega
theorem gen_bs (g1 : FT) (g2 : FS) (e1 e2 : FE) (r3 : FA) (bd : FS) (A B T T' R : D) (L : List D) (s : Option Sl) (h0 : g1 [some (.val A), some (.val B), none, none] = .ok false) (h1 : e1 [some (.val A), some (.val B), none, none] = .ok T) (h2 : r3 [some (.val A), some (.val B), some (.val T), none] = .ok L) (h3 : loopD (gNm 3) bd L [some (.val A), some (.val B), some (.val T), none] = .nx [some (.val A), some (.val B), some (.val T'), s]) (h4 : e2 [some (.val A), some (.val B), some (.val T'), s] = .ok R) :
  runF 4 (sSeq (sIf g1 g2 sNext) (sSeq (sSet 2 e1) (sSeq (sFor r3 (gNm 3) bd) (sRet e2)))) [A, B] = .ok R := by
 have st : zf3 4 [A, B] = [some (.val A), some (.val B), none, none] := rfl
 rw [zf5, st]
 simp only [ze0, zf0, zi1, ze7, ze2, zn5, List.set_cons_succ, List.set_cons_zero, Fl.of_ok, zg5, zd8, Bool.false_eq_true, if_false, h0, h1, h2, h3, h4]
theorem best_ok (q x : List Nat) (hne : q ≠ []) (hq : q.length ≤ 1000) (hx : x.length ≤ 1000) (ha : ∀ c ∈ q, c < 128) : zx3 [tx q, tx x] = .ok (optD (bestR q x)) := by
 have hpos : 0 < q.length := List.length_pos_iff.mpr hne
 obtain ⟨m, hm⟩ : ∃ m, q.length = m + 1 := ⟨q.length - 1, by omega⟩
 obtain ⟨s, hl⟩ := bs_loop q x m hm hq hx ha
 have hmem : q.getD m 0 ∈ q := List.mem_of_getElem? (zE9 q m (by omega))
 have d : zj7 (q.drop m) x = lastT (q.getD m 0) x := by
  have e1 : q.drop m = [q.getD m 0] := by
   rw [List.drop_eq_getElem_cons (by omega), List.getD_eq_getElem?_getD, List.getElem?_eq_getElem (by omega : m < q.length), List.drop_eq_nil_of_le (by omega)]; rfl
  rw [e1]; rfl
 rw [d] at hl
 have h0 : FD.tB (eOp eqD (eBlt lenD (aCons (eVar 0) aNil)) (eC (.int 0))) [some (.val (tx q)), some (.val (tx x)), none, none] = .ok false := by
  refine tB_ok (op2 (blt1 (za7 rfl) (zu4 q hq)) rfl ?_)
  rw [eqD_i]
  congr 2
  simp; exact hne
 have h1 : eCall ze3 (aCons (eOp ixD (eVar 0) (eNeg (eC (.int 1)))) (aCons (eVar 1) aNil)) [some (.val (tx q)), some (.val (tx x)), none, none] = .ok (.lst ((lastT (q.getD m 0) x).map tlD)) :=
  call2 (op2 (za7 rfl) rfl (neg_ix q m hm hq)) (za7 rfl) (zQ4 _ x (ha _ hmem) hx)
 have h4 : eCall zd0 (aCons ldE aNil) [some (.val (tx q)), some (.val (tx x)), some (.val (.lst ((zj7 q x).map tlD))), s] = .ok (optD (bestR q x)) :=
  call1 (ld_ok _ _ _ _ (by have := zS1 x q; omega) fun t ht => (zZ9 q x hne hq t ht).1) (fm_ok _)
 unfold zx3
 rw [best_b]
 exact gen_bs _ _ _ _ _ _ _ _ _ _ _ _ _ h0 h1 (bs_r3 q x _ m hm hq) hl h4
abbrev hd0 (t : Tl) : Nat := t.2.getD 0 0
def Srt (ts : List Tl) : Prop := ts.Pairwise fun a b => hd0 a < hd0 b
def bestA (q x : List Nat) : Option Tl := if q = [] then some (0, []) else bestR q x
end Law
set_option Elab.async false
set_option linter.all false
set_option maxHeartbeats 1000000
namespace FD
open PySem PySem.Spec PyProof.Rows L2
theorem sl_ok {fe : FE} {fl fh : FO} {τ : DS} {d r : D} {l u : Option Int} (h1 : fe τ = .ok d) (h2 : fl τ = .ok l) (h3 : fh τ = .ok u) (h : slD d l u = .ok r) : eSl fe fl fh τ = .ok r := by
 rw [eSl_ap, h1, Rs.bind_ok, h2, Rs.bind_ok, h3, Rs.bind_ok, h]
theorem or_tr {f g : FT} {τ : DS} {b : Bool} (h1 : f τ = .ok false) (h2 : g τ = .ok b) : tOrD f g τ = .ok b := by rw [zC4, h1, Rs.bind_ok, if_neg (by simp), h2]
end FD
namespace Law
open PySem PySem.Spec PyProof.Rows L2 FD
theorem nilE {τ : DS} : eLst aNil τ = .ok (.lst []) := by
 rw [zY9, zb4, Rs.bind_ok]; exact if_pos (Nat.zero_le _)
theorem abest_ok (q x : List Nat) (hq : q.length ≤ 1000) (hx : x.length ≤ 1000) (ha : ∀ c ∈ q, c < 128) : zx3 [tx q, tx x] = .ok (optD (bestA q x)) := by
 by_cases z : q = []
 ·subst z
  have st : zf3 4 [tx [], tx x] = [some (.val (tx [])), some (.val (tx x)), none, none] := rfl
  have hl := zu4 [] (by simp)
  have hg : FD.tB (eOp eqD (eBlt lenD (aCons (eVar 0) aNil)) (eC (.int 0))) [some (.val (tx [])), some (.val (tx x)), none, none] = .ok true := tB_ok (op2 (blt1 (za7 rfl) hl) rfl rfl)
  have he : eTup (aCons (eC (.int 0)) (aCons (eLst aNil) aNil)) [some (.val (tx [])), some (.val (tx x)), none, none] = .ok (.tup [.int 0, .lst []]) := tup2 rfl nilE
  unfold zx3
  rw [best_b, zf5, st, ze0, zi1, hg, Fl.of_ok, if_pos rfl, ze7, he]
  rfl
 ·have := best_ok q x z hq hx ha
  rw [this]
  unfold bestA
  rw [if_neg z]
theorem yn2 (fc : FA) (g : FT) (fx : FE) (A B C : D) (L : List D) (b : Bool) (d : D) (h1 : fc [some (.val A), some (.val B), some (.val C), none] = .ok L) (h2 : g [some (.val A), some (.val B), some (.val C), some (.own L)] = .ok b)
  (h3 : b = true → fx [some (.val A), some (.val B), some (.val C), some (.own L)] = .ok d ∧ 0 < L.length) :
  runF 4 (sSeq (sSetO 3 fc) (sSeq (sIf g (sPut 3 (eC (.int 0)) fx) sNext) (sRetO 3))) [A, B, C] = .ok (.lst (if b = true then L.set 0 d else L)) := by
 have st : zf3 4 [A, B, C] = [some (.val A), some (.val B), some (.val C), none] := rfl
 rw [zf5, st]
 cases b with
 | false => simp only [ze0, zp9, zi1, zr5, zr6, ze2, zW8, eC_ap, List.getElem?_cons_zero, List.getElem?_cons_succ, List.set_cons_succ, List.set_cons_zero, zj2, Fl.of_ok, zg5, zd8, Bool.false_eq_true, if_false, h1, h2, zp9, zr5, zr6, zj2, Bool.false_eq_true, if_false]
 | true =>
  obtain ⟨h3, h4⟩ := h3 rfl
  have hp := putAt_ok (n := 3) (τ := [some (.val A), some (.val B), some (.val C), some (.own L)]) (d := d) (j := 0) h4
  have e0 : (((0 : Nat) : Int)) = 0 := rfl
  rw [e0] at hp
  simp only [ze0, zp9, zi1, zr5, zr6, ze2, zW8, eC_ap, List.getElem?_cons_zero, List.getElem?_cons_succ, List.set_cons_succ, List.set_cons_zero, zj2, Fl.of_ok, zg5, zd8, if_true, h1, h2, h3, zp9, zr5, zr6, zj2, zW8, hp]
theorem namesb : zv9 = (sSeq (sSetO 3 (eComp 1 [0, 1] (iRg1 (aCons (eCall zb0 (aCons (eVar 0) (aCons (eVar 1) (aCons (eOp addD (eVar 2) (eC (.int 1))) aNil)))) aNil)) (gNm 0) (fun _ => .ok true) (eCall zk8 (aCons (eVar 1) (aCons (eOp addD (eOp addD (eVar 2) (eC (.int 1))) (eOp mulD (eC (.int 12)) (eVar 0))) aNil)))))
  (sSeq (sIf (tAndD (FD.tB (eOp gtD (eLenO 3) (eC (.int 1)))) (FD.tB (eOp eqD (eCall zb0 (aCons (eVar 0) (aCons (eOp addD (eVar 1) (eC (.int 12))) (aCons (eC (.int 5)) aNil)))) (eC (.int 0))))) (sPut 3 (eC (.int 0)) (eIxO 3 (eNeg (eC (.int 1))))) sNext)
  (sRetO 3))) := by unfold zv9; rfl
def NmOk (x : List Nat) : Prop := 0 < x.length ∧ x.length ≤ 10 ∧ ∀ c ∈ x, c ∈ NS
theorem nameL_ok (ns : List Int) (a : Int) (h0 : 0 ≤ a) : NmOk (nameL ns a (nameN ns a)) := by
 have d := zp6 ns a (m := 10) (by decide)
 have hl : (nameL ns a (nameN ns a)).length = (1 + drawZ ns a 10).toNat := by simp [nameL, nameN]
 refine ⟨by rw [hl]; omega, by rw [hl]; omega, fun c hc => ?_⟩
 obtain ⟨k, _, rfl⟩ := List.mem_map.mp hc
 exact yk8 ns a k (by omega)
theorem and_b {f g : FT} {τ : DS} {b c : Bool} (h1 : f τ = .ok b) (h2 : b = true → g τ = .ok c) : tAndD f g τ = .ok (b && c) := by
 rw [zr9, h1, Rs.bind_ok]
 cases b with
 | false => rfl
 | true => rw [if_pos rfl, h2 rfl]; rfl
theorem names_ok (ns : List Int) (a most : Int) (h63 : ns.length ≤ 63) (h0 : 0 ≤ a) (ha : a < 800000) (hm0 : 0 ≤ most) (hm1 : most < 50) :
  ∃ X : List (List Nat), zi7 [.scr ns, .int a, .int most] = .ok (.lst (X.map tx)) ∧ (X.length : Int) ≤ most ∧ ∀ x ∈ X, NmOk x := by
 have dl := zp6 ns a (m := most + 1) (by omega)
 have dk := zo9 ns a (most + 1) h63 h0 (by omega) (by omega)
 have dk2 := zo9 ns (a + 12) 5 h63 (by omega) (by omega) (by decide)
 generalize hN : drawZ ns a (most + 1) = N at *
 generalize drawZ ns (a + 12) 5 = M at *
 have cf := zA2 (set := gNm 0) (fe := (eCall zk8 (aCons (eVar 1) (aCons (eOp addD (eOp addD (eVar 2) (eC (.int 1))) (eOp mulD (eC (.int 12)) (eVar 0))) aNil)))) (τ := [none, some (.val (.scr ns)), some (.val (.int a))]) (fun (k : Nat) => D.int (0 + k)) tx
  (fun k => nameL ns (a + 1 + 12 * (k : Int)) (nameN ns (a + 1 + 12 * (k : Int)))) (List.range N.toNat) fun k hk => by
   have hk := List.mem_range.mp hk
   refine ⟨[some (.val (.int (k : Int))), some (.val (.scr ns)), some (.val (.int a))], by rw [Int.zero_add]; rfl, ?_⟩
   exact call2 (za7 rfl) (op2 (op2 (za7 rfl) rfl zi5) (op2 rfl (za7 rfl) (zv3 (by omega))) zi5) (name_ok ns _ h63 (by omega) (by omega))
 have it : iRg1 (aCons (eCall zb0 (aCons (eVar 0) (aCons (eVar 1) (aCons (eOp addD (eVar 2) (eC (.int 1))) aNil)))) aNil) [some (.val (.scr ns)), some (.val (.int a)), some (.val (.int most)), none] = .ok ((List.range N.toNat).map fun (k : Nat) => D.int (0 + k)) :=
  zC5 (n := N.toNat) (by rw [Int.toNat_of_nonneg dl.1]; exact call3 (za7 rfl) (za7 rfl) (op2 (za7 rfl) rfl zi5) dk) (by omega)
 have ec := zx8 (k := 1) (idx := [0, 1]) it cf (by simp; omega)
 generalize hX0 : (List.range N.toNat).map (fun (k : Nat) => nameL ns (a + 1 + 12 * (k : Int)) (nameN ns (a + 1 + 12 * (k : Int)))) = X0 at ec cf
 have l0 : X0.length = N.toNat := by rw [← hX0]; simp
 have ok0 : ∀ x ∈ X0, NmOk x := fun x hx => by
  rw [← hX0] at hx
  obtain ⟨k, _, rfl⟩ := List.mem_map.mp hx
  exact nameL_ok ns _ (by omega)
 have hg : tAndD (FD.tB (eOp gtD (eLenO 3) (eC (.int 1)))) (FD.tB (eOp eqD (eCall zb0 (aCons (eVar 0) (aCons (eOp addD (eVar 1) (eC (.int 12))) (aCons (eC (.int 5)) aNil)))) (eC (.int 0)))) [some (.val (.scr ns)), some (.val (.int a)), some (.val (.int most)), some (.own (X0.map tx))] = .ok (decide (1 < (X0.length : Int)) && (M == 0)) :=
  and_b (tB_ok (op2 (a := .int (X0.length : Int)) (by rw [zF0]; show Rs.ok (D.int ((X0.map tx).length : Int)) = _; rw [List.length_map]) rfl gtD_i)) fun _ => tB_ok (op2 (call3 (za7 rfl) (op2 (za7 rfl) rfl zi5) rfl dk2) rfl eqD_i)
 have hne : (decide (1 < (X0.length : Int)) && (M == 0)) = true → 0 < X0.length := fun h => by
  rw [Bool.and_eq_true, decide_eq_true_eq] at h; omega
 have e := yn2 _ _ (eIxO 3 (eNeg (eC (.int 1)))) (.scr ns) (.int a) (.int most) (X0.map tx) _ (tx (X0.getD (X0.length - 1) [])) ec hg fun h => by
  have hp := hne h
  refine ⟨?_, by rw [List.length_map]; exact hp⟩
  rw [eIxO_ap]
  show (Rs.ok (X0.map tx)).bind (fun ds => (eNeg (eC (.int 1)) _).bind (ixO ds)) = _
  rw [Rs.bind_ok, zR1, eC_ap, Rs.bind_ok]
  show (Rs.ok (D.int (-1))).bind _ = _
  rw [Rs.bind_ok]
  unfold ixO
  have : atI (X0.map tx) (-1) = some (tx (X0.getD (X0.length - 1) [])) := by
   have e : ixN (X0.map tx).length (-1) = some (X0.length - 1) := by
    unfold ixN
    rw [List.length_map, if_neg (by omega), if_pos (by omega)]
    congr 1; omega
   unfold atI
   rw [e]
   show (X0.map tx)[X0.length - 1]? = _
   rw [List.getElem?_map, List.getElem?_eq_getElem (by omega)]
   simp [show X0.length - 1 < X0.length by omega]
  simp only [this]
 unfold zi7
 rw [namesb, e]
 cases hb : (decide (1 < (X0.length : Int)) && (M == 0)) with
 | false => exact ⟨X0, by rw [if_neg (by simp)], by omega, ok0⟩
 | true =>
  have hp := hne hb
  refine ⟨X0.set 0 (X0.getD (X0.length - 1) []), by rw [if_pos rfl, List.map_set], by rw [List.length_set]; omega, fun x hx => ?_⟩
  rcases List.mem_or_eq_of_mem_set hx with h | h
  ·exact ok0 x h
  ·rw [h]
   have : X0.getD (X0.length - 1) [] = X0[X0.length - 1]'(by omega) := by simp [show X0.length - 1 < X0.length by omega]
   rw [this]
   exact ok0 _ (List.getElem_mem _)
theorem yc6 {α β : Type} (f : α → β) (x : List Int × α) : ∀ l : List (List Int × α), insK (x.1, f x.2) (l.map fun p => (p.1, f p.2)) = (insK x l).map fun p => (p.1, f p.2)
 | [] => rfl
 | y :: r => by
  rw [List.map_cons, insK, insK]
  split
  ·rfl
  ·rw [yc6 f x r]; rfl
theorem zS4 {α β : Type} (f : α → β) : ∀ l : List (List Int × α), sortK (l.map fun p => (p.1, f p.2)) = (sortK l).map fun p => (p.1, f p.2)
 | [] => rfl
 | x :: r => by rw [List.map_cons, sortK, sortK, zS4 f r, yc6]
def srtBy {α : Type} (key : α → List Int) (rs : List α) : List α := (sortK (rs.map fun r => (key r, r))).map (·.2)
theorem srtBy_D {α : Type} (key : α → List Int) (f : α → D) (rs : List α) : (sortK ((rs.map key).zip (rs.map f))).map (·.2) = (srtBy key rs).map f := by
 have e : (rs.map key).zip (rs.map f) = (rs.map fun r => (key r, r)).map fun p => (p.1, f p.2) := by
  induction rs with
  | nil => rfl
  | cons r rs ih => simp only [List.map_cons, List.zip_cons_cons, ih]
 rw [e, zS4]
 unfold srtBy
 rw [List.map_map, List.map_map]; rfl
theorem yd3 {α : Type} (key : α → List Int) (rs : List α) : (srtBy key rs).Perm rs := by
 have := (zw5 (rs.map fun r => (key r, r))).map (·.2)
 rw [List.map_map] at this
 have e : rs.map ((fun p : List Int × α => p.2) ∘ fun r => (key r, r)) = rs := by
  rw [show ((fun p : List Int × α => p.2) ∘ fun r => (key r, r)) = id from rfl, List.map_id]
 rw [e] at this
 exact this
def kD (k : List Int) : D := .tup (k.map D.int)
theorem zU7 : ∀ k : List Int, intsD (k.map D.int) = some k
 | [] => rfl
 | i :: k => by
  show (intsD (k.map D.int)).map (i :: ·) = _
  rw [zU7 k]; rfl
theorem keyD_k (k : List Int) : keyD (kD k) = some k := zU7 k
theorem zU5 {α : Type} (key : α → List Int) : ∀ rs : List α, keysD (rs.map fun r => kD (key r)) = some (rs.map key)
 | [] => rfl
 | r :: rs => by rw [List.map_cons, keysD, keyD_k, zU5 key rs]; rfl
theorem yd7 {α : Type} (key : α → List Int) (f : α → D) (rs : List α) (h64 : rs.length < 64) (nd : (rs.map key).Nodup) (ne : ∀ r, key r ≠ []) : zL1 (rs.map fun r => kD (key r)) (rs.map f) = .ok (.lst ((srtBy key rs).map f)) := by
 unfold zL1
 rw [zU5]
 simp only
 rw [if_pos ⟨by simpa using h64, nd, fun k hk => by obtain ⟨r, _, rfl⟩ := List.mem_map.mp hk; exact ne r⟩, srtBy_D]
theorem zI3 {α : Type} {idx : List Nat} {fb : FE} {τ : DS} (key : α → List Int) (f : α → D) : ∀ rs : List α, (∀ r ∈ rs, lamD idx fb τ (f r) = .ok (kD (key r))) → zt7 idx fb τ (rs.map f) = .ok (rs.map fun r => kD (key r))
 | [], _ => rfl
 | r :: rs, h => by
  rw [List.map_cons, zt7, h r List.mem_cons_self]
  simp only [zI3 key f rs fun s hs => h s (List.mem_cons_of_mem _ hs), List.map_cons]
theorem yf1 {α : Type} {idx : List Nat} {fe fb : FE} {τ : DS} (key : α → List Int) (f : α → D) (rs : List α) (h : fe τ = .ok (.lst (rs.map f))) (hk : ∀ r ∈ rs, lamD idx fb τ (f r) = .ok (kD (key r))) (h64 : rs.length < 64) (nd : (rs.map key).Nodup) (ne : ∀ r, key r ≠ []) :
  zV3 idx fe fb τ = .ok (.lst ((srtBy key rs).map f)) := by
 unfold zV3
 rw [h, Rs.bind_ok]
 simp only [zI3 key f rs hk]
 exact yd7 key f rs h64 nd ne
abbrev Rw := Int × Nat
def rowD (r : Rw) : D := .tup [.int r.1, .int (r.2 : Int)]
theorem row_0 (r : Rw) : ixD (rowD r) (.int 0) = .ok (.int r.1) := rfl
theorem row_1 (r : Rw) : ixD (rowD r) (.int 1) = .ok (.int (r.2 : Int)) := rfl
theorem zU1 {key : Rw → List Int} (hk : ∀ r s, key r = key s → r.2 = s.2) : ∀ rs : List Rw, (rs.map (·.2)).Nodup → (rs.map key).Nodup
 | [], _ => List.nodup_nil
 | r :: rs, h => by
  rw [List.map_cons, List.nodup_cons] at h ⊢
  refine ⟨fun hm => h.1 ?_, zU1 hk rs h.2⟩
  obtain ⟨s, hs, e⟩ := List.mem_map.mp hm
  exact List.mem_map.mpr ⟨s, hs, hk s r e⟩
def keyO (X : List (List Nat)) (r : Rw) : List Int := [-r.1, ((X.getD r.2 []).length : Int), (r.2 : Int)]
theorem keyO_inj (X : List (List Nat)) (r s : Rw) (h : keyO X r = keyO X s) : r.2 = s.2 := by
 unfold keyO at h
 injection h with h1 h2
 injection h2 with h2 h3
 injection h3 with h3 _
 omega
theorem size3 : ∀ a b c : D, ([a, b, c] : List D).length ≤ sizeLine := fun a b c => by rw [zd7]; exact Nat.le_of_ble_eq_true rfl
theorem tup3 {fa fb fc : FE} {τ : DS} {a b c : D} (h1 : fa τ = .ok a) (h2 : fb τ = .ok b) (h3 : fc τ = .ok c) : eTup (aCons fa (aCons fb (aCons fc aNil))) τ = .ok (.tup [a, b, c]) := by
 rw [yn7, zb7, h1, Rs.bind_ok, zb7, h2, Rs.bind_ok, zb7, h3, Rs.bind_ok, zb4, Rs.bind_ok, Rs.bind_ok, Rs.bind_ok, Rs.bind_ok]
 exact if_pos (size3 a b c)
theorem neg_ok {fa : FE} {τ : DS} {i : Int} (h : fa τ = .ok (.int i)) : eNeg fa τ = .ok (.int (-i)) := by rw [zR1, h]; rfl
theorem zQ0 (X : List (List Nat)) (i : Nat) (h : i < X.length) : ixD (.lst (X.map tx)) (.int (i : Int)) = .ok (tx (X.getD i [])) := by
 refine zB8 (yp0 ?_)
 rw [List.getElem?_map, List.getElem?_eq_getElem h]
 simp [h]
theorem take_ok (ds : List D) (n : Nat) : slD (.lst ds) none (some (n : Int)) = .ok (.lst (ds.take n)) := by
 have : FD.cutD ds none (some (n : Int)) = ds.take n := by
  have e0 : HT.sIx ds.length 0 none = 0 := rfl
  have e1 : HT.sIx ds.length ds.length (some (n : Int)) = min n ds.length := by
   unfold HT.sIx
   have : ¬ ((n : Int) < 0) := by omega
   simp [this]
  unfold FD.cutD
  rw [e0, e1, List.drop_zero, Nat.sub_zero]
  rcases Nat.le_total n ds.length with z | z
  ·rw [Nat.min_eq_left z]
  ·rw [Nat.min_eq_right z, List.take_length, List.take_of_length_le z]
 show Rs.ok (D.lst (FD.cutD ds none (some (n : Int)))) = _
 rw [this]
theorem order_b : zC1 = (sRet (zV3 [0] (eVar 1) (eTup (aCons (eNeg (eOp ixD (eVar 0) (eC (.int 0)))) (aCons (eBlt lenD (aCons (eOp ixD (eVar 1) (eOp ixD (eVar 0) (eC (.int 1)))) aNil)) (aCons (eOp ixD (eVar 0) (eC (.int 1))) aNil)))))) := by unfold zC1; rfl
structure RsOk (X : List (List Nat)) (rs : List Rw) : Prop where
 few : rs.length < 64
 nd : (rs.map (·.2)).Nodup
 lt : ∀ r ∈ rs, r.2 < X.length
 sz : ∀ x ∈ X, x.length ≤ 1000
theorem zQ7 {X : List (List Nat)} {i : Nat} (h : i < X.length) : X.getD i [] ∈ X := by
 have : X.getD i [] = X[i] := by simp [h]
 rw [this]; exact List.getElem_mem _
theorem order_ok (X : List (List Nat)) (rs : List Rw) (h : RsOk X rs) : zn1 [.lst (X.map tx), .lst (rs.map rowD)] = .ok (.lst ((srtBy (keyO X) rs).map rowD)) := by
 have st : zf3 2 [.lst (X.map tx), .lst (rs.map rowD)] = [some (.val (.lst (X.map tx))), some (.val (.lst (rs.map rowD)))] := rfl
 unfold zn1
 rw [order_b, zf5, st, ze7, yf1 (keyO X) rowD rs (za7 rfl) (fun r hr => ?_) h.few (zU1 (keyO_inj X) rs h.nd) (fun r z => nomatch z)]
 ·rfl
 ·have hlt := h.lt r hr
  have hsz := h.sz _ (zQ7 hlt)
  have : eTup (aCons (eNeg (eOp ixD (eVar 0) (eC (.int 0)))) (aCons (eBlt lenD (aCons (eOp ixD (eVar 1) (eOp ixD (eVar 0) (eC (.int 1)))) aNil)) (aCons (eOp ixD (eVar 0) (eC (.int 1))) aNil))) [some (.val (rowD r)), some (.val (.lst (X.map tx)))] = .ok (kD (keyO X r)) := tup3 (neg_ok (op2 (za7 rfl) rfl (row_0 r))) (blt1 (op2 (za7 rfl) (op2 (za7 rfl) rfl (row_1 r)) (zQ0 X r.2 hlt)) (zu4 _ hsz)) (op2 (za7 rfl) rfl (row_1 r))
  exact this
theorem max2_i (i j : Int) : max2D [.int i, .int j] = .ok (.int (if i < j then j else i)) := rfl
theorem first_b : zv6 = (sRet (eSl (eCall zn1 (aCons (eVar 0) (aCons (eVar 1) aNil))) oNone (oSome (eBlt max2D (aCons (eVar 2) (aCons (eC (.int 0)) aNil)))))) := by unfold zv6; rfl
theorem blt2 {g : List D → Rs D} {fa fb : FE} {τ : DS} {a b d : D} (h1 : fa τ = .ok a) (h2 : fb τ = .ok b) (h : g [a, b] = .ok d) : eBlt g (aCons fa (aCons fb aNil)) τ = .ok d := by
 rw [zr4, zb7, h1, Rs.bind_ok, zb7, h2, Rs.bind_ok, zb4, Rs.bind_ok, Rs.bind_ok, Rs.bind_ok, h]
theorem os_ok' {fa : FE} {τ : DS} {i : Int} (h : fa τ = .ok (.int i)) : oSome fa τ = .ok (some i) := by rw [yb4, h]; rfl
theorem first_ok (X : List (List Nat)) (rs : List Rw) (many : Nat) (h : RsOk X rs) : zi6 [.lst (X.map tx), .lst (rs.map rowD), .int (many : Int)] = .ok (.lst (((srtBy (keyO X) rs).take many).map rowD)) := by
 have st : zf3 3 [.lst (X.map tx), .lst (rs.map rowD), .int (many : Int)] = [some (.val (.lst (X.map tx))), some (.val (.lst (rs.map rowD))), some (.val (.int (many : Int)))] := rfl
 have hm : max2D [.int (many : Int), .int 0] = .ok (.int (many : Int)) := by
  rw [max2_i]; rw [if_neg (by omega)]
 have e : eSl (eCall zn1 (aCons (eVar 0) (aCons (eVar 1) aNil))) oNone (oSome (eBlt max2D (aCons (eVar 2) (aCons (eC (.int 0)) aNil)))) [some (.val (.lst (X.map tx))), some (.val (.lst (rs.map rowD))), some (.val (.int (many : Int)))] = .ok (.lst (((srtBy (keyO X) rs).take many).map rowD)) :=
  sl_ok (call2 (za7 rfl) (za7 rfl) (order_ok X rs h)) rfl (os_ok' (blt2 (za7 rfl) rfl hm)) (by rw [take_ok, List.map_take])
 unfold zi6
 rw [first_b, zf5, st, ze7, e]; rfl
def fr1 (X : List (List Nat)) (q : List Nat) (i : Nat) : Option Rw := (bestA q (X.getD i [])).map fun t => (t.1, i)
def zI9 : FS := (sSeq (sSet 5 (eCall zx3 (aCons (eVar 1) (aCons (eOp ixD (eVar 0) (eVar 4)) aNil))))
  (sIf (FD.tB (eOp zz6 (eVar 5) (eC .non))) (sApp 3 (eTup (aCons (eOp ixD (eVar 5) (eC (.int 0))) (aCons (eVar 4) aNil)))) sNext))
theorem fit_b : zs2 = (sSeq (sSetO 3 (fun τ => (aNil τ).bind fun ds => if ds.length ≤ sizeLine then .ok ds else .no)) (sSeq (sFor (iAny (eVar 2)) (gNm 4) zI9) (sRetO 3))) := by unfold zs2 zI9; rfl
theorem gen_fit0 (e e2 : FE) (a0 a1 a2 a3 a4 a5 : Option Sl) (h : e [a0, a1, a2, a3, a4, a5] = .ok .non) :
  (sSeq (sSet 5 e) (sIf (FD.tB (eOp zz6 (eVar 5) (eC .non))) (sApp 3 e2) sNext)) [a0, a1, a2, a3, a4, a5] = .nx [a0, a1, a2, a3, a4, some (.val .non)] := by
 simp only [ze0, zf0, zi1, ze2, zt2, tB_ap, zg1, zc5, eC_ap, List.getElem?_cons_zero, List.getElem?_cons_succ, List.set_cons_succ, List.set_cons_zero, zc1, Rs.bind_ok, Fl.of_ok, zg5, zd9, Bool.false_eq_true, if_false, h, zU6]
theorem gen_fit1 (e e2 : FE) (a0 a1 a2 a4 a5 : Option Sl) (L : List D) (t : Tl) (R : D) (h : e [a0, a1, a2, some (.own L), a4, a5] = .ok (tlD t)) (h2 : e2 [a0, a1, a2, some (.own L), a4, some (.val (tlD t))] = .ok R) (hl : L.length < sizeLine) :
  (sSeq (sSet 5 e) (sIf (FD.tB (eOp zz6 (eVar 5) (eC .non))) (sApp 3 e2) sNext)) [a0, a1, a2, some (.own L), a4, a5] = .nx [a0, a1, a2, some (.own (L ++ [R])), a4, some (.val (tlD t))] := by
 simp only [ze0, zf0, zi1, ze2, zt2, tB_ap, zg1, zc5, eC_ap, List.getElem?_cons_zero, List.getElem?_cons_succ, List.set_cons_succ, List.set_cons_zero, zc1, zj2, Rs.bind_ok, Fl.of_ok, zg5, zd9, if_true, h, yc2, h2, zt2, zj2]
 rw [if_pos hl]
theorem fit_step (X : List (List Nat)) (q : List Nat) (i : Nat) (a2 a5 : Option Sl) (acc : List Rw) (hi : i < X.length) (hq : q.length ≤ 1000) (hX : ∀ x ∈ X, x.length ≤ 1000) (ha : ∀ c ∈ q, c < 128) (hc : acc.length ≤ 1000) :
  ∃ t5, zI9 [some (.val (.lst (X.map tx))), some (.val (tx q)), a2, some (.own (acc.map rowD)), some (.val (.int (i : Int))), a5] = .nx [some (.val (.lst (X.map tx))), some (.val (tx q)), a2, some (.own ((acc ++ (fr1 X q i).toList).map rowD)), some (.val (.int (i : Int))), t5] := by
 have hb := abest_ok q (X.getD i []) hq (hX _ (zQ7 hi)) ha
 have he : eCall zx3 (aCons (eVar 1) (aCons (eOp ixD (eVar 0) (eVar 4)) aNil)) [some (.val (.lst (X.map tx))), some (.val (tx q)), a2, some (.own (acc.map rowD)), some (.val (.int (i : Int))), a5] = .ok (optD (bestA q (X.getD i []))) :=
  call2 (za7 rfl) (op2 (za7 rfl) (za7 rfl) (zQ0 X i hi)) hb
 unfold zI9 fr1
 cases z : bestA q (X.getD i []) with
 | none =>
  rw [z] at he
  exact ⟨some (.val .non), (gen_fit0 _ _ _ _ _ _ _ _ he).trans (by simp)⟩
 | some t =>
  rw [z] at he
  have h2 : eTup (aCons (eOp ixD (eVar 5) (eC (.int 0))) (aCons (eVar 4) aNil)) [some (.val (.lst (X.map tx))), some (.val (tx q)), a2, some (.own (acc.map rowD)), some (.val (.int (i : Int))), some (.val (tlD t))] = .ok (rowD (t.1, i)) := tup2 (op2 (za7 rfl) rfl (tl_0 t)) (za7 rfl)
  exact ⟨some (.val (tlD t)), (gen_fit1 _ _ _ _ _ _ _ _ t _ he h2 (by rw [zd7, List.length_map]; omega)).trans (by simp)⟩
def fitR (X : List (List Nat)) (q : List Nat) (is : List Nat) : List Rw := is.flatMap fun i => (fr1 X q i).toList
theorem yc8 (X : List (List Nat)) (q : List Nat) (a2 : Option Sl) (hq : q.length ≤ 1000) (hX : ∀ x ∈ X, x.length ≤ 1000) (ha : ∀ c ∈ q, c < 128) : ∀ (is : List Nat) (acc : List Rw) (a4 a5 : Option Sl), (∀ i ∈ is, i < X.length) → acc.length + is.length ≤ 1000 →
  ∃ t4 t5, loopD (gNm 4) zI9 (is.map fun (i : Nat) => D.int i) [some (.val (.lst (X.map tx))), some (.val (tx q)), a2, some (.own (acc.map rowD)), a4, a5] = .nx [some (.val (.lst (X.map tx))), some (.val (tx q)), a2, some (.own ((acc ++ fitR X q is).map rowD)), t4, t5]
 | [], acc, a4, a5, _, _ => ⟨a4, a5, by unfold fitR; simp [loopD]⟩
 | i :: is, acc, a4, a5, hi, hc => by
  rw [List.length_cons] at hc
  obtain ⟨t5, e⟩ := fit_step X q i a2 a5 acc (hi i List.mem_cons_self) hq hX ha (by omega)
  have hl : (acc ++ (fr1 X q i).toList).length + is.length ≤ 1000 := by
   rw [List.length_append]
   have : (fr1 X q i).toList.length ≤ 1 := by cases fr1 X q i <;> simp
   omega
  obtain ⟨u4, u5, ih⟩ := yc8 X q a2 hq hX ha is (acc ++ (fr1 X q i).toList) (some (.val (.int (i : Int)))) t5 (fun j hj => hi j (List.mem_cons_of_mem _ hj)) hl
  refine ⟨u4, u5, ?_⟩
  rw [List.map_cons, loopD, zs7, Fl.of_ok]
  simp only [List.set_cons_succ, List.set_cons_zero, e]
  rw [ih]
  unfold fitR
  rw [List.flatMap_cons, List.append_assoc]
theorem nilO (τ : DS) : (fun τ => (aNil τ).bind fun ds => if ds.length ≤ sizeLine then Rs.ok ds else Rs.no) τ = .ok [] := by
 show (if ([] : List D).length ≤ sizeLine then Rs.ok [] else Rs.no) = _
 exact if_pos (Nat.zero_le sizeLine)
theorem gen_fits (e : FA) (b : FS) (A B C : D) (L R : List D) (t4 t5 : Option Sl) (h0 : e [some (.val A), some (.val B), some (.val C), none, none, none] = .ok []) (hi : iterD C = .ok L)
  (h1 : loopD (gNm 4) b L [some (.val A), some (.val B), some (.val C), some (.own []), none, none] = .nx [some (.val A), some (.val B), some (.val C), some (.own R), t4, t5]) :
  runF 6 (sSeq (sSetO 3 e) (sSeq (sFor (iAny (eVar 2)) (gNm 4) b) (sRetO 3))) [A, B, C] = .ok (.lst R) := by
 have st : zf3 6 [A, B, C] = [some (.val A), some (.val B), some (.val C), none, none, none] := rfl
 rw [zf5, st]
 simp only [ze0, zp9, zr5, zr6, zn5, zQ6, zc5, List.getElem?_cons_zero, List.getElem?_cons_succ, List.set_cons_succ, List.set_cons_zero, zc1, zj2, Rs.bind_ok, Fl.of_ok, zg5, zd8, h0, hi, h1, zp9, zr5, zr6, zj2]
theorem fits_ok (X : List (List Nat)) (q : List Nat) (is : List Nat) (hq : q.length ≤ 1000) (hX : ∀ x ∈ X, x.length ≤ 1000) (ha : ∀ c ∈ q, c < 128) (hi : ∀ i ∈ is, i < X.length) (hl : is.length ≤ 1000) :
  zg7 [.lst (X.map tx), tx q, .lst (is.map fun (i : Nat) => D.int i)] = .ok (.lst ((fitR X q is).map rowD)) := by
 obtain ⟨t4, t5, h⟩ := yc8 X q (some (.val (.lst (is.map fun (i : Nat) => D.int i)))) hq hX ha is [] none none hi (by simpa using hl)
 unfold zg7
 rw [fit_b]
 exact gen_fits _ _ _ _ _ _ _ _ _ (nilO _) rfl (by simpa using h)
theorem zV2 : ∀ rs : List Rw, zt5 (rs.map rowD) = true ∧ PyData.canLayAll0 (toPys (rs.map rowD)) = true ∧ PyData.depthAll (toPys (rs.map rowD)) ≤ 1
 | [] => ⟨rfl, rfl, Nat.zero_le _⟩
 | r :: rs => by
  obtain ⟨h1, h2, h3⟩ := zV2 rs
  refine ⟨by simp [zt5, zn6, rowD, h1], by simp [toPys, toPy, rowD, PyData.canLayAll0, PyData.canLay0, h2], ?_⟩
  simp only [List.map_cons, toPys, toPy, rowD, PyData.depthAll, PyData.depth]
  omega
def abcN : List Nat := [97, 98, 99]
theorem abc_s : ("abc" : Str) = ⟨abcN.toArray⟩ := by decide +kernel
theorem abc_ok : NmOk abcN := ⟨by decide, by decide, by decide⟩
theorem cat_abc (X : List (List Nat)) (h : X.length ≤ 1000) : addD (.lst (X.map tx)) (.lst [.str "abc"]) = .ok (.lst ((X ++ [abcN]).map tx)) := by
 show (if _ then Rs.ok (D.lst _) else Rs.no) = _
 rw [if_pos (by rw [zd7, List.length_map, List.length_singleton]; omega), List.map_append, abc_s]
 rfl
theorem call4' {f : List D → Rs D} {fa fb fc fd : FE} {τ : DS} {a b c d r : D} (h1 : fa τ = .ok a) (h2 : fb τ = .ok b) (h3 : fc τ = .ok c) (h4 : fd τ = .ok d) (h : f [a, b, c, d] = .ok r) : eCall f (aCons fa (aCons fb (aCons fc (aCons fd aNil)))) τ = .ok r := by
 rw [zg4, zb7, h1, Rs.bind_ok, zb7, h2, Rs.bind_ok, zb7, h3, Rs.bind_ok, zb7, h4, Rs.bind_ok, zb4, Rs.bind_ok, Rs.bind_ok, Rs.bind_ok, Rs.bind_ok, Rs.bind_ok, h]; rfl
def allR (X : List (List Nat)) (q : List Nat) : List Rw := fitR X q (List.range X.length)
theorem zR6 (X : List (List Nat)) (q : List Nat) : ∀ is : List Nat, ((fitR X q is).map (·.2)).Sublist is
 | [] => List.Sublist.refl _
 | i :: is => by
  have ih := zR6 X q is
  unfold fitR at ih ⊢
  rw [List.flatMap_cons, List.map_append]
  unfold fr1 at ih ⊢
  cases z : bestA q (X.getD i []) with
  | none => simp; exact List.Sublist.cons _ (by simpa using ih)
  | some t => simp; exact (by simpa using ih)
theorem allR_ok (X : List (List Nat)) (q : List Nat) (hX : ∀ x ∈ X, x.length ≤ 1000) (hl : X.length < 64) : RsOk X (allR X q) := by
 have s := zR6 X q (List.range X.length)
 refine ⟨?_, s.nodup List.nodup_range, fun r hr => ?_, hX⟩
 ·have := s.length_le
  rw [List.length_map, List.length_range] at this
  unfold allR; omega
 ·have := s.mem (List.mem_map.mpr ⟨r, hr, rfl⟩)
  simpa using this
theorem rng_nat (n : Nat) : ((List.range n).map fun (k : Nat) => D.int (0 + k)) = (List.range n).map fun (i : Nat) => D.int i := List.map_congr_left fun k _ => by rw [Int.zero_add]
theorem all_b : zC2 = (sRet (eCall zg7 (aCons (eVar 0) (aCons (eVar 1) (aCons (fun τ => ((lstRg (iRg1 (aCons (eBlt lenD (aCons (eVar 0) aNil)) aNil))) τ).bind fun ds => .ok (.lst ds)) aNil))))) := by unfold zC2; rfl
theorem all_ok (X : List (List Nat)) (q : List Nat) (hq : q.length ≤ 1000) (hX : ∀ x ∈ X, x.length ≤ 1000) (ha : ∀ c ∈ q, c < 128) (hl : X.length < 64) : zn2 [.lst (X.map tx), tx q] = .ok (.lst ((allR X q).map rowD)) := by
 have st : zf3 2 [.lst (X.map tx), tx q] = [some (.val (.lst (X.map tx))), some (.val (tx q))] := rfl
 have r1 : iRg1 (aCons (eBlt lenD (aCons (eVar 0) aNil)) aNil) [some (.val (.lst (X.map tx))), some (.val (tx q))] = .ok ((List.range X.length).map fun (i : Nat) => D.int i) := by
  rw [← rng_nat]
  exact zC5 (blt1 (za7 rfl) (by rw [zq1, List.length_map])) (by omega)
 have e : eCall zg7 (aCons (eVar 0) (aCons (eVar 1) (aCons (fun τ => ((lstRg (iRg1 (aCons (eBlt lenD (aCons (eVar 0) aNil)) aNil))) τ).bind fun ds => .ok (.lst ds)) aNil))) [some (.val (.lst (X.map tx))), some (.val (tx q))] = .ok (.lst ((allR X q).map rowD)) := by
  refine call3 (za7 rfl) (za7 rfl) ?_ (fits_ok X q (List.range X.length) hq hX ha (fun i hi => List.mem_range.mp hi) (by rw [List.length_range]; omega))
  unfold lstRg
  rw [r1, Rs.bind_ok, if_pos (by rw [List.length_map, List.length_range]; omega)]; rfl
 unfold zn2
 rw [all_b, zf5, st, ze7, e]; rfl
theorem finds_b : zZ4 = (sRet (eCall zi6 (aCons (eVar 0) (aCons (eCall zn2 (aCons (eVar 0) (aCons (eVar 1) aNil))) (aCons (eVar 2) aNil))))) := by unfold zZ4; rfl
theorem finds_ok (X : List (List Nat)) (q : List Nat) (many : Nat) (hq : q.length ≤ 1000) (hX : ∀ x ∈ X, x.length ≤ 1000) (ha : ∀ c ∈ q, c < 128) (hl : X.length < 64) : zo6 [.lst (X.map tx), tx q, .int (many : Int)] = .ok (.lst (((srtBy (keyO X) (allR X q)).take many).map rowD)) := by
 have st : zf3 3 [.lst (X.map tx), tx q, .int (many : Int)] = [some (.val (.lst (X.map tx))), some (.val (tx q)), some (.val (.int (many : Int)))] := rfl
 have e : eCall zi6 (aCons (eVar 0) (aCons (eCall zn2 (aCons (eVar 0) (aCons (eVar 1) aNil))) (aCons (eVar 2) aNil))) [some (.val (.lst (X.map tx))), some (.val (tx q)), some (.val (.int (many : Int)))] = .ok (.lst (((srtBy (keyO X) (allR X q)).take many).map rowD)) :=
  call3 (za7 rfl) (call2 (za7 rfl) (za7 rfl) (all_ok X q hq hX ha hl)) (za7 rfl) (first_ok X _ many (allR_ok X q hX hl))
 unfold zo6
 rw [finds_b, zf5, st, ze7, e]; rfl
theorem and_f {f g : FT} {τ : DS} (h1 : f τ = .ok false) : tAndD f g τ = .ok false := by rw [zr9, h1, Rs.bind_ok, if_neg (by simp)]
theorem and_t {f g : FT} {τ : DS} {b : Bool} (h1 : f τ = .ok true) (h2 : g τ = .ok b) : tAndD f g τ = .ok b := by rw [zr9, h1, Rs.bind_ok, if_pos rfl, h2]
theorem zd1 {f g : FS} {τ τ' : DS} (h : f τ = .nx τ') : sSeq f g τ = g τ' := by rw [ze0, h, zg5]
theorem if_f {g : FT} {a b : FS} {τ : DS} (h : g τ = .ok false) : sIf g a b τ = b τ := by rw [zi1, h, Fl.of_ok, if_neg (by simp)]
theorem if_t {g : FT} {a b : FS} {τ : DS} (h : g τ = .ok true) : sIf g a b τ = a τ := by rw [zi1, h, Fl.of_ok, if_pos rfl]
theorem if_n {g : FT} {a : FS} {τ : DS} (h : g τ = .ok false) : sIf g a sNext τ = .nx τ := if_f h
theorem zs4 {i : Nat} {fe : FE} {τ : DS} {d : D} (h : fe τ = .ok d) : sSet i fe τ = .nx (τ.set i (some (.val d))) := by rw [zf0, h, Fl.of_ok]
theorem yh2 {i : Nat} {ff : FA} {τ : DS} {ds : List D} (h : ff τ = .ok ds) : sSetO i ff τ = .nx (τ.set i (some (.own ds))) := by rw [zp9, h, Fl.of_ok]
theorem zC6 {fe : FE} {τ : DS} {d : D} (h : fe τ = .ok d) : sRet fe τ = .rt d := by rw [ze7, h, Fl.of_ok]
theorem zB0 {fe : FE} {τ : DS} {d : D} (h : fe τ = .ok d) : sRetM fe τ = .ro d τ := by unfold sRetM; rw [h, Fl.of_ok]
theorem ob_o {τ : DS} {i n : Nat} {c : Str} {fs : Fs} (h : τ[i]? = some (some (.obj n c fs))) : obAt τ i c = .ok fs := by unfold obAt; rw [h]; exact if_pos rfl
theorem ob_r {τ : DS} {i : Nat} {c : Str} {fs : Fs} (h : τ[i]? = some (some (.obr c fs))) : obAt τ i c = .ok fs := by unfold obAt; rw [h]; exact if_pos rfl
theorem om_o {τ : DS} {i n : Nat} {c : Str} {fs : Fs} (h : τ[i]? = some (some (.obj n c fs))) : omAt τ i c = .ok (n, fs) := by unfold omAt; rw [h]; exact if_pos rfl
theorem at_ok {τ : DS} {i : Nat} {c f : Str} {fs : Fs} {d : D} (h : obAt τ i c = .ok fs) (hf : fldD f fs = some d) : eAt i c f τ = .ok d := by unfold eAt; rw [h, Rs.bind_ok, hf]
theorem ow_ok {τ : DS} {i : Nat} {c f : Str} {fs : Fs} {ds : List D} (h : obAt τ i c = .ok fs) (hf : fldD f fs = some (.lst ds)) : owAt τ i c f = .ok ds := by unfold owAt; rw [h, Rs.bind_ok, hf]
theorem yk0 {τ : DS} {i n : Nat} {c f : Str} {fs : Fs} {ds : List D} (h : τ[i]? = some (some (.obj n c fs))) (hf : fldD f fs = some (.lst ds)) : omO τ i c f = .ok (n, fs, ds) := by unfold omO; rw [om_o h, Rs.bind_ok]; show (match fldD f fs with | some (.lst ds) => Rs.ok (n, fs, ds) | _ => .no) = _; rw [hf]
theorem ro_ok {τ : DS} {i : Nat} {c f : Str} {fs : Fs} {ds : List D} (h : τ[i]? = some (some (.obr c fs))) (hf : fldD f fs = some (.lst ds)) : roAt τ i c f = .ok ds := by unfold roAt; rw [h]; show (if c = c then _ else _) = _; rw [if_pos rfl, hf]
theorem len_A {τ : DS} {i : Nat} {c f : Str} {ds : List D} (h : owAt τ i c f = .ok ds) : eLenA i c f τ = .ok (.int ds.length) := by unfold eLenA; rw [h]; rfl
theorem ix_A {τ : DS} {i : Nat} {c f : Str} {ds : List D} {fi : FE} {k : Int} {d : D} (h : owAt τ i c f = .ok ds) (hi : fi τ = .ok (.int k)) (hd : atI ds k = some d) : eIxA i c f fi τ = .ok d := by unfold eIxA; rw [h, Rs.bind_ok, hi, Rs.bind_ok]; show (match atI ds k with | some d => Rs.ok d | none => .no) = _; rw [hd]
theorem sat_nx {τ : DS} {i n : Nat} {c f : Str} {fs : Fs} {d : D} {fe : FE} (he : fe τ = .ok d) (h : τ[i]? = some (some (.obj n c fs))) (hl : fs.length < 1000) : sAt i c f fe τ = .nx (τ.set i (some (.obj n c (putD f d fs)))) := by
 unfold sAt; rw [he, Fl.of_ok, om_o h, Fl.of_ok]; exact if_pos hl
theorem zF8 {τ : DS} {i n : Nat} {c f : Str} {fs : Fs} {ds : List D} {ff : FA} (he : ff τ = .ok ds) (h : τ[i]? = some (some (.obj n c fs))) (hl : fs.length < 1000) : sAtN i c f ff τ = .nx (τ.set i (some (.obj n c (putD f (.lst ds) fs)))) := by
 unfold sAtN; rw [he, Fl.of_ok, om_o h, Fl.of_ok]; exact if_pos hl
theorem appA_nx {τ : DS} {i n : Nat} {c f : Str} {fs : Fs} {ds : List D} {d : D} {fe : FE} (h : τ[i]? = some (some (.obj n c fs))) (hf : fldD f fs = some (.lst ds)) (he : fe τ = .ok d) (hl : ds.length ≤ 1000) : sAppA i c f fe τ = .nx (τ.set i (some (.obj n c (putD f (.lst (ds ++ [d])) fs)))) := by
 unfold sAppA; rw [yk0 h hf, Fl.of_ok, he, Fl.of_ok]; exact if_pos (by rw [zd7]; show ds.length < _; omega)
theorem zq0 {τ : DS} {i : Nat} {c m : Str} {g : Fs → List D → Rs D} {fa : FA} {o : Fs} {ds : List D} {d : D} (h : obAt τ i c = .ok o) (hm : fldD m o = none) (ha : fa τ = .ok ds) (hg : g o ds = .ok d) : zg9 i c m g fa τ = .ok d := by
 unfold zg9; rw [h, Rs.bind_ok, hm, if_pos (by rfl), ha, Rs.bind_ok, hg]; rfl
theorem zv4 {τ : DS} {i n : Nat} {c m : Str} {g : Fs → List D → Rs (D × Fs)} {fa : FA} {o o' : Fs} {ds : List D} {d : D} (h : τ[i]? = some (some (.obj n c o))) (hm : fldD m o = none) (ha : fa τ = .ok ds) (hg : g o ds = .ok (d, o')) : oMeth i c m g fa τ = .ok (d, τ.set i (some (.obj n c o'))) := by
 unfold oMeth; rw [om_o h, Rs.bind_ok]; show (if (fldD m o).isNone = true then _ else _) = _; rw [hm, if_pos (by rfl), ha, Rs.bind_ok, hg]
theorem zC0 {τ : DS} {i n : Nat} {c : Str} {g : Fs → List D → Rs (D × Fs)} {f1 f2 : FA} {o o' : Fs} {ds1 ds2 : List D} {d : D} (h : τ[i]? = some (some (.obj n c o))) (h1 : f1 τ = .ok ds1) (h2 : f2 τ = .ok ds2) (hg : g o (ds1 ++ ds2) = .ok (d, o')) : oDefM i c g f1 f2 τ = .ok (d, τ.set i (some (.obj n c o'))) := by
 unfold oDefM; rw [om_o h, Rs.bind_ok, h1, Rs.bind_ok, h2, Rs.bind_ok]; show (match g o (ds1 ++ ds2) with | .ok (d, o') => Rs.ok (d, τ.set i (some (Sl.obj n c o'))) | _ => .no) = _; rw [hg]
theorem zJ0 {τ : DS} {i : Nat} {c : Str} {g : Fs → List D → Rs D} {f1 f2 : FA} {o : Fs} {ds1 ds2 : List D} {d : D} (h : obAt τ i c = .ok o) (h1 : f1 τ = .ok ds1) (h2 : f2 τ = .ok ds2) (hg : g o (ds1 ++ ds2) = .ok d) : eDefR i c g f1 f2 τ = .ok d := by
 unfold eDefR; rw [h, Rs.bind_ok, h1, Rs.bind_ok, h2, Rs.bind_ok, hg]; rfl
theorem arg1 {fa : FE} {τ : DS} {a : D} (h : fa τ = .ok a) : aCons fa aNil τ = .ok [a] := by rw [zb7, h, Rs.bind_ok, zb4, Rs.bind_ok]
theorem arg2 {fa fb : FE} {τ : DS} {a b : D} (h : fa τ = .ok a) (h2 : fb τ = .ok b) : aCons fa (aCons fb aNil) τ = .ok [a, b] := by rw [zb7, h, Rs.bind_ok, arg1 h2, Rs.bind_ok]
theorem zq3 {fo : FOb} {τ τ' : DS} {d : D} (h : fo τ = .ok (d, τ')) : zl6 fo τ = .nx τ' := by unfold zl6; rw [h, Fl.of_ok]
theorem setB_nx {i : Nat} {fo : FOb} {τ τ' : DS} {d : D} (h : fo τ = .ok (d, τ')) : sSetB i fo τ = .nx (τ'.set i (some (.val d))) := by unfold sSetB; rw [h, Fl.of_ok]
theorem yl2 {i : Nat} {c : Str} {g : Fs → List D → Rs (D × Fs)} {fa : FA} {τ : DS} {ds : List D} {o : Fs} (ha : fa τ = .ok ds) (hg : g [] ds = .ok (.non, o)) : sMake i c g fa τ = .nx (τ.set i (some (.obj 0 c o))) := by
 unfold sMake; rw [ha, Fl.of_ok, hg]
theorem yf7 {i h_ : Nat} {c m c2 : Str} {g : Fs → List D → Rs Fs} {τ : DS} {o o' : Fs} (h : obAt τ h_ c = .ok o) (hm : fldD m o = none) (hg : g o [] = .ok o') : sTwin i h_ c m c2 g τ = .nx (τ.set i (some (.obj 0 c2 o'))) := by
 unfold sTwin; rw [h, Fl.of_ok, hm, if_pos (by rfl), hg]
theorem yk4 {op : D → D → Rs D} {fo : FOb} {fb : FE} {τ τ' : DS} {a b r : D} (h1 : fo τ = .ok (a, τ')) (h2 : fb τ' = .ok b) (h3 : op a b = .ok r) : oOp op fo fb τ = .ok (r, τ') := by
 unfold oOp; rw [h1, Rs.bind_ok]; show (fb τ').bind _ = _; rw [h2, Rs.bind_ok]; show (op a b).bind _ = _; rw [h3]; rfl
theorem oOp2_ok {op : D → D → Rs D} {fo fb : FOb} {τ τ' τ'' : DS} {a b r : D} (h1 : fo τ = .ok (a, τ')) (h2 : fb τ' = .ok (b, τ'')) (h3 : op a b = .ok r) : oOp2 op fo fb τ = .ok (r, τ'') := by
 unfold oOp2; rw [h1, Rs.bind_ok]; show (fb τ').bind _ = _; rw [h2, Rs.bind_ok]; show (op a b).bind _ = _; rw [h3]; rfl
theorem oB_ok {fo : FOb} {τ τ' : DS} {b : Bool} (h : fo τ = .ok (.bl b, τ')) : oB fo τ = .ok (b, τ') := by unfold oB; rw [h]; rfl
theorem oNot_ok {g : FObT} {τ τ' : DS} {b : Bool} (h : g τ = .ok (b, τ')) : oNotT g τ = .ok (!b, τ') := by unfold oNotT; rw [h]; rfl
theorem zO7 {g : FT} {τ : DS} {b : Bool} (h : g τ = .ok b) : otOf g τ = .ok (b, τ) := by unfold otOf; rw [h]; rfl
theorem oOr_f {ga gb : FObT} {τ τ' τ'' : DS} {b : Bool} (h1 : ga τ = .ok (false, τ')) (h2 : gb τ' = .ok (b, τ'')) : oOrT ga gb τ = .ok (b, τ'') := by
 unfold oOrT; rw [h1, Rs.bind_ok]; show (if false = true then _ else gb τ') = _; rw [if_neg (by simp), h2]
theorem ifO_n {g : FObT} {a : FS} {τ τ' : DS} (h : g τ = .ok (false, τ')) : sIfO g a sNext τ = .nx τ' := by
 unfold sIfO; rw [h, Fl.of_ok]; show (if false = true then _ else sNext τ') = _; rw [if_neg (by simp)]; rfl
def zD1 : FS := (sIf (tAndD (FD.tB (eOp ltI (eLenO 2) (eBlt lenD (aCons (eVar 0) aNil)))) (tTru (eCall zo0 (aCons (eOp ixD (eVar 0) (eLenO 2)) (aCons (eOp ixD (eVar 1) (eVar 3)) aNil))))) (sApp 2 (eVar 3)) sNext)
theorem yn6 (q x : List Nat) (hq : q.length ≤ 1000) (hx : x.length ≤ 1000) (ha : ∀ c ∈ q, c < 128) : ∀ (m k : Nat) (b : List Nat) (s : Option Sl), k + m = x.length → b.length ≤ k →
  ∃ s', loopD (gNm 3) zD1 ((List.range' k m).map fun (k : Nat) => D.int (0 + k)) [some (.val (tx q)), some (.val (tx x)), some (.own (b.map fun (k : Nat) => D.int k)), s]
   = .nx [some (.val (tx q)), some (.val (tx x)), some (.own ((b ++ epR (q.drop b.length) (x.drop k) k).map fun (k : Nat) => D.int k)), s']
 | 0, k, b, s, h, hb => by
  have : x.drop k = [] := List.drop_eq_nil_of_le (by omega)
  rw [this]
  have e : epR (q.drop b.length) [] k = [] := by cases q.drop b.length <;> rfl
  rw [e, List.append_nil]
  exact ⟨s, rfl⟩
 | m + 1, k, b, s, h, hb => by
  have hk : k < x.length := by omega
  have hxk := tx_ix x k x[k] (List.getElem?_eq_getElem hk) hx
  rw [List.range'_succ, List.map_cons, loopD, zs7, Fl.of_ok, List.drop_eq_getElem_cons hk]
  simp only [List.set_cons_succ, List.set_cons_zero, Int.zero_add]
  have ih := fun b' s' h' => yn6 q x hq hx ha m (k + 1) b' s' (by omega) h'
  simp only [Int.zero_add] at ih
  by_cases hl : b.length < q.length
  ·have hqb := tx_ix q b.length q[b.length] (List.getElem?_eq_getElem hl) hq
   have hbz : b.length < sizeLine := by rw [zd7]; omega
   have hmt := zQ1 q[b.length] x[k] (ha _ (List.getElem_mem hl))
   rw [List.drop_eq_getElem_cons hl]
   by_cases hm : meetC q[b.length] x[k] = true
   ·obtain ⟨s', e⟩ := ih (b ++ [k]) (some (.val (.int k))) (by simp; omega)
    refine ⟨s', ?_⟩
    have : zD1 [some (.val (tx q)), some (.val (tx x)), some (.own (b.map fun (k : Nat) => D.int k)), some (.val (.int k))] = .nx [some (.val (tx q)), some (.val (tx x)), some (.own ((b ++ [k]).map fun (k : Nat) => D.int k)), some (.val (.int k))] := by
     unfold zD1
     simp only [zi1, ze2, zt2, zF0, tB_ap, zu6, zr9, zg1, zc5, zb4, zb7, zg4, zr4, List.getElem?_cons_zero, List.getElem?_cons_succ, List.set_cons_succ, List.set_cons_zero, zc1, zj2, Rs.bind_ok, Fl.of_ok, zm5, zd9, zt0, ltI_i, if_true, List.length_map, zu4 q hq, Int.ofNat_lt, hl, decide_true, hqb, hxk, hmt, hm, hbz, List.map_append, List.map_cons, List.map_nil]
    simp only [this]
    rw [e]
    simp only [epR, hm, if_true, List.append_assoc, List.cons_append, List.nil_append, List.length_append, List.length_cons, List.length_nil, Nat.zero_add]
   ·obtain ⟨s', e⟩ := ih b (some (.val (.int k))) (by omega)
    refine ⟨s', ?_⟩
    have hm' : meetC q[b.length] x[k] = false := by simpa using hm
    have : zD1 [some (.val (tx q)), some (.val (tx x)), some (.own (b.map fun (k : Nat) => D.int k)), some (.val (.int k))] = .nx [some (.val (tx q)), some (.val (tx x)), some (.own (b.map fun (k : Nat) => D.int k)), some (.val (.int k))] := by
     unfold zD1
     simp only [zi1, ze2, zt2, zF0, tB_ap, zu6, zr9, zg1, zc5, zb4, zb7, zg4, zr4, List.getElem?_cons_zero, List.getElem?_cons_succ, List.set_cons_succ, List.set_cons_zero, zc1, zj2, Rs.bind_ok, Fl.of_ok, zm5, zd9, zt0, ltI_i, if_true, Bool.false_eq_true, if_false, List.length_map, zu4 q hq, Int.ofNat_lt, hl, decide_true, hqb, hxk, hmt, hm']
    simp only [this]
    rw [e, List.drop_eq_getElem_cons hl]
    simp only [epR, hm', Bool.false_eq_true, if_false]
  ·obtain ⟨s', e⟩ := ih b (some (.val (.int k))) (by omega)
   refine ⟨s', ?_⟩
   have : zD1 [some (.val (tx q)), some (.val (tx x)), some (.own (b.map fun (k : Nat) => D.int k)), some (.val (.int k))] = .nx [some (.val (tx q)), some (.val (tx x)), some (.own (b.map fun (k : Nat) => D.int k)), some (.val (.int k))] := by
    unfold zD1
    simp only [zi1, ze2, zt2, zF0, tB_ap, zu6, zr9, zg1, zc5, zb4, zb7, zg4, zr4, List.getElem?_cons_zero, List.getElem?_cons_succ, List.set_cons_succ, List.set_cons_zero, zc1, zj2, Rs.bind_ok, Fl.of_ok, zd9, ltI_i, Bool.false_eq_true, if_false, List.length_map, zu4 q hq, Int.ofNat_lt, hl, decide_false]
   simp only [this]
   rw [e, List.drop_eq_nil_of_le (by omega : q.length ≤ b.length)]
   simp only [epR]
theorem ep_ok (q x : List Nat) (hq : q.length ≤ 1000) (hx : x.length ≤ 1000) (ha : ∀ c ∈ q, c < 128) : zh0 [tx q, tx x] = .ok (nts (epR q x 0)) := by
 have st : zf3 4 [tx q, tx x] = [some (.val (tx q)), some (.val (tx x)), none, none] := rfl
 obtain ⟨s', e⟩ := yn6 q x hq hx ha x.length 0 [] none (by omega) (Nat.le_refl _)
 unfold zD1 at e
 have r1 := ya3 (fs := aCons (eBlt lenD (aCons (eVar 1) aNil)) aNil) (τ := [some (.val (tx q)), some (.val (tx x)), some (.own []), none]) (j := x.length) (by simp only [zc5, zb4, zb7, zr4, List.getElem?_cons_zero, List.getElem?_cons_succ, zc1, Rs.bind_ok, zu4 x hx]) (by omega) (by omega)
 unfold zh0 zs9
 rw [zf5, st]
 simp only [ze0, zp9, zn5, zb4, List.set_cons_succ, List.set_cons_zero, Rs.bind_ok, Fl.of_ok, zg5, if_true, List.length_nil, Nat.zero_le, r1, rngD, Int.toNat_natCast]
 rw [List.range_eq_range']
 rw [show ([] : List D) = ([] : List Nat).map fun (k : Nat) => D.int k from rfl, e]
 simp only [zr5, zr6, List.getElem?_cons_zero, List.getElem?_cons_succ, zj2, Fl.of_ok, zg5, zd8, List.nil_append, List.length_nil, List.drop_zero]
theorem fits1_ok (q x : List Nat) (hq : q.length ≤ 1000) (hx : x.length ≤ 1000) (ha : ∀ c ∈ q, c < 128) : zC7 [tx q, tx x] = .ok (.bl (subs q x)) := by
 have st : zf3 2 [tx q, tx x] = [some (.val (tx q)), some (.val (tx x))] := rfl
 unfold zC7 b_fits
 rw [zf5, st]
 simp only [ze7, zg1, zc5, zb4, zb7, zg4, zr4, List.getElem?_cons_zero, List.getElem?_cons_succ, zc1, Rs.bind_ok, Fl.of_ok, zd8, zm5, eqD_i, zq1, ep_ok q x hq hx ha, zu4 q hq, List.length_map]
 congr 2
 rw [Bool.eq_iff_iff, ← zR0 q x 0, beq_iff_eq]
 omega
def SR (X : List (List Nat)) (q : List Nat) : List Rw := srtBy (keyO X) (allR X q)
theorem sr_perm (X : List (List Nat)) (q : List Nat) : (SR X q).Perm (allR X q) := yd3 _ _
theorem sr_len (X : List (List Nat)) (q : List Nat) : (SR X q).length ≤ X.length := by
 rw [(sr_perm X q).length_eq]
 have := (zR6 X q (List.range X.length)).length_le
 rw [List.length_map, List.length_range] at this
 unfold allR; exact this
theorem zV1 (X : List (List Nat)) (q : List Nat) (many : Nat) (hm : X.length ≤ many) (hq : q.length ≤ 1000) (hX : ∀ x ∈ X, x.length ≤ 1000) (ha : ∀ c ∈ q, c < 128) (hl : X.length < 64) : zo6 [.lst (X.map tx), tx q, .int (many : Int)] = .ok (.lst ((SR X q).map rowD)) := by
 rw [finds_ok X q many hq hX ha hl]
 have := sr_len X q
 unfold SR at this ⊢
 rw [List.take_of_length_le (by omega)]
def gd : Nat → D → Prop
 | _, .str x => PyData.strOk x = true
 | _, .int _ => True
 | _, .bl _ => True
 | _, .non => True
 | n + 1, .lst ds => ∀ d ∈ ds, gd n d
 | n + 1, .tup ds => ∀ d ∈ ds, gd n d
 | _, _ => False
theorem yn5 {n : Nat} (ih : ∀ d, gd n d → zn6 d = true ∧ (toPy d).canLay0 = true ∧ (toPy d).depth ≤ n ∧ PyData.eqv (toPy d) (toPy d) = true) : ∀ ds : List D, (∀ d ∈ ds, gd n d) → zt5 ds = true ∧ PyData.canLayAll0 (toPys ds) = true ∧ PyData.depthAll (toPys ds) ≤ n ∧ PyData.eqvAll (toPys ds) (toPys ds) = true
 | [], _ => ⟨rfl, rfl, Nat.zero_le _, by simp [toPys, PyData.eqvAll]⟩
 | d :: ds, h => by
  obtain ⟨a1, a2, a3, a4⟩ := ih d (h d List.mem_cons_self)
  obtain ⟨b1, b2, b3, b4⟩ := yn5 ih ds fun e he => h e (List.mem_cons_of_mem _ he)
  refine ⟨by simp [zt5, a1, b1], by simp [toPys, PyData.canLayAll0, a2, b2], ?_, by simp [toPys, PyData.eqvAll, a4, b4]⟩
  simp only [toPys, PyData.depthAll]
  omega
theorem gd_ok : ∀ (n : Nat) (d : D), gd n d → zn6 d = true ∧ (toPy d).canLay0 = true ∧ (toPy d).depth ≤ n ∧ PyData.eqv (toPy d) (toPy d) = true
 | n, .str x, h => ⟨by simp [zn6], by simpa [toPy, PyData.canLay0, gd] using h, by simp [toPy, PyData.depth], by simp [toPy, PyData.eqv]⟩
 | n, .int _, h => ⟨by simp [zn6], by simp [toPy, PyData.canLay0], by simp [toPy, PyData.depth], by simp [toPy, PyData.eqv]⟩
 | n, .bl _, h => ⟨by simp [zn6], by simp [toPy, PyData.canLay0], by simp [toPy, PyData.depth], by simp [toPy, PyData.eqv]⟩
 | n, .non, h => ⟨by simp [zn6], by simp [toPy, PyData.canLay0], by simp [toPy, PyData.depth], by simp [toPy, PyData.eqv]⟩
 | n + 1, .lst ds, h => by
  obtain ⟨b1, b2, b3, b4⟩ := yn5 (gd_ok n) ds (by simpa [gd] using h)
  exact ⟨by simpa [zn6] using b1, by simpa [toPy, PyData.canLay0] using b2, by simpa [toPy, PyData.depth] using b3, by simpa [toPy, PyData.eqv] using b4⟩
 | n + 1, .tup ds, h => by
  obtain ⟨b1, b2, b3, b4⟩ := yn5 (gd_ok n) ds (by simpa [gd] using h)
  exact ⟨by simpa [zn6] using b1, by simpa [toPy, PyData.canLay0] using b2, by simpa [toPy, PyData.depth] using b3, by simpa [toPy, PyData.eqv] using b4⟩
 | 0, .lst ds, h => by simp [gd] at h
 | 0, .tup ds, h => by simp [gd] at h
 | 0, .scr ds, h => by simp [gd] at h
 | 0, .raw ds, h => by simp [gd] at h
 | 0, .exc ds, h => by simp [gd] at h
 | n + 1, .scr ds, h => by simp [gd] at h
 | n + 1, .raw ds, h => by simp [gd] at h
 | n + 1, .exc ds, h => by simp [gd] at h
theorem gd_okD {n : Nat} {d : D} (h : gd n d) (hn : n ≤ 60) : okD d = true ∧ eqvD d d = true := by
 obtain ⟨a, b, c, e⟩ := gd_ok n d h
 refine ⟨?_, e⟩
 have : (toPy d).depth ≤ 60 := by omega
 simp [okD, a, b, this]
theorem yk6 {n : Nat} {ds : List D} (h : gd n (.tup ds)) (hn : n ≤ 60) : neD (.tup ds) (.tup ds) = .ok (.bl false) := by
 obtain ⟨a, b⟩ := gd_okD h hn
 unfold neD
 simp only [a, and_self, if_true, b, Bool.not_true]
theorem eq_tup {n : Nat} {ds : List D} (h : gd n (.tup ds)) (hn : n ≤ 60) : eqD (.tup ds) (.tup ds) = .ok (.bl true) := by
 obtain ⟨a, b⟩ := gd_okD h hn
 unfold eqD
 simp only [a, and_self, if_true, b]
inductive Stp where
 | ask (q : List Nat) | pick (k : Nat)
def kdD : Stp → D
 | .ask _ => .str "ask"
 | .pick _ => .str "pick"
def thD : Stp → D
 | .ask q => tx q
 | .pick k => .int (k : Int)
def stD (s : Stp) : D := .tup [kdD s, thD s]
def okS : Stp → Prop
 | .ask q => q.length ≤ 1000 ∧ ∀ c ∈ q, c < 128
 | .pick _ => True
theorem yn3 {n : Nat} {x : Str} (h : PyData.strOk x = true) : gd n (.str x) := by cases n <;> exact h
theorem gd_tx {n : Nat} {q : List Nat} (h : ∀ c ∈ q, c < 128) : gd n (tx q) := by
 refine yn3 ?_
 simp [PyData.strOk]
 intro c hc
 have := h c hc
 omega
theorem gd_kd {n : Nat} (s : Stp) : gd n (kdD s) := by
 cases s
 ·exact yn3 (by decide +kernel)
 ·exact yn3 (by decide +kernel)
theorem gd_st {n : Nat} {s : Stp} (h : okS s) : gd (n + 1) (stD s) := by
 show ∀ d ∈ [kdD s, thD s], gd n d
 intro d hd
 rcases List.mem_cons.mp hd with rfl | hd
 ·exact gd_kd s
 ·obtain rfl := List.mem_singleton.mp hd
  cases s with
  | ask q => exact gd_tx h.2
  | pick k => cases n <;> exact trivial
def askd (dn : List Stp) : List Nat := match dn.getLast? with
 | some (.ask q) => q
 | _ => []
theorem zZ6 {dn : List Stp} (h : ∀ s ∈ dn, okS s) : (askd dn).length ≤ 1000 ∧ ∀ c ∈ askd dn, c < 128 := by
 unfold askd
 split
 ·rename_i q e
  exact h _ (List.mem_of_getLast? e)
 ·exact ⟨by simp, by simp⟩
def chs : List Stp → List Nat → List (List Nat × Nat)
 | [], _ => []
 | .ask a :: l, _ => chs l a
 | .pick k :: l, q => (q, k) :: chs l []
theorem yo2 : ∀ (l : List Stp) (q : List Nat), (∀ s ∈ l, okS s) → (∀ c ∈ q, c < 128) → ∀ p ∈ chs l q, ∀ c ∈ p.1, c < 128
 | [], _, _, _, p, hp => by cases hp
 | .ask a :: l, q, h, _, p, hp => yo2 l a (fun s hs => h s (List.mem_cons_of_mem _ hs)) (h _ List.mem_cons_self).2 p hp
 | .pick k :: l, q, h, hq, p, hp => by
  rcases List.mem_cons.mp hp with rfl | hp
  ·exact hq
  ·exact yo2 l [] (fun s hs => h s (List.mem_cons_of_mem _ hs)) (by simp) p hp
def pkD (p : List Nat × Nat) : D := .tup [tx p.1, .int (p.2 : Int)]
def nowD (dn : List Stp) : D := .tup [tx (askd dn), .lst ((chs dn []).map pkD), .lst (dn.map stD)]
theorem yn4 {dn : List Stp} (h : ∀ s ∈ dn, okS s) : gd 3 (nowD dn) := by
 show ∀ d ∈ [tx (askd dn), .lst ((chs dn []).map pkD), .lst (dn.map stD)], gd 2 d
 intro d hd
 rcases List.mem_cons.mp hd with rfl | hd
 ·exact gd_tx (zZ6 h).2
 rcases List.mem_cons.mp hd with rfl | hd
 ·intro e he
  obtain ⟨p, hp, rfl⟩ := List.mem_map.mp he
  intro f hf
  rcases List.mem_cons.mp hf with rfl | hf
  ·exact gd_tx (yo2 dn [] h (by simp) p hp)
  ·obtain rfl := List.mem_singleton.mp hf; exact trivial
 ·obtain rfl := List.mem_singleton.mp hd
  intro e he
  obtain ⟨s, hs, rfl⟩ := List.mem_map.mp he
  exact gd_st (h s hs)
def TG (X : List (List Nat)) (dn un : List Stp) : Fs := [("names", .lst (X.map tx)), ("done", .lst (dn.map stD)), ("undone", .lst (un.map stD))]
section
variable (X : List (List Nat)) (dn un : List Stp)
theorem zD8 : fldD "names" (TG X dn un) = some (.lst (X.map tx)) := by unfold TG; rw [fldD, if_pos rfl]
theorem zt1 : fldD "done" (TG X dn un) = some (.lst (dn.map stD)) := by unfold TG; rw [fldD, if_neg (by decide +kernel), fldD, if_pos rfl]
theorem zu5 : fldD "undone" (TG X dn un) = some (.lst (un.map stD)) := by unfold TG; rw [fldD, if_neg (by decide +kernel), fldD, if_neg (by decide +kernel), fldD, if_pos rfl]
theorem zr8 {m : Str} (h1 : ¬ m = "names") (h2 : ¬ m = "done") (h3 : ¬ m = "undone") : fldD m (TG X dn un) = none := by unfold TG; rw [fldD, if_neg h1, fldD, if_neg h2, fldD, if_neg h3]; rfl
theorem yg2 : (TG X dn un).length < 1000 := by show 3 < 1000; decide
theorem zE0 (l : List Stp) : putD "done" (.lst (l.map stD)) (TG X dn un) = TG X l un := by unfold TG; rw [putD, if_neg (by decide +kernel), putD, if_pos rfl]
theorem zw7 (l : List Stp) : putD "undone" (.lst (l.map stD)) (TG X dn un) = TG X dn l := by unfold TG; rw [putD, if_neg (by decide +kernel), putD, if_neg (by decide +kernel), putD, if_pos rfl]
end
theorem zY4 (l : List Stp) (s : Stp) : atI ((l ++ [s]).map stD) (-1) = some (stD s) := by
 unfold atI ixN
 rw [if_neg (by omega), if_pos (by simp; omega)]
 have : (-1 + (((l ++ [s]).map stD).length : Int)).toNat = l.length := by simp; omega
 show ((l ++ [s]).map stD)[(-1 + (((l ++ [s]).map stD).length : Int)).toNat]? = _
 rw [this]
 simp
theorem st_0 (s : Stp) : ixD (stD s) (.int 0) = .ok (kdD s) := rfl
theorem st_1 (s : Stp) : ixD (stD s) (.int 1) = .ok (thD s) := rfl
theorem eq_ask (s : Stp) : eqD (kdD s) (.str "ask") = .ok (.bl (match s with | .ask _ => true | .pick _ => false)) := by
 cases s <;> rfl
theorem eq_pick (s : Stp) : eqD (kdD s) (.str "pick") = .ok (.bl (match s with | .ask _ => false | .pick _ => true)) := by
 cases s <;> rfl
theorem ne_kd (s : Stp) : neD (kdD s) (kdD s) = .ok (.bl false) := by
 cases s <;> rfl
theorem init_b : zp7 = (sSeq (sAt 0 "Trail" "names" (eBlt listD (aCons (eVar 1) aNil)))
  (sSeq (sAtN 0 "Trail" "done" (fun τ => (aNil τ).bind fun ds => if ds.length ≤ sizeLine then .ok ds else .no))
  (sAtN 0 "Trail" "undone" (fun τ => (aNil τ).bind fun ds => if ds.length ≤ sizeLine then .ok ds else .no)))) := by unfold zp7; rfl
theorem yb6 {τ : DS} : (fun τ : DS => (aNil τ).bind fun ds => if ds.length ≤ sizeLine then Rs.ok ds else .no) τ = .ok ([] : List D) := by
 show (aNil τ).bind _ = _
 rw [zb4, Rs.bind_ok]
 exact if_pos (Nat.zero_le _)
def ti1 (X : List (List Nat)) : Fs := [("names", .lst (X.map tx))]
def ti2 (X : List (List Nat)) : Fs := [("names", .lst (X.map tx)), ("done", .lst [])]
theorem ym9 (X : List (List Nat)) : zd6 [] [.lst (X.map tx)] = .ok (.non, TG X [] []) := by
 have st : zj8 (.obj 1 "Trail" []) 0 2 [.lst (X.map tx)] = [some (.obj 1 "Trail" []), some (.val (.lst (X.map tx)))] := rfl
 have p1 : putD "names" (.lst (X.map tx)) [] = (ti1 X) := rfl
 have p2 : putD "done" (.lst []) (ti1 X) = (ti2 X) := by unfold ti1 ti2; rw [putD, if_neg (by decide +kernel), putD]
 have p3 : putD "undone" (.lst []) (ti2 X) = TG X [] [] := by unfold ti2; rw [putD, if_neg (by decide +kernel), putD, if_neg (by decide +kernel), putD]; rfl
 unfold zd6 runM
 rw [init_b, st, zd1 (sat_nx (d := .lst (X.map tx)) (blt1 (za7 rfl) rfl) rfl (by decide)), p1]
 rw [zd1 (zF8 (ds := []) (fs := (ti1 X)) yb6 rfl (show 1 < 1000 by decide)), p2]
 rw [zF8 (ds := []) (fs := (ti2 X)) yb6 rfl (show 2 < 1000 by decide), p3]
 rfl
theorem sizes_b : zu1 = (sRet (eTup (aCons (eLenA 0 "Trail" "done") (aCons (eLenA 0 "Trail" "undone") aNil)))) := by unfold zu1; rfl
theorem zM7 (X : List (List Nat)) (dn un : List Stp) : zc0 (TG X dn un) [] = .ok (.tup [.int (dn.length : Int), .int (un.length : Int)]) := by
 have st : zj8 (.obr "Trail" (TG X dn un)) 0 1 [] = [some (.obr "Trail" (TG X dn un))] := rfl
 unfold zc0 runR
 rw [sizes_b, st, zC6 (tup2 (len_A (ow_ok (ob_r rfl) (zt1 X dn un))) (len_A (ow_ok (ob_r rfl) (zu5 X dn un)))), List.length_map, List.length_map]; rfl
theorem step_b : zw2 = (sSeq (sAppA 0 "Trail" "done" (eTup (aCons (eVar 1) (aCons (eVar 2) aNil))))
  (sAtN 0 "Trail" "undone" (fun τ => (aNil τ).bind fun ds => if ds.length ≤ sizeLine then .ok ds else .no))) := by unfold zw2; rfl
theorem yg7 (X : List (List Nat)) (dn un : List Stp) (s : Stp) (hd : dn.length ≤ 1000) : zh6 (TG X dn un) [kdD s, thD s] = .ok (.non, TG X (dn ++ [s]) []) := by
 have st : zj8 (.obj 1 "Trail" (TG X dn un)) 0 3 [kdD s, thD s] = [some (.obj 1 "Trail" (TG X dn un)), some (.val (kdD s)), some (.val (thD s))] := rfl
 have e : dn.map stD ++ [.tup [kdD s, thD s]] = (dn ++ [s]).map stD := by rw [List.map_append]; rfl
 unfold zh6 runM
 rw [step_b, st, zd1 (appA_nx (fs := TG X dn un) rfl (zt1 X dn un) (tup2 (za7 rfl) (za7 rfl)) (by rw [List.length_map]; exact hd)), e, zE0]
 rw [zF8 (ds := []) (fs := TG X (dn ++ [s]) un) yb6 rfl (yg2 ..), show (.lst [] : D) = .lst (([] : List Stp).map stD) from rfl, zw7]
 rfl
theorem asked_b : zu3 = (sSeq (sIf (tAndD (FD.tB (eOp gtD (eLenA 0 "Trail" "done") (eC (.int 0)))) (FD.tB (eOp eqD (eOp ixD (eIxA 0 "Trail" "done" (eNeg (eC (.int 1)))) (eC (.int 0))) (eC (.str "ask"))))) (sRet (eOp ixD (eIxA 0 "Trail" "done" (eNeg (eC (.int 1)))) (eC (.int 1)))) sNext)
  (sRet (eC (.str "")))) := by unfold zu3; rfl
theorem zR4 (X : List (List Nat)) (dn un : List Stp) : zd4 (TG X dn un) [] = .ok (tx (askd dn)) := by
 have st : zj8 (.obr "Trail" (TG X dn un)) 0 1 [] = [some (.obr "Trail" (TG X dn un))] := rfl
 unfold zd4 runR
 rw [asked_b, st]
 have o := ow_ok (τ := [some (.obr "Trail" (TG X dn un))]) (i := 0) (ob_r rfl) (zt1 X dn un)
 have hl := len_A o
 rw [List.length_map] at hl
 rcases List.eq_nil_or_concat dn with rfl | ⟨l, s, rfl⟩
 ·rw [zd1 (if_n (and_f (tB_ok (op2 hl rfl gtD_i)))), zC6 (d := tx []) rfl]; rfl
 ·rw [List.concat_eq_append] at *
  have la := ix_A (fi := eNeg (eC (.int 1))) o (k := -1) rfl (zY4 l s)
  have c1 : FD.tB (eOp gtD (eLenA 0 "Trail" "done") (eC (.int 0))) [some (.obr "Trail" (TG X (l ++ [s]) un))] = .ok true := by
   refine tB_ok (op2 hl rfl ?_)
   rw [gtD_i]; congr 2; simp
  have c2 := and_t c1 (tB_ok (op2 (op2 (fb := eC (.int 0)) la rfl (st_0 s)) (fb := eC (.str "ask")) rfl (eq_ask s)))
  cases s with
  | ask q =>
   have : askd (l ++ [.ask q]) = q := by unfold askd; rw [List.getLast?_concat]
   rw [this]
   rw [ze0, if_t c2, zC6 (op2 la rfl (st_1 (.ask q)))]; rfl
  | pick k =>
   have : askd (l ++ [.pick k]) = [] := by unfold askd; rw [List.getLast?_concat]
   rw [this, zd1 (if_n c2), zC6 (d := tx []) rfl]; rfl
def zA4 : FS := (sSeq (sIf (FD.tB (eOp eqD (eVar 3) (eC (.str "pick")))) (sApp 1 (eTup (aCons (eVar 2) (aCons (eVar 4) aNil)))) sNext)
  (sSet 2 (eIf (FD.tB (eOp eqD (eVar 3) (eC (.str "ask")))) (eVar 4) (eC (.str "")))))
theorem chosen_b : zs3 = (sSeq (sSetO 1 (fun τ => (aNil τ).bind fun ds => if ds.length ≤ sizeLine then .ok ds else .no))
  (sSeq (sSet 2 (eC (.str "")))
  (sSeq (sForR 0 "Trail" "done" (gPr 3 4) zA4)
  (sRetO 1)))) := by unfold zs3 zA4; rfl
theorem eIf_t {g : FT} {fa fb : FE} {τ : DS} {d : D} (h : g τ = .ok true) (h2 : fa τ = .ok d) : eIf g fa fb τ = .ok d := by unfold eIf; rw [h, Rs.bind_ok, if_pos rfl, h2]
theorem eIf_f {g : FT} {fa fb : FE} {τ : DS} {d : D} (h : g τ = .ok false) (h2 : fb τ = .ok d) : eIf g fa fb τ = .ok d := by unfold eIf; rw [h, Rs.bind_ok, if_neg (by simp), h2]
theorem app_nx {n : Nat} {fe : FE} {τ : DS} {ds : List D} {d : D} (h : τ[n]? = some (some (.own ds))) (he : fe τ = .ok d) (hl : ds.length ≤ 1000) : sApp n fe τ = .nx (τ.set n (some (.own (ds ++ [d])))) := by
 rw [zt2, h]
 show Fl.of (Rs.ok ds) _ = _
 rw [Fl.of_ok, he, Fl.of_ok, if_pos (by rw [zd7]; omega)]
theorem zZ2 (o : Option Sl) : ∀ (l : List Stp) (acc : List (List Nat × Nat)) (q : List Nat) (t3 t4 : Option Sl), acc.length + l.length ≤ 1000 → ∃ a2 a3 a4, loopD (gPr 3 4) zA4 (l.map stD) [o, some (.own (acc.map pkD)), some (.val (tx q)), t3, t4] = .nx [o, some (.own ((acc ++ chs l q).map pkD)), a2, a3, a4]
 | [], acc, q, t3, t4, _ => ⟨_, _, _, by rw [chs, List.append_nil]; rfl⟩
 | s :: l, acc, q, t3, t4, h => by
  have hs : gPr 3 4 (stD s) [o, some (.own (acc.map pkD)), some (.val (tx q)), t3, t4] = .ok [o, some (.own (acc.map pkD)), some (.val (tx q)), some (.val (kdD s)), some (.val (thD s))] := rfl
  have c1 : ∀ A B, FD.tB (eOp eqD (eVar 3) (eC (.str "pick"))) [o, A, B, some (.val (kdD s)), some (.val (thD s))] = _ := fun A B => tB_ok (op2 (za7 rfl) rfl (eq_pick s))
  have c2 : ∀ A B, FD.tB (eOp eqD (eVar 3) (eC (.str "ask"))) [o, A, B, some (.val (kdD s)), some (.val (thD s))] = _ := fun A B => tB_ok (op2 (za7 rfl) rfl (eq_ask s))
  rw [List.length_cons] at h
  rw [List.map_cons, loopD, hs, Fl.of_ok]
  cases s with
  | ask a =>
   obtain ⟨a2, a3, a4, e⟩ := zZ2 o l acc a (some (.val (kdD (.ask a)))) (some (.val (thD (.ask a)))) (by omega)
   refine ⟨a2, a3, a4, ?_⟩
   have : zA4 [o, some (.own (acc.map pkD)), some (.val (tx q)), some (.val (kdD (.ask a))), some (.val (thD (.ask a)))] = .nx [o, some (.own (acc.map pkD)), some (.val (tx a)), some (.val (kdD (.ask a))), some (.val (thD (.ask a)))] := by
    unfold zA4
    rw [zd1 (if_n (c1 _ _)), zs4 (eIf_t (c2 _ _) (za7 rfl))]; rfl
   rw [this]
   exact e
  | pick k =>
   obtain ⟨a2, a3, a4, e⟩ := zZ2 o l (acc ++ [(q, k)]) [] (some (.val (kdD (.pick k)))) (some (.val (thD (.pick k)))) (by simp; omega)
   refine ⟨a2, a3, a4, ?_⟩
   have : zA4 [o, some (.own (acc.map pkD)), some (.val (tx q)), some (.val (kdD (.pick k))), some (.val (thD (.pick k)))] = .nx [o, some (.own ((acc ++ [(q, k)]).map pkD)), some (.val (tx [])), some (.val (kdD (.pick k))), some (.val (thD (.pick k)))] := by
    unfold zA4
    have w : (sIf (FD.tB (eOp eqD (eVar 3) (eC (.str "pick")))) (sApp 1 (eTup (aCons (eVar 2) (aCons (eVar 4) aNil)))) sNext) [o, some (.own (acc.map pkD)), some (.val (tx q)), some (.val (kdD (.pick k))), some (.val (thD (.pick k)))] = .nx [o, some (.own ((acc ++ [(q, k)]).map pkD)), some (.val (tx q)), some (.val (kdD (.pick k))), some (.val (thD (.pick k)))] := by
     rw [if_t (c1 _ _), app_nx (ds := acc.map pkD) (d := pkD (q, k)) rfl (tup2 (za7 rfl) (za7 rfl)) (by rw [List.length_map]; omega), List.map_append]; rfl
    rw [zd1 w, zs4 (d := tx []) (eIf_f (c2 _ _) rfl)]; rfl
   rw [this]
   rw [chs, show acc ++ (q, k) :: chs l [] = (acc ++ [(q, k)]) ++ chs l [] by simp]
   exact e
theorem yo3 (X : List (List Nat)) (dn un : List Stp) (hd : dn.length ≤ 1000) : zj6 (TG X dn un) [] = .ok (.lst ((chs dn []).map pkD)) := by
 have st : zj8 (.obr "Trail" (TG X dn un)) 0 5 [] = [some (.obr "Trail" (TG X dn un)), none, none, none, none] := rfl
 obtain ⟨a2, a3, a4, e⟩ := zZ2 (some (.obr "Trail" (TG X dn un))) dn [] [] none none (by simpa using hd)
 unfold zj6 runR
 rw [chosen_b, st, zd1 (yh2 yb6), zd1 (zs4 (d := tx []) rfl)]
 have : sForR 0 "Trail" "done" (gPr 3 4) zA4 [some (.obr "Trail" (TG X dn un)), some (.own []), some (.val (tx [])), none, none] = .nx [some (.obr "Trail" (TG X dn un)), some (.own ((chs dn []).map pkD)), a2, a3, a4] := by
  unfold sForR
  rw [ro_ok rfl (zt1 X dn un), Fl.of_ok]
  exact e
 show flRes ((sSeq (sForR 0 "Trail" "done" (gPr 3 4) zA4) (sRetO 1)) [some (.obr "Trail" (TG X dn un)), some (.own []), some (.val (tx [])), none, none]) = _
 rw [zd1 this]; rfl
theorem steps_b : zu0 = (sRet (fun τ => ((eComp 2 [] (iOw 0 "Trail" "done") (gPr 0 1) (fun _ => .ok true) (eTup (aCons (eVar 0) (aCons (eVar 1) aNil)))) τ).bind fun ds => .ok (.lst ds))) := by unfold zu0; rfl
theorem ya1 (X : List (List Nat)) (dn un : List Stp) (hd : dn.length ≤ 1000) : zf4 (TG X dn un) [] = .ok (.lst (dn.map stD)) := by
 have st : zj8 (.obr "Trail" (TG X dn un)) 0 1 [] = [some (.obr "Trail" (TG X dn un))] := rfl
 have cf := zA2 (set := gPr 0 1) (fe := (eTup (aCons (eVar 0) (aCons (eVar 1) aNil)))) (τ := [none, none]) stD stD (fun s => s) dn fun s _ => ⟨[some (.val (kdD s)), some (.val (thD s))], rfl, tup2 (za7 rfl) (za7 rfl)⟩
 rw [List.map_id'] at cf
 have ec := zx8 (k := 2) (idx := []) (fi := iOw 0 "Trail" "done") (τ := [some (.obr "Trail" (TG X dn un))]) (ow_ok (ob_r rfl) (zt1 X dn un)) cf (by rw [List.length_map]; exact hd)
 unfold zf4 runR
 rw [steps_b, st, zC6 (d := .lst (dn.map stD)) (by show Rs.bind _ _ = _; rw [ec]; rfl)]; rfl
theorem now_b : zC3 = (sRet (eTup (aCons (zg9 0 "Trail" "asked" zd4 aNil) (aCons (zg9 0 "Trail" "chosen" zj6 aNil) (aCons (zg9 0 "Trail" "steps" zf4 aNil) aNil))))) := by unfold zC3; rfl
theorem zY0 (X : List (List Nat)) (dn un : List Stp) : fldD "asked" (TG X dn un) = none := zr8 _ _ _ (by decide +kernel) (by decide +kernel) (by decide +kernel)
theorem n_chosen (X : List (List Nat)) (dn un : List Stp) : fldD "chosen" (TG X dn un) = none := zr8 _ _ _ (by decide +kernel) (by decide +kernel) (by decide +kernel)
theorem yk9 (X : List (List Nat)) (dn un : List Stp) : fldD "steps" (TG X dn un) = none := zr8 _ _ _ (by decide +kernel) (by decide +kernel) (by decide +kernel)
theorem n_step (X : List (List Nat)) (dn un : List Stp) : fldD "step" (TG X dn un) = none := zr8 _ _ _ (by decide +kernel) (by decide +kernel) (by decide +kernel)
theorem zX9 (X : List (List Nat)) (dn un : List Stp) : fldD "sizes" (TG X dn un) = none := zr8 _ _ _ (by decide +kernel) (by decide +kernel) (by decide +kernel)
theorem n_back (X : List (List Nat)) (dn un : List Stp) : fldD "back" (TG X dn un) = none := zr8 _ _ _ (by decide +kernel) (by decide +kernel) (by decide +kernel)
theorem yl0 (X : List (List Nat)) (dn un : List Stp) : fldD "forth" (TG X dn un) = none := zr8 _ _ _ (by decide +kernel) (by decide +kernel) (by decide +kernel)
theorem n_pick (X : List (List Nat)) (dn un : List Stp) : fldD "pick" (TG X dn un) = none := zr8 _ _ _ (by decide +kernel) (by decide +kernel) (by decide +kernel)
theorem n_ask (X : List (List Nat)) (dn un : List Stp) : fldD "ask" (TG X dn un) = none := zr8 _ _ _ (by decide +kernel) (by decide +kernel) (by decide +kernel)
theorem n_twin (X : List (List Nat)) (dn un : List Stp) : fldD "twin" (TG X dn un) = none := zr8 _ _ _ (by decide +kernel) (by decide +kernel) (by decide +kernel)
theorem yk5 (X : List (List Nat)) (dn un : List Stp) (hd : dn.length ≤ 1000) : zc2 (TG X dn un) [] = .ok (nowD dn) := by
 have st : zj8 (.obr "Trail" (TG X dn un)) 0 1 [] = [some (.obr "Trail" (TG X dn un))] := rfl
 unfold zc2 runR
 rw [now_b, st, zC6 (tup3 (zq0 (ob_r rfl) (zY0 X dn un) zb4 (zR4 X dn un)) (zq0 (ob_r rfl) (n_chosen X dn un) zb4 (yo3 X dn un hd)) (zq0 (ob_r rfl) (yk9 X dn un) zb4 (ya1 X dn un hd)))]; rfl
theorem zW1 {τ : DS} {i n : Nat} {c f g : Str} {fs : Fs} {ds es : List D} {d : D} (h : τ[i]? = some (some (.obj n c fs))) (hf : fldD f fs = some (.lst ds)) (hg : fldD g fs = some (.lst (es ++ [d]))) (hl : ds.length ≤ 1000) :
  zt3 i c f g τ = .nx ((τ.set i (some (.obj n c (putD g (.lst es) fs)))).set i (some (.obj n c (putD f (.lst (ds ++ [d])) (putD g (.lst es) fs))))) := by
 unfold zt3
 rw [yk0 h hf, Fl.of_ok, yk0 h hg, Fl.of_ok]
 have e1 : (es ++ [d])[(es ++ [d]).length - 1]? = some d := by simp
 have e2 : (es ++ [d]).dropLast = es := by simp
 show (match (es ++ [d])[(es ++ [d]).length - 1]? with | some d => _ | none => _) = _
 rw [e1]
 show (if _ then _ else _) = _
 rw [if_pos (by rw [zd7]; show ds.length < _; omega)]
 show Fl.nx ((τ.set i (some (.obj n c (putD g (.lst (es ++ [d]).dropLast) fs)))).set i (some (.obj n c (putD f (.lst (ds ++ [d])) (putD g (.lst (es ++ [d]).dropLast) fs))))) = _
 rw [e2]
theorem back_b : zw4 = (sSeq (sIf (FD.tB (eOp eqD (eLenA 0 "Trail" "done") (eC (.int 0)))) sNo sNext)
  (sSeq (zt3 0 "Trail" "undone" "done")
  (sRetM (eOp ixD (eIxA 0 "Trail" "undone" (eNeg (eC (.int 1)))) (eC (.int 0)))))) := by unfold zw4; rfl
theorem back_ok (X : List (List Nat)) (l un : List Stp) (s : Stp) (hu : un.length ≤ 1000) : ze4 (TG X (l ++ [s]) un) [] = .ok (kdD s, TG X l (un ++ [s])) := by
 have st : zj8 (.obj 1 "Trail" (TG X (l ++ [s]) un)) 0 1 [] = [some (.obj 1 "Trail" (TG X (l ++ [s]) un))] := rfl
 have hd := zt1 X (l ++ [s]) un
 have hl := len_A (ow_ok (τ := [some (.obj 1 "Trail" (TG X (l ++ [s]) un))]) (i := 0) (ob_o rfl) hd)
 have g : FD.tB (eOp eqD (eLenA 0 "Trail" "done") (eC (.int 0))) [some (.obj 1 "Trail" (TG X (l ++ [s]) un))] = .ok false := by
  refine tB_ok (op2 hl rfl ?_)
  rw [eqD_i]; congr 2; simp; omega
 rw [List.map_append] at hd
 have p := zW1 (τ := [some (.obj 1 "Trail" (TG X (l ++ [s]) un))]) (i := 0) rfl (zu5 X (l ++ [s]) un) (d := stD s) hd (by rw [List.length_map]; exact hu)
 rw [zE0, show un.map stD ++ [stD s] = (un ++ [s]).map stD by rw [List.map_append]; rfl, zw7] at p
 have q : zt3 0 "Trail" "undone" "done" [some (.obj 1 "Trail" (TG X (l ++ [s]) un))] = .nx [some (.obj 1 "Trail" (TG X l (un ++ [s])))] := p
 unfold ze4 runM
 rw [back_b, st, zd1 (if_n g), zd1 q, zB0 (op2 (ix_A (fi := eNeg (eC (.int 1))) (ow_ok (ob_o rfl) (zu5 X l (un ++ [s]))) (k := -1) rfl (zY4 un s)) rfl (st_0 s))]; rfl
theorem forth_b : zu2 = (sSeq (sIf (FD.tB (eOp eqD (eLenA 0 "Trail" "undone") (eC (.int 0)))) sNo sNext)
  (sSeq (zt3 0 "Trail" "done" "undone")
  (sRetM (eOp ixD (eIxA 0 "Trail" "done" (eNeg (eC (.int 1)))) (eC (.int 0)))))) := by unfold zu2; rfl
theorem forth_ok (X : List (List Nat)) (l un : List Stp) (s : Stp) (hu : l.length ≤ 1000) : ze8 (TG X l (un ++ [s])) [] = .ok (kdD s, TG X (l ++ [s]) un) := by
 have st : zj8 (.obj 1 "Trail" (TG X l (un ++ [s]))) 0 1 [] = [some (.obj 1 "Trail" (TG X l (un ++ [s])))] := rfl
 have hd := zu5 X l (un ++ [s])
 have hl := len_A (ow_ok (τ := [some (.obj 1 "Trail" (TG X l (un ++ [s])))]) (i := 0) (ob_o rfl) hd)
 have g : FD.tB (eOp eqD (eLenA 0 "Trail" "undone") (eC (.int 0))) [some (.obj 1 "Trail" (TG X l (un ++ [s])))] = .ok false := by
  refine tB_ok (op2 hl rfl ?_)
  rw [eqD_i]; congr 2; simp; omega
 rw [List.map_append] at hd
 have p := zW1 (τ := [some (.obj 1 "Trail" (TG X l (un ++ [s])))]) (i := 0) rfl (zt1 X l (un ++ [s])) (d := stD s) hd (by rw [List.length_map]; exact hu)
 rw [zw7, show l.map stD ++ [stD s] = (l ++ [s]).map stD by rw [List.map_append]; rfl, zE0] at p
 have q : zt3 0 "Trail" "done" "undone" [some (.obj 1 "Trail" (TG X l (un ++ [s])))] = .nx [some (.obj 1 "Trail" (TG X (l ++ [s]) un))] := p
 unfold ze8 runM
 rw [forth_b, st, zd1 (if_n g), zd1 q, zB0 (op2 (ix_A (fi := eNeg (eC (.int 1))) (ow_ok (ob_o rfl) (zt1 X (l ++ [s]) un)) (k := -1) rfl (zY4 l s)) rfl (st_0 s))]; rfl
theorem twin_b : zw1 = (sSeq (sMake 1 "Trail" zd6 (aCons (eAt 0 "Trail" "names") aNil))
  (sSeq (sAtN 1 "Trail" "done" (iOw 0 "Trail" "done"))
  (sSeq (sAtN 1 "Trail" "undone" (iOw 0 "Trail" "undone"))
  (sRetB 1 "Trail")))) := by unfold zw1; rfl
theorem yf6 (X : List (List Nat)) (dn un : List Stp) : zg8 (TG X dn un) [] = .ok (TG X dn un) := by
 have st : zj8 (.obr "Trail" (TG X dn un)) 0 2 [] = [some (.obr "Trail" (TG X dn un)), none] := rfl
 unfold zg8 runO
 rw [twin_b, st, zd1 (yl2 (arg1 (at_ok (ob_r rfl) (zD8 X dn un))) (ym9 X))]
 have h1 : sAtN 1 "Trail" "done" (iOw 0 "Trail" "done") [some (.obr "Trail" (TG X dn un)), some (.obj 0 "Trail" (TG X [] []))] = .nx [some (.obr "Trail" (TG X dn un)), some (.obj 0 "Trail" (TG X dn []))] := by
  rw [zF8 (fs := TG X [] []) (n := 0) (ow_ok (ob_r rfl) (zt1 X dn un)) rfl (yg2 ..), zE0]; rfl
 have h2 : sAtN 1 "Trail" "undone" (iOw 0 "Trail" "undone") [some (.obr "Trail" (TG X dn un)), some (.obj 0 "Trail" (TG X dn []))] = .nx [some (.obr "Trail" (TG X dn un)), some (.obj 0 "Trail" (TG X dn un))] := by
  rw [zF8 (fs := TG X dn []) (n := 0) (ow_ok (ob_r rfl) (zu5 X dn un)) rfl (yg2 ..), zw7]; rfl
 show flO "Trail" ((sSeq (sAtN 1 "Trail" "done" (iOw 0 "Trail" "done")) _) [some (.obr "Trail" (TG X dn un)), some (.obj 0 "Trail" (TG X [] []))]) = _
 rw [zd1 h1, zd1 h2]
 unfold sRetB
 rw [om_o (n := 0) (fs := TG X dn un) rfl, Fl.of_ok]
 rfl
theorem ne_nil (rs : List Rw) : neD (.lst (rs.map rowD)) (.lst []) = .ok (.bl (!rs.isEmpty)) := by
 obtain ⟨a, b, c⟩ := zV2 rs
 have ok : okD (.lst (rs.map rowD)) = true := by
  simp [okD, zn6, toPy, PyData.canLay0, PyData.depth, a, b]
  omega
 have ok2 : okD (.lst []) = true := by decide +kernel
 have ev : eqvD (.lst (rs.map rowD)) (.lst []) = rs.isEmpty := by
  cases rs <;> simp [eqvD, toPy, toPys, PyData.eqv, PyData.eqvAll]
 unfold neD
 simp only [ok, ok2, and_self, if_true, ev]
theorem rows_ix (rs : List Rw) (i : Nat) (h : i < rs.length) : ixD (.lst (rs.map rowD)) (.int (i : Int)) = .ok (rowD rs[i]) := by
 refine zB8 (zD6 (by omega) ?_)
 simp [List.getElem?_eq_getElem h]
theorem yl7 {set : FG} {body : FS} {d : D} {r : List D} {τ τ1 τ2 : DS} (h1 : set d τ = .ok τ1) (h2 : body τ1 = .nx τ2) : loopD set body (d :: r) τ = loopD set body r τ2 := by rw [loopD, h1, Fl.of_ok, h2]
theorem pick_b : zw3 = (sSeq (sSet 2 (eCall zo6 (aCons (eAt 0 "Trail" "names") (aCons (zg9 0 "Trail" "asked" zd4 aNil) (aCons (eBlt lenD (aCons (eAt 0 "Trail" "names") aNil)) aNil)))))
  (sSeq (sIf (tOrD (FD.tB (eOp ltI (eVar 1) (eC (.int 0)))) (FD.tB (eOp geD (eVar 1) (eBlt lenD (aCons (eVar 2) aNil))))) sNo sNext)
  (sSeq (sSet 3 (eOp ixD (eOp ixD (eVar 2) (eVar 1)) (eC (.int 1))))
  (sSeq (zl6 (oMeth 0 "Trail" "step" zh6 (aCons (eC (.str "pick")) (aCons (eVar 3) aNil))))
  (sRetM (eVar 3)))))) := by unfold zw3; rfl
theorem pick_ok (X : List (List Nat)) (dn un : List Stp) (i : Nat) (hi : i < (SR X (askd dn)).length) (hd : dn.length ≤ 1000) (hs : ∀ s ∈ dn, okS s) (hX : ∀ x ∈ X, x.length ≤ 1000) (hl : X.length < 64) :
  zn3 (TG X dn un) [.int (i : Int)] = .ok (.int ((SR X (askd dn))[i].2 : Int), TG X (dn ++ [.pick (SR X (askd dn))[i].2]) []) := by
 have st : zj8 (.obj 1 "Trail" (TG X dn un)) 0 4 [.int (i : Int)] = [some (.obj 1 "Trail" (TG X dn un)), some (.val (.int (i : Int))), none, none] := rfl
 obtain ⟨q1, q2⟩ := zZ6 hs
 have f := zV1 X (askd dn) X.length (Nat.le_refl _) q1 hX q2 hl
 generalize SR X (askd dn) = R at *
 have e1 : eCall zo6 (aCons (eAt 0 "Trail" "names") (aCons (zg9 0 "Trail" "asked" zd4 aNil) (aCons (eBlt lenD (aCons (eAt 0 "Trail" "names") aNil)) aNil))) [some (.obj 1 "Trail" (TG X dn un)), some (.val (.int (i : Int))), none, none] = .ok (.lst (R.map rowD)) :=
  call3 (at_ok (ob_o rfl) (zD8 X dn un)) (zq0 (ob_o rfl) (zY0 X dn un) zb4 (zR4 X dn un)) (blt1 (at_ok (ob_o rfl) (zD8 X dn un)) (by rw [zq1, List.length_map])) f
 have g : tOrD (FD.tB (eOp ltI (eVar 1) (eC (.int 0)))) (FD.tB (eOp geD (eVar 1) (eBlt lenD (aCons (eVar 2) aNil)))) [some (.obj 1 "Trail" (TG X dn un)), some (.val (.int (i : Int))), some (.val (.lst (R.map rowD))), none] = .ok false := by
  refine or_tr (tB_ok (op2 (za7 rfl) rfl ?_)) (tB_ok (op2 (za7 rfl) (blt1 (za7 rfl) zq1) ?_))
  ·rw [ltI_i, decide_eq_false (by omega)]
  ·rw [geD_i, List.length_map, decide_eq_false (by omega)]
 unfold zn3 runM
 rw [pick_b, st, zd1 (zs4 e1)]
 show flM 0 "Trail" ((sSeq _ _) [some (.obj 1 "Trail" (TG X dn un)), some (.val (.int (i : Int))), some (.val (.lst (R.map rowD))), none]) = _
 rw [zd1 (if_n g), zd1 (zs4 (op2 (op2 (za7 rfl) (za7 rfl) (rows_ix R i hi)) rfl (row_1 _)))]
 show flM 0 "Trail" ((sSeq _ _) [some (.obj 1 "Trail" (TG X dn un)), some (.val (.int (i : Int))), some (.val (.lst (R.map rowD))), some (.val (.int (R[i].2 : Int)))]) = _
 rw [zd1 (zq3 (zv4 (n := 1) (o := TG X dn un) rfl (n_step X dn un) (arg2 rfl (za7 rfl)) (yg7 X dn un (.pick R[i].2) hd))), zB0 (za7 rfl)]
 rfl
theorem ask_b : zy2 = (sSeq (zl6 (oMeth 0 "Trail" "step" zh6 (aCons (eC (.str "ask")) (aCons (eVar 1) aNil))))
  (sRetM (eBlt lenD (aCons (fun τ => ((eComp 1 [1] (iAny (eAt 0 "Trail" "names")) (gNm 0) (tTru (eCall zC7 (aCons (eVar 1) (aCons (eVar 0) aNil)))) (eVar 0)) τ).bind fun ds => .ok (.lst ds)) aNil)))) := by unfold zy2; rfl
theorem ask_ok (X : List (List Nat)) (dn un : List Stp) (q : List Nat) (hq : q.length ≤ 1000) (ha : ∀ c ∈ q, c < 128) (hd : dn.length ≤ 1000) (hX : ∀ x ∈ X, x.length ≤ 1000) (hl : X.length < 64) :
  ∃ d, zo8 (TG X dn un) [tx q] = .ok (d, TG X (dn ++ [.ask q]) []) := by
 have st : zj8 (.obj 1 "Trail" (TG X dn un)) 0 2 [tx q] = [some (.obj 1 "Trail" (TG X dn un)), some (.val (tx q))] := rfl
 have cf := zt8 (set := gNm 0) (ft := (tTru (eCall zC7 (aCons (eVar 1) (aCons (eVar 0) aNil))))) (fe := eVar 0) (τ := [none, some (.val (tx q))]) tx tx (fun x => subs q x) X fun x hx =>
  ⟨[some (.val (tx x)), some (.val (tx q))], rfl, tru_ok (call2 (za7 rfl) (za7 rfl) (fits1_ok q x hq (hX x hx) ha)), za7 rfl⟩
 have it : iAny (eAt 0 "Trail" "names") [some (.obj 1 "Trail" (TG X (dn ++ [.ask q]) [])), some (.val (tx q))] = .ok (X.map tx) := by
  rw [zQ6, at_ok (ob_o rfl) (zD8 X _ _)]; rfl
 have ec := zx8 (k := 1) (idx := [1]) it cf (by rw [List.length_map]; have := List.length_filter_le (fun x => subs q x) X; omega)
 unfold zo8 runM
 refine ⟨.int (((X.filter fun x => subs q x).map tx).length : Int), ?_⟩
 rw [ask_b, st, zd1 (zq3 (zv4 (n := 1) (o := TG X dn un) rfl (n_step X dn un) (arg2 rfl (za7 rfl)) (yg7 X dn un (.ask q) hd)))]
 show flM 0 "Trail" (sRetM _ [some (.obj 1 "Trail" (TG X (dn ++ [.ask q]) [])), some (.val (tx q))]) = _
 rw [zB0 (blt1 (a := .lst ((X.filter fun x => subs q x).map tx)) (by show Rs.bind _ _ = _; rw [ec]; rfl) zq1)]
 rfl
theorem typed_b : zv8 = (sRet (eCall zk7 (aCons (eVar 0) (aCons (eVar 1) (aCons (eOp ixD (eOp addD (eVar 2) (eLst (aCons (eC (.str "abc")) aNil))) (eCall zb0 (aCons (eVar 0) (aCons (eOp addD (eVar 1) (eC (.int 30))) (aCons (eOp addD (eBlt lenD (aCons (eVar 2) aNil)) (eC (.int 1))) aNil))))) (aCons (eC (.int 3)) aNil)))))) := by unfold zv8; rfl
theorem typed_ok (ns : List Int) (X : List (List Nat)) (a : Int) (h63 : ns.length ≤ 63) (ha0 : 0 ≤ a) (ha : a < 800000) (hX : ∀ x ∈ X, NmOk x) (hl : X.length ≤ 1000) :
  ∃ q : List Nat, (q.length : Int) ≤ 3 ∧ (∀ c ∈ q, c ∈ QS) ∧ zk6 [.scr ns, .int a, .lst (X.map tx)] = .ok (tx q) := by
 have st : zf3 3 [.scr ns, .int a, .lst (X.map tx)] = [some (.val (.scr ns)), some (.val (.int a)), some (.val (.lst (X.map tx)))] := rfl
 have dl := zp6 ns (a + 30) (m := (X.length : Int) + 1) (by omega)
 have dk := zo9 ns (a + 30) ((X.length : Int) + 1) h63 (by omega) (by omega) (by omega)
 generalize drawZ ns (a + 30) ((X.length : Int) + 1) = M at dl dk
 have hi : M.toNat < (X ++ [abcN]).length := by rw [List.length_append, List.length_singleton]; omega
 have hm' : (X ++ [abcN]).getD M.toNat [] ∈ X ++ [abcN] := zQ7 hi
 have hn : NmOk ((X ++ [abcN]).getD M.toNat []) := by
  rcases List.mem_append.mp hm' with z | z
  ·exact hX _ z
  ·have : (X ++ [abcN]).getD M.toNat [] = abcN := by simpa using z
   rw [this]; exact abc_ok
 obtain ⟨q, q1, q2, q3⟩ := query_ok ns a ((X ++ [abcN]).getD M.toNat []) 3 h63 ha0 (by omega) (by decide) (by decide) hn.1 (Nat.le_trans hn.2.1 (by decide)) hn.2.2
 refine ⟨q, q1, q2, ?_⟩
 have ix := zQ0 (X ++ [abcN]) M.toNat hi
 rw [Int.toNat_of_nonneg dl.1] at ix
 unfold zk6
 rw [typed_b, zf5, st, zC6 (call4' (za7 rfl) (za7 rfl) (op2 (op2 (za7 rfl) (lst1e rfl) (cat_abc X hl)) (call3 (za7 rfl) (op2 (za7 rfl) rfl zi5) (op2 (blt1 (za7 rfl) zq1) rfl (by rw [List.length_map]; exact zi5)) dk) ix) rfl q3)]
 rfl
theorem yl5 : zy0 = (sSeq (sSet 4 (eCall zo6 (aCons (eVar 3) (aCons (zg9 2 "Trail" "asked" zd4 aNil) (aCons (eBlt lenD (aCons (eVar 3) aNil)) aNil)))))
  (sIf (tAndD (FD.tB (eOp neD (eVar 4) (eLst aNil))) (FD.tB (eOp eqD (eCall zb0 (aCons (eVar 0) (aCons (eVar 1) (aCons (eC (.int 3)) aNil)))) (eC (.int 0))))) (zl6 (oMeth 2 "Trail" "pick" zn3 (aCons (eCall zb0 (aCons (eVar 0) (aCons (eOp addD (eVar 1) (eC (.int 1))) (aCons (eBlt lenD (aCons (eVar 4) aNil)) aNil)))) aNil))) (zl6 (oMeth 2 "Trail" "ask" zo8 (aCons (eCall zk6 (aCons (eVar 0) (aCons (eOp addD (eVar 1) (eC (.int 2))) (aCons (eVar 3) aNil)))) aNil))))) := by unfold zy0; rfl
theorem qs_lt {c : Nat} (h : c ∈ QS) : c < 128 := by
 revert c; decide
theorem zQ3 (ns : List Int) (X : List (List Nat)) (a : Int) (dn : List Stp) (h63 : ns.length ≤ 63) (ha0 : 0 ≤ a) (ha : a < 700000) (hX : ∀ x ∈ X, NmOk x) (hl : X.length < 64) (hd : dn.length ≤ 1000) (hs : ∀ s ∈ dn, okS s) :
  ∃ s, okS s ∧ ∀ un, zh2 (TG X dn un) [.scr ns, .int a, .lst (X.map tx)] = .ok (.non, TG X (dn ++ [s]) []) := by
 have st : ∀ un, zj8 (.obj 1 "Trail" (TG X dn un)) 2 5 [.scr ns, .int a, .lst (X.map tx)] = [some (.val (.scr ns)), some (.val (.int a)), some (.obj 1 "Trail" (TG X dn un)), some (.val (.lst (X.map tx))), none] := fun _ => rfl
 obtain ⟨q1, q2⟩ := zZ6 hs
 have hX2 : ∀ x ∈ X, x.length ≤ 1000 := fun x hx => Nat.le_trans (hX x hx).2.1 (by decide)
 have f := zV1 X (askd dn) X.length (Nat.le_refl _) q1 hX2 q2 hl
 have hpk := fun un i hi => pick_ok X dn un i hi hd hs hX2 hl
 generalize SR X (askd dn) = R at *
 have e1 : ∀ un, eCall zo6 (aCons (eVar 3) (aCons (zg9 2 "Trail" "asked" zd4 aNil) (aCons (eBlt lenD (aCons (eVar 3) aNil)) aNil))) [some (.val (.scr ns)), some (.val (.int a)), some (.obj 1 "Trail" (TG X dn un)), some (.val (.lst (X.map tx))), none] = .ok (.lst (R.map rowD)) := fun un =>
  call3 (za7 rfl) (zq0 (ob_o rfl) (zY0 X dn un) zb4 (zR4 X dn un)) (blt1 (za7 rfl) (by rw [zq1, List.length_map])) f
 have dk := zo9 ns a 3 h63 ha0 (by omega) (by decide)
 generalize drawZ ns a 3 = M at dk
 have g : ∀ un, tAndD (FD.tB (eOp neD (eVar 4) (eLst aNil))) (FD.tB (eOp eqD (eCall zb0 (aCons (eVar 0) (aCons (eVar 1) (aCons (eC (.int 3)) aNil)))) (eC (.int 0)))) [some (.val (.scr ns)), some (.val (.int a)), some (.obj 1 "Trail" (TG X dn un)), some (.val (.lst (X.map tx))), some (.val (.lst (R.map rowD)))] = .ok (!R.isEmpty && (M == 0)) := fun un =>
  and_b (tB_ok (op2 (za7 rfl) nilE (ne_nil R))) fun _ => tB_ok (op2 (call3 (za7 rfl) (za7 rfl) rfl dk) rfl eqD_i)
 by_cases c : (!R.isEmpty && (M == 0)) = true
 ·rw [c] at g
  have hR : 0 < R.length := by
   rw [Bool.and_eq_true] at c
   cases R with
   | nil => simp at c
   | cons r R => simp
  have dl2 := zp6 ns (a + 1) (m := (R.length : Int)) (by omega)
  have dk2 := zo9 ns (a + 1) (R.length : Int) h63 (by omega) (by omega) (by omega)
  generalize drawZ ns (a + 1) (R.length : Int) = N at dk2 dl2
  have hi : N.toNat < R.length := by omega
  have eN : ((N.toNat : Nat) : Int) = N := Int.toNat_of_nonneg dl2.1
  refine ⟨.pick R[N.toNat].2, trivial, fun un => ?_⟩
  unfold zh2 runM
  rw [yl5, st, zd1 (zs4 (e1 un))]
  show flM 2 "Trail" (sIf _ _ _ [some (.val (.scr ns)), some (.val (.int a)), some (.obj 1 "Trail" (TG X dn un)), some (.val (.lst (X.map tx))), some (.val (.lst (R.map rowD)))]) = _
  have hp := hpk un N.toNat hi
  rw [eN] at hp
  rw [if_t (g un), zq3 (zv4 (n := 1) (o := TG X dn un) rfl (n_pick X dn un) (arg1 (call3 (za7 rfl) (op2 (za7 rfl) rfl zi5) (blt1 (za7 rfl) (by rw [zq1, List.length_map])) dk2)) hp)]
  rfl
 ·have c' : (!R.isEmpty && (M == 0)) = false := by simpa using c
  rw [c'] at g
  obtain ⟨q, p1, p2, p3⟩ := typed_ok ns X (a + 2) h63 (by omega) (by omega) hX (by omega)
  have hq : q.length ≤ 1000 := by omega
  have hqa : ∀ c ∈ q, c < 128 := fun c hc => qs_lt (p2 c hc)
  refine ⟨.ask q, ⟨hq, hqa⟩, fun un => ?_⟩
  obtain ⟨d, hk⟩ := ask_ok X dn un q hq hqa hd hX2 hl
  unfold zh2 runM
  rw [yl5, st, zd1 (zs4 (e1 un))]
  show flM 2 "Trail" (sIf _ _ _ [some (.val (.scr ns)), some (.val (.int a)), some (.obj 1 "Trail" (TG X dn un)), some (.val (.lst (X.map tx))), some (.val (.lst (R.map rowD)))]) = _
  rw [if_f (g un), zq3 (zv4 (n := 1) (o := TG X dn un) rfl (n_ask X dn un) (arg1 (call3 (za7 rfl) (op2 (za7 rfl) rfl zi5) (za7 rfl) p3)) hk)]
  rfl
def zD0 : FS := (zl6 (oDefM 1 "Trail" zh2 (aCons (eVar 0) (aCons (eOp addD (eC (.int 600)) (eOp mulD (eC (.int 50)) (eVar 3))) aNil)) (aCons (eVar 2) aNil)))
theorem go_b : zw0 = (sSeq (sFor (iRg1 (aCons (eC (.int 2)) aNil)) (gNm 3) zD0)
  (sRetM (eTup (aCons (eDefR 1 "Trail" zc2 aNil aNil) (aCons (zg9 1 "Trail" "sizes" zc0 aNil) aNil))))) := by unfold zw0 zD0; rfl
def herD (dn : List Stp) (u : Nat) : D := .tup [nowD dn, .tup [.int (dn.length : Int), .int (u : Int)]]
theorem gd_her {dn : List Stp} (u : Nat) (h : ∀ s ∈ dn, okS s) : gd 4 (herD dn u) := by
 intro d hd
 rcases List.mem_cons.mp hd with rfl | hd
 ·exact yn4 h
 ·obtain rfl := List.mem_singleton.mp hd
  intro e he
  rcases List.mem_cons.mp he with rfl | he
  ·exact trivial
  ·obtain rfl := List.mem_singleton.mp he; exact trivial
theorem go_ok (ns : List Int) (X : List (List Nat)) (dn : List Stp) (h63 : ns.length ≤ 63) (hX : ∀ x ∈ X, NmOk x) (hl : X.length < 64) (hd : dn.length ≤ 900) (hs : ∀ s ∈ dn, okS s) :
  ∃ s1 s2, okS s1 ∧ okS s2 ∧ ∀ un, zl0 (TG X dn un) [.scr ns, .lst (X.map tx)] = .ok (herD (dn ++ [s1] ++ [s2]) 0, TG X (dn ++ [s1] ++ [s2]) []) := by
 obtain ⟨s1, o1, h1⟩ := zQ3 ns X (600 + 50 * 0) dn h63 (by decide) (by decide) hX hl (by omega) hs
 have hs1 : ∀ s ∈ dn ++ [s1], okS s := fun s h => by
  rcases List.mem_append.mp h with h | h
  ·exact hs s h
  ·obtain rfl := List.mem_singleton.mp h; exact o1
 obtain ⟨s2, o2, h2⟩ := zQ3 ns X (600 + 50 * 1) (dn ++ [s1]) h63 (by decide) (by decide) hX hl (by simp; omega) hs1
 refine ⟨s1, s2, o1, o2, fun un => ?_⟩
 have st : zj8 (.obj 1 "Trail" (TG X dn un)) 1 4 [.scr ns, .lst (X.map tx)] = [some (.val (.scr ns)), some (.obj 1 "Trail" (TG X dn un)), some (.val (.lst (X.map tx))), none] := rfl
 have r2 : iRg1 (aCons (eC (.int 2)) aNil) [some (.val (.scr ns)), some (.obj 1 "Trail" (TG X dn un)), some (.val (.lst (X.map tx))), none] = .ok ((List.range 2).map fun (k : Nat) => D.int (0 + k)) := zC5 (n := 2) rfl (by decide)
 have b1 : zD0 [some (.val (.scr ns)), some (.obj 1 "Trail" (TG X dn un)), some (.val (.lst (X.map tx))), some (.val (.int 0))] = .nx [some (.val (.scr ns)), some (.obj 1 "Trail" (TG X (dn ++ [s1]) [])), some (.val (.lst (X.map tx))), some (.val (.int 0))] := by
  unfold zD0
  rw [zq3 (zC0 (n := 1) (o := TG X dn un) rfl (arg2 (za7 rfl) (op2 rfl (op2 rfl (za7 rfl) (zv3 (by decide))) zi5)) (arg1 (za7 rfl)) (h1 un))]; rfl
 have b2 : zD0 [some (.val (.scr ns)), some (.obj 1 "Trail" (TG X (dn ++ [s1]) [])), some (.val (.lst (X.map tx))), some (.val (.int 1))] = .nx [some (.val (.scr ns)), some (.obj 1 "Trail" (TG X (dn ++ [s1] ++ [s2]) [])), some (.val (.lst (X.map tx))), some (.val (.int 1))] := by
  unfold zD0
  rw [zq3 (zC0 (n := 1) (o := TG X (dn ++ [s1]) []) rfl (arg2 (za7 rfl) (op2 rfl (op2 rfl (za7 rfl) (zv3 (by decide))) zi5)) (arg1 (za7 rfl)) (h2 []))]; rfl
 have lp : loopD (gNm 3) zD0 ((List.range 2).map fun (k : Nat) => D.int (0 + k)) [some (.val (.scr ns)), some (.obj 1 "Trail" (TG X dn un)), some (.val (.lst (X.map tx))), none] = .nx [some (.val (.scr ns)), some (.obj 1 "Trail" (TG X (dn ++ [s1] ++ [s2]) [])), some (.val (.lst (X.map tx))), some (.val (.int 1))] := by
  show loopD (gNm 3) zD0 [.int 0, .int 1] _ = _
  rw [yl7 zs7 b1, yl7 zs7 b2]; rfl
 have hlen : (dn ++ [s1] ++ [s2]).length ≤ 1000 := by simp; omega
 unfold zl0 runM
 rw [go_b, st, zd1 (by rw [zn5, r2, Fl.of_ok]; exact lp)]
 rw [zB0 (tup2 (zJ0 (ob_o rfl) zb4 zb4 (yk5 X (dn ++ [s1] ++ [s2]) [] hlen)) (zq0 (ob_o rfl) (zX9 X _ _) zb4 (zM7 X _ _)))]
 rfl
def TK (X : List (List Nat)) (dn : List Stp) (k : Nat) : Fs := TG X (dn.take k) (dn.drop k).reverse
theorem yg1 (X : List (List Nat)) (dn : List Stp) : TK X dn dn.length = TG X dn [] := by unfold TK; rw [List.take_length, List.drop_length]; rfl
theorem yg0 (X : List (List Nat)) (dn : List Stp) (k : Nat) (h : k < dn.length) (hd : dn.length ≤ 1000) : ze4 (TK X dn (k + 1)) [] = .ok (kdD dn[k], TK X dn k) := by
 have e1 : dn.take (k + 1) = dn.take k ++ [dn[k]] := by rw [List.take_succ, List.getElem?_eq_getElem h]; rfl
 have e2 : (dn.drop k).reverse = (dn.drop (k + 1)).reverse ++ [dn[k]] := by rw [List.drop_eq_getElem_cons h, List.reverse_cons]
 unfold TK
 rw [e1, e2]
 exact back_ok X _ _ _ (by rw [List.length_reverse, List.length_drop]; omega)
theorem zZ8 (X : List (List Nat)) (dn : List Stp) (k : Nat) (h : k < dn.length) (hd : dn.length ≤ 1000) : ze8 (TK X dn k) [] = .ok (kdD dn[k], TK X dn (k + 1)) := by
 have e1 : dn.take (k + 1) = dn.take k ++ [dn[k]] := by rw [List.take_succ, List.getElem?_eq_getElem h]; rfl
 have e2 : (dn.drop k).reverse = (dn.drop (k + 1)).reverse ++ [dn[k]] := by rw [List.drop_eq_getElem_cons h, List.reverse_cons]
 unfold TK
 rw [e1, e2]
 exact forth_ok X _ _ _ (by rw [List.length_take]; omega)
theorem tk_sizes (X : List (List Nat)) (dn : List Stp) (k : Nat) (h : k ≤ dn.length) : zc0 (TK X dn k) [] = .ok (.tup [.int (k : Int), .int ((dn.length : Int) - k)]) := by
 unfold TK
 rw [zM7, List.length_take, List.length_reverse, List.length_drop, Nat.min_eq_left h, show ((dn.length - k : Nat) : Int) = (dn.length : Int) - k by omega]
theorem yf9 (X : List (List Nat)) (dn : List Stp) (k : Nat) (hd : dn.length ≤ 1000) : zc2 (TK X dn k) [] = .ok (nowD (dn.take k)) := by
 unfold TK
 exact yk5 X _ _ (by rw [List.length_take]; omega)
def zb5 (dn : List Stp) : List D := (List.range (dn.length + 1)).map fun i => nowD (dn.take i)
theorem zD9 (dn : List Stp) : (zb5 dn).length = dn.length + 1 := by simp [zb5]
theorem zX0 (dn : List Stp) (k : Nat) (h : k ≤ dn.length) : ixD (.lst (zb5 dn)) (.int (k : Int)) = .ok (nowD (dn.take k)) := by
 refine zB8 (zD6 (by omega) ?_)
 rw [Int.toNat_natCast]
 simp [zb5, List.getElem?_range (show k < dn.length + 1 by omega)]
theorem rows_add (dn : List Stp) (s : Stp) : zb5 (dn ++ [s]) = zb5 dn ++ [nowD (dn ++ [s])] := by
 unfold zb5
 rw [List.length_append, List.length_singleton, List.range_succ, List.map_append]
 congr 1
 ·refine List.map_congr_left fun i hi => ?_
  have := List.mem_range.mp hi
  rw [List.take_append_of_le_length (by omega)]
 ·show [nowD ((dn ++ [s]).take (dn.length + 1))] = _
  rw [List.take_of_length_le (by simp)]
theorem zZ7 (dn : List Stp) (k : Nat) (h : k < dn.length) : ixD (.lst (dn.map kdD)) (.int (k : Int)) = .ok (kdD dn[k]) := by
 refine zB8 (zD6 (by omega) ?_)
 rw [Int.toNat_natCast]
 simp [List.getElem?_eq_getElem h]
theorem zO8 {dn : List Stp} (h : ∀ s ∈ dn, okS s) (k : Nat) : ∀ s ∈ dn.take k, okS s := fun s hs => h s (List.mem_of_mem_take hs)
theorem yk7 {dn : List Stp} (h : ∀ s ∈ dn, okS s) : neD (nowD dn) (nowD dn) = .ok (.bl false) := yk6 (n := 3) (yn4 h) (by decide)
theorem eq_now {dn : List Stp} (h : ∀ s ∈ dn, okS s) : eqD (nowD dn) (nowD dn) = .ok (.bl true) := eq_tup (n := 3) (yn4 h) (by decide)
theorem gd_ii (a b : Int) : gd 1 (.tup [.int a, .int b]) := by
 intro e he
 rcases List.mem_cons.mp he with rfl | he
 ·exact trivial
 ·obtain rfl := List.mem_singleton.mp he; exact trivial
theorem ne_ii (a b : Int) : neD (.tup [.int a, .int b]) (.tup [.int a, .int b]) = .ok (.bl false) := yk6 (gd_ii a b) (by decide)
theorem eq_ii (a b : Int) : eqD (.tup [.int a, .int b]) (.tup [.int a, .int b]) = .ok (.bl true) := eq_tup (gd_ii a b) (by decide)
theorem yb7 {dn : List Stp} (u : Nat) (h : ∀ s ∈ dn, okS s) : neD (herD dn u) (herD dn u) = .ok (.bl false) := yk6 (n := 4) (gd_her u h) (by decide)
def gB1 : FS := (sSeq (sIfO (oOrT (oB (oOp neD (oMeth 0 "Trail" "back" ze4 aNil) (eOp ixD (eVar 3) (eVar 4)))) (otOf (FD.tB (eOp neD (eDefR 0 "Trail" zc2 aNil aNil) (eOp ixD (eVar 1) (eVar 4)))))) (sRetM (eC (.bl false))) sNext)
  (sIf (FD.tB (eOp neD (zg9 0 "Trail" "sizes" zc0 aNil) (eTup (aCons (eVar 4) (aCons (eOp subD (eVar 2) (eVar 4)) aNil))))) (sRetM (eC (.bl false))) sNext))
def gB2 : FS := (sSeq (sIfO (oOrT (oB (oOp neD (oMeth 0 "Trail" "forth" ze8 aNil) (eOp ixD (eVar 3) (eOp subD (eVar 4) (eC (.int 1)))))) (otOf (FD.tB (eOp neD (eDefR 0 "Trail" zc2 aNil aNil) (eOp ixD (eVar 1) (eVar 4)))))) (sRetM (eC (.bl false))) sNext)
  (sIf (FD.tB (eOp neD (zg9 0 "Trail" "sizes" zc0 aNil) (eTup (aCons (eVar 4) (aCons (eOp subD (eVar 2) (eVar 4)) aNil))))) (sRetM (eC (.bl false))) sNext))
def wdE : FE := fun τ => ((eComp 1 [] (iAny (zg9 0 "Trail" "steps" zf4 aNil)) (gNm 0) (fun _ => .ok true) (eOp ixD (eVar 0) (eC (.int 0)))) τ).bind fun ds => .ok (.lst ds)
theorem goes_b : zy1 = (sSeq (sSet 2 (eOp subD (eBlt lenD (aCons (eVar 1) aNil)) (eC (.int 1))))
  (sSeq (sSet 3 wdE)
  (sSeq (sFor (iRg3 (aCons (eOp subD (eVar 2) (eC (.int 1))) (aCons (eNeg (eC (.int 1))) (aCons (eNeg (eC (.int 1))) aNil)))) (gNm 4) gB1)
  (sSeq (sFor (iRg2 (aCons (eC (.int 1)) (aCons (eOp addD (eVar 2) (eC (.int 1))) aNil))) (gNm 4) gB2)
  (sRetM (eC (.bl true))))))) := by unfold zy1 gB1 gB2 wdE; rfl
def S5 (X : List (List Nat)) (dn : List Stp) (k : Nat) (t : Option Sl) : DS := [some (.obj 1 "Trail" (TK X dn k)), some (.val (.lst (zb5 dn))), some (.val (.int (dn.length : Int))), some (.val (.lst (dn.map kdD))), t]
theorem sz_if (X : List (List Nat)) (dn : List Stp) (k : Nat) (hk : k ≤ dn.length) : (sIf (FD.tB (eOp neD (zg9 0 "Trail" "sizes" zc0 aNil) (eTup (aCons (eVar 4) (aCons (eOp subD (eVar 2) (eVar 4)) aNil))))) (sRetM (eC (.bl false))) sNext) (S5 X dn k (some (.val (.int (k : Int))))) = .nx (S5 X dn k (some (.val (.int (k : Int))))) :=
 if_n (tB_ok (op2 (zq0 (ob_o (n := 1) (fs := TK X dn k) rfl) (zX9 X _ _) zb4 (tk_sizes X dn k hk)) (tup2 (za7 rfl) (op2 (za7 rfl) (za7 rfl) zp1)) (ne_ii _ _)))
theorem gB1_ok (X : List (List Nat)) (dn : List Stp) (k : Nat) (hk : k < dn.length) (hd : dn.length ≤ 900) (hs : ∀ s ∈ dn, okS s) : gB1 (S5 X dn (k + 1) (some (.val (.int (k : Int))))) = .nx (S5 X dn k (some (.val (.int (k : Int))))) := by
 have m : oMeth 0 "Trail" "back" ze4 aNil (S5 X dn (k + 1) (some (.val (.int (k : Int))))) = .ok (kdD dn[k], S5 X dn k (some (.val (.int (k : Int))))) :=
  zv4 (n := 1) (o := TK X dn (k + 1)) rfl (n_back X _ _) zb4 (yg0 X dn k hk (by omega))
 have g := oOr_f (gb := otOf (FD.tB (eOp neD (eDefR 0 "Trail" zc2 aNil aNil) (eOp ixD (eVar 1) (eVar 4))))) (b := false) (τ'' := S5 X dn k (some (.val (.int (k : Int))))) (oB_ok (yk4 m (fb := (eOp ixD (eVar 3) (eVar 4))) (op2 (za7 rfl) (za7 rfl) (zZ7 dn k hk)) (ne_kd _)))
  (zO7 (tB_ok (op2 (zJ0 (ob_o (n := 1) (fs := TK X dn k) rfl) zb4 zb4 (yf9 X dn k (by omega))) (op2 (za7 rfl) (za7 rfl) (zX0 dn k (by omega))) (yk7 (zO8 hs k)))))
 unfold gB1
 rw [zd1 (ifO_n g)]
 exact sz_if X dn k (by omega)
theorem gB2_ok (X : List (List Nat)) (dn : List Stp) (k : Nat) (hk : k < dn.length) (hd : dn.length ≤ 900) (hs : ∀ s ∈ dn, okS s) : gB2 (S5 X dn k (some (.val (.int ((k + 1 : Nat) : Int))))) = .nx (S5 X dn (k + 1) (some (.val (.int ((k + 1 : Nat) : Int))))) := by
 have m : oMeth 0 "Trail" "forth" ze8 aNil (S5 X dn k (some (.val (.int ((k + 1 : Nat) : Int))))) = .ok (kdD dn[k], S5 X dn (k + 1) (some (.val (.int ((k + 1 : Nat) : Int))))) :=
  zv4 (n := 1) (o := TK X dn k) rfl (yl0 X _ _) zb4 (zZ8 X dn k hk (by omega))
 have w : ixD (.lst (dn.map kdD)) (.int (((k + 1 : Nat) : Int) - 1)) = .ok (kdD dn[k]) := by
  rw [show ((k + 1 : Nat) : Int) - 1 = (k : Int) by omega]; exact zZ7 dn k hk
 have g := oOr_f (gb := otOf (FD.tB (eOp neD (eDefR 0 "Trail" zc2 aNil aNil) (eOp ixD (eVar 1) (eVar 4))))) (b := false) (τ'' := S5 X dn (k + 1) (some (.val (.int ((k + 1 : Nat) : Int))))) (oB_ok (yk4 m (fb := (eOp ixD (eVar 3) (eOp subD (eVar 4) (eC (.int 1))))) (op2 (za7 rfl) (op2 (za7 rfl) rfl zp1) w) (ne_kd _)))
  (zO7 (tB_ok (op2 (zJ0 (ob_o (n := 1) (fs := TK X dn (k + 1)) rfl) zb4 zb4 (yf9 X dn (k + 1) (by omega))) (op2 (za7 rfl) (za7 rfl) (zX0 dn (k + 1) (by omega))) (yk7 (zO8 hs (k + 1))))))
 unfold gB2
 rw [zd1 (ifO_n g)]
 exact sz_if X dn (k + 1) (by omega)
theorem rg2_ok {fa fb : FE} {τ : DS} {n : Nat} (h1 : fa τ = .ok (.int 1)) (h2 : fb τ = .ok (.int (n : Int))) (hn : n ≤ 1000) : iRg2 (aCons fa (aCons fb aNil)) τ = .ok ((List.range (n - 1)).map fun (k : Nat) => D.int (((1 : Nat) : Int) + k)) := by
 have e : aCons fa (aCons fb aNil) τ = .ok [.int 1, .int (n : Int)] := by rw [zb7, h1, Rs.bind_ok, arg1 h2, Rs.bind_ok]
 unfold iRg2
 rw [e, Rs.bind_ok]
 show (if _ then Rs.ok (rngD 1 ((n : Int) - 1).toNat) else Rs.no) = _
 rw [if_pos (by omega)]
 have : ((n : Int) - 1).toNat = n - 1 := by omega
 rw [this]; rfl
theorem goes_ok (X : List (List Nat)) (dn : List Stp) (hd : dn.length ≤ 900) (hs : ∀ s ∈ dn, okS s) : zm6 (TK X dn dn.length) [.lst (zb5 dn)] = .ok (.bl true, TK X dn dn.length) := by
 have st : zj8 (.obj 1 "Trail" (TK X dn dn.length)) 0 5 [.lst (zb5 dn)] = [some (.obj 1 "Trail" (TK X dn dn.length)), some (.val (.lst (zb5 dn))), none, none, none] := rfl
 have e1 : eOp subD (eBlt lenD (aCons (eVar 1) aNil)) (eC (.int 1)) [some (.obj 1 "Trail" (TK X dn dn.length)), some (.val (.lst (zb5 dn))), none, none, none] = .ok (.int (dn.length : Int)) := by
  refine op2 (blt1 (za7 rfl) zq1) rfl ?_
  rw [zp1, zD9]; congr 2; omega
 have e2 : wdE [some (.obj 1 "Trail" (TK X dn dn.length)), some (.val (.lst (zb5 dn))), some (.val (.int (dn.length : Int))), none, none] = .ok (.lst (dn.map kdD)) := by
  have cf := zA2 (set := gNm 0) (fe := (eOp ixD (eVar 0) (eC (.int 0)))) (τ := [none]) stD kdD (fun s => s) dn fun s _ => ⟨[some (.val (stD s))], rfl, op2 (za7 rfl) rfl (st_0 s)⟩
  rw [List.map_id'] at cf
  have so := ya1 X dn [] (by omega)
  rw [← yg1] at so
  have it : iAny (zg9 0 "Trail" "steps" zf4 aNil) [some (.obj 1 "Trail" (TK X dn dn.length)), some (.val (.lst (zb5 dn))), some (.val (.int (dn.length : Int))), none, none] = .ok (dn.map stD) := by
   rw [zQ6, zq0 (ob_o (n := 1) (fs := TK X dn dn.length) rfl) (yk9 X _ _) zb4 so]; rfl
  have ec := zx8 (k := 1) (idx := []) it cf (by rw [List.length_map]; omega)
  unfold wdE
  show Rs.bind _ _ = _
  rw [ec]; rfl
 have r3 : iRg3 (aCons (eOp subD (eVar 2) (eC (.int 1))) (aCons (eNeg (eC (.int 1))) (aCons (eNeg (eC (.int 1))) aNil))) (S5 X dn dn.length none) = .ok (rngDn ((dn.length : Int) - 1) dn.length) := by
  have := rg3_ok (fs := (aCons (eOp subD (eVar 2) (eC (.int 1))) (aCons (eNeg (eC (.int 1))) (aCons (eNeg (eC (.int 1))) aNil)))) (τ := S5 X dn dn.length none) (i := (dn.length : Int) - 1) (j := -1)
   (by rw [zb7, op2 (a := .int (dn.length : Int)) (b := .int 1) (za7 rfl) rfl zp1, Rs.bind_ok, arg2 (a := .int (-1)) (b := .int (-1)) rfl rfl, Rs.bind_ok]) (by omega) (by omega) (by omega) (by omega)
  rw [this]; congr 2; omega
 obtain ⟨τ1, l1, t1, rfl⟩ := zo1 (set := gNm 4) (body := gB1) (fun (k : Nat) => D.int ((dn.length : Int) - 1 - k)) (fun k τ => ∃ t, τ = S5 X dn (dn.length - k) t) dn.length (S5 X dn dn.length none) ⟨none, rfl⟩ fun k τ hk ⟨t, e⟩ => by
  subst e
  obtain ⟨j, hj⟩ : ∃ j, dn.length = j + 1 + k := ⟨dn.length - 1 - k, by omega⟩
  have e0 : (dn.length : Int) - 1 - (k : Int) = (j : Int) := by omega
  have e1 : dn.length - k = j + 1 := by omega
  have e2 : dn.length - (k + 1) = j := by omega
  rw [e0, e1, e2]
  exact ⟨_, _, zs7, gB1_ok X dn j (by omega) hd hs, _, rfl⟩
 rw [Nat.sub_self] at l1
 have r2 : iRg2 (aCons (eC (.int 1)) (aCons (eOp addD (eVar 2) (eC (.int 1))) aNil)) (S5 X dn 0 t1) = .ok ((List.range dn.length).map fun (k : Nat) => D.int (((1 : Nat) : Int) + k)) := by
  refine rg2_ok (n := dn.length + 1) rfl ?_ (by omega)
  exact (op2 (a := .int (dn.length : Int)) (za7 rfl) rfl zi5).trans (by congr 2)
 obtain ⟨τ2, l2, t2, rfl⟩ := zo1 (set := gNm 4) (body := gB2) (fun (k : Nat) => D.int (((1 : Nat) : Int) + k)) (fun k τ => ∃ t, τ = S5 X dn k t) dn.length (S5 X dn 0 t1) ⟨t1, rfl⟩ fun k τ hk ⟨t, e⟩ => by
  subst e
  rw [show ((1 : Nat) : Int) + (k : Int) = ((k + 1 : Nat) : Int) by omega]
  exact ⟨_, _, zs7, gB2_ok X dn k hk hd hs, _, rfl⟩
 unfold zm6 runM
 rw [goes_b, st, zd1 (zs4 e1)]
 show flM 0 "Trail" ((sSeq _ _) [some (.obj 1 "Trail" (TK X dn dn.length)), some (.val (.lst (zb5 dn))), some (.val (.int (dn.length : Int))), none, none]) = _
 rw [zd1 (zs4 e2)]
 show flM 0 "Trail" ((sSeq _ _) (S5 X dn dn.length none)) = _
 rw [zd1 (by rw [zn5, r3, Fl.of_ok]; exact l1), zd1 (by rw [zn5, r2, Fl.of_ok]; exact l2), zB0 (d := .bl true) rfl]
 rfl
abbrev vv (d : D) : Option Sl := some (.val d)
abbrev T (o : Fs) : Option Sl := some (.obj 0 "Trail" o)
def L12 (ns : List Int) (X : List (List Nat)) (a2 a3 a4 a5 a6 a7 a8 a9 a10 a11 : Option Sl) : DS := [vv (.scr ns), vv (.lst (X.map tx)), a2, a3, a4, a5, a6, a7, a8, a9, a10, a11]
def nowE (i : Nat) : FE := eDefR i "Trail" zc2 aNil aNil
def szE (i : Nat) : FE := zg9 i "Trail" "sizes" zc0 aNil
def herE (i : Nat) : FE := eTup (aCons (nowE i) (aCons (szE i) aNil))
def goE (i : Nat) : FOb := oDefM i "Trail" zl0 (aCons (eVar 0) aNil) (aCons (eVar 1) aNil)
def bkE (i : Nat) : FOb := oMeth i "Trail" "back" ze4 aNil
def foE (i : Nat) : FOb := oMeth i "Trail" "forth" ze8 aNil
def lpB : FS := (sSeq (zl6 (oDefM 2 "Trail" zh2 (aCons (eVar 0) (aCons (eOp addD (eC (.int 100)) (eOp mulD (eC (.int 50)) (eVar 4))) aNil)) (aCons (eVar 1) aNil)))
  (sApp 3 (nowE 2)))
def ifA : FS := (sIfO (oOrT (otOf (FD.tB (eOp neD (szE 2) (eTup (aCons (eVar 5) (aCons (eC (.int 0)) aNil)))))) (oNotT (oB (oDefM 2 "Trail" zm6 aNil (aCons (eVar 3) aNil))))) (sRet (eC (.bl false))) sNext)
def ifB : FS := (sIf (FD.tB (eOp neD (eVar 8) (eTup (aCons (eOp ixD (eVar 3) (eOp subD (eVar 5) (eVar 6))) (aCons (eTup (aCons (eOp subD (eVar 5) (eVar 6)) (aCons (eVar 6) aNil))) aNil))))) (sRet (eC (.bl false))) sNext)
def ifC : FS := (sIf (tOrD (FD.tB (eOp neD (eOp ixD (eVar 11) (eC (.int 1))) (eTup (aCons (eOp addD (eOp subD (eVar 5) (eVar 6)) (eC (.int 2))) (aCons (eC (.int 0)) aNil))))) (FD.tB (eOp neD (herE 9) (eVar 8)))) (sRet (eC (.bl false))) sNext)
def ifD : FS := (sIfO (oB (oOp neD (goE 9) (eVar 11))) (sRet (eC (.bl false))) sNext)
def ifE : FS := (sIf (FD.tB (eOp neD (herE 10) (eVar 8))) (sRet (eC (.bl false))) sNext)
def lpF : FS := (sIfO (oOrT (oB (oOp2 neD (bkE 9) (bkE 2))) (otOf (FD.tB (eOp neD (nowE 9) (nowE 2))))) (sRet (eC (.bl false))) sNext)
def rtE : FS := (sRet (eAnd (eOp eqD (nowE 10) (eOp ixD (eVar 3) (eNeg (eC (.int 1))))) (eAnd (eOp eqD (nowE 9) (eTup (aCons (eC (.str "")) (aCons (eLst aNil) (aCons (eLst aNil) aNil))))) (eOp eqD (szE 10) (eTup (aCons (eVar 5) (aCons (eC (.int 0)) aNil)))))))
def rest : FS := (sSeq ifA
  (sSeq (sSet 6 (eOp addD (eC (.int 1)) (eCall zb0 (aCons (eVar 0) (aCons (eC (.int 98)) (aCons (eVar 5) aNil))))))
  (sSeq (sFor (iRg1 (aCons (eVar 6) aNil)) (gNm 7) (zl6 (bkE 2)))
  (sSeq (sSet 8 (herE 2))
  (sSeq (sTwin 9 2 "Trail" "twin" "Trail" zg8)
  (sSeq (sTwin 10 9 "Trail" "twin" "Trail" zg8)
  (sSeq ifB
  (sSeq (sSetB 11 (goE 2))
  (sSeq ifC
  (sSeq ifD
  (sSeq ifE
  (sSeq (sFor (iRg1 (aCons (eVar 6) aNil)) (gNm 7) (zl6 (foE 10)))
  (sSeq (sFor (iRg1 (aCons (eOp addD (eOp subD (eVar 5) (eVar 6)) (eC (.int 2))) aNil)) (gNm 7) lpF)
  rtE)))))))))))))
theorem law_b : b_law = (sSeq (sSet 1 (eCall zi7 (aCons (eVar 0) (aCons (eC (.int 0)) (aCons (eC (.int 4)) aNil)))))
  (sSeq (sMake 2 "Trail" zd6 (aCons (eVar 1) aNil))
  (sSeq (sSetO 3 (fun τ => ((aCons (nowE 2) aNil) τ).bind fun ds => if ds.length ≤ sizeLine then .ok ds else .no))
  (sSeq (sFor (iRg1 (aCons (eOp addD (eC (.int 2)) (eCall zb0 (aCons (eVar 0) (aCons (eC (.int 99)) (aCons (eC (.int 6)) aNil))))) aNil)) (gNm 4) lpB)
  (sSeq (sSet 5 (eOp subD (eLenO 3) (eC (.int 1))))
  (fun τ => rest (frzT τ))))))) := by unfold b_law rest rtE lpF ifE ifD ifC ifB ifA lpB foE bkE goE herE szE nowE; rfl
section
variable (ns : List Int) (X : List (List Nat))
theorem zB6 {τ : DS} {i : Nat} {dn : List Stp} {k : Nat} (h : τ[i]? = some (T (TK X dn k))) (hd : dn.length ≤ 1000) : nowE i τ = .ok (nowD (dn.take k)) := zJ0 (ob_o h) zb4 zb4 (yf9 X dn k hd)
theorem yg5 {τ : DS} {i : Nat} {dn : List Stp} {k : Nat} (h : τ[i]? = some (T (TK X dn k))) : szE i τ = .ok (.tup [.int ((dn.take k).length : Int), .int ((dn.drop k).reverse.length : Int)]) := zq0 (ob_o h) (zX9 X _ _) zb4 (zM7 X _ _)
theorem herE_ok {τ : DS} {i : Nat} {dn : List Stp} {k : Nat} (h : τ[i]? = some (T (TK X dn k))) (hd : dn.length ≤ 1000) : herE i τ = .ok (herD (dn.take k) (dn.drop k).reverse.length) := tup2 (zB6 X h hd) (yg5 X h)
theorem yo7 {τ : DS} {i : Nat} {dn : List Stp} {k : Nat} (h : τ[i]? = some (T (TK X dn (k + 1)))) (hk : k < dn.length) (hd : dn.length ≤ 1000) : bkE i τ = .ok (kdD dn[k], τ.set i (T (TK X dn k))) := zv4 h (n_back X _ _) zb4 (yg0 X dn k hk hd)
theorem foE_ok {τ : DS} {i : Nat} {dn : List Stp} {k : Nat} (h : τ[i]? = some (T (TK X dn k))) (hk : k < dn.length) (hd : dn.length ≤ 1000) : foE i τ = .ok (kdD dn[k], τ.set i (T (TK X dn (k + 1)))) := zv4 h (yl0 X _ _) zb4 (zZ8 X dn k hk hd)
theorem last_row (dn : List Stp) : ixD (.lst (zb5 dn)) (.int (-1)) = .ok (nowD dn) := by
 have e : zb5 dn = ((List.range dn.length).map fun i => nowD (dn.take i)) ++ [nowD dn] := by
  unfold zb5
  rw [List.range_succ, List.map_append]
  show _ ++ [nowD (dn.take dn.length)] = _
  rw [List.take_length]
 have hl := zD9 dn
 refine zB8 ?_
 unfold atI ixN
 rw [if_neg (by omega), if_pos (by omega)]
 have : (-1 + ((zb5 dn).length : Int)).toNat = dn.length := by omega
 show (zb5 dn)[(-1 + ((zb5 dn).length : Int)).toNat]? = _
 rw [this, e]
 simp
theorem rest_ok (dn : List Stp) (t4 : Option Sl) (h63 : ns.length ≤ 63) (hX : ∀ x ∈ X, NmOk x) (hl : X.length < 64) (hn : 0 < dn.length) (hd : dn.length ≤ 800) (hs : ∀ s ∈ dn, okS s) :
  rest (L12 ns X (T (TG X dn [])) (vv (.lst (zb5 dn))) t4 (vv (.int (dn.length : Int))) none none none none none none) = .rt (.bl true) := by
 unfold rest
 rw [← yg1]
 have h1 : ifA (L12 ns X (T (TK X dn dn.length)) (vv (.lst (zb5 dn))) t4 (vv (.int (dn.length : Int))) none none none none none none) = .nx (L12 ns X (T (TK X dn dn.length)) (vv (.lst (zb5 dn))) t4 (vv (.int (dn.length : Int))) none none none none none none) := by
  have e1 : FD.tB (eOp neD (szE 2) (eTup (aCons (eVar 5) (aCons (eC (.int 0)) aNil)))) (L12 ns X (T (TK X dn dn.length)) (vv (.lst (zb5 dn))) t4 (vv (.int (dn.length : Int))) none none none none none none) = .ok false := by
   refine tB_ok (op2 (yg5 X (dn := dn) (k := dn.length) rfl) (tup2 (za7 rfl) rfl) ?_)
   rw [List.take_length, List.drop_length]
   exact ne_ii _ _
  have e2 : oDefM 2 "Trail" zm6 aNil (aCons (eVar 3) aNil) (L12 ns X (T (TK X dn dn.length)) (vv (.lst (zb5 dn))) t4 (vv (.int (dn.length : Int))) none none none none none none) = .ok (.bl true, L12 ns X (T (TK X dn dn.length)) (vv (.lst (zb5 dn))) t4 (vv (.int (dn.length : Int))) none none none none none none) :=
   zC0 (n := 0) (o := TK X dn dn.length) rfl zb4 (arg1 (za7 rfl)) (goes_ok X dn (by omega) hs)
  exact ifO_n (oOr_f (zO7 e1) (oNot_ok (oB_ok e2)))
 rw [zd1 h1]
 have dl := zp6 ns 98 (m := (dn.length : Int)) (by omega)
 have dk := zo9 ns 98 (dn.length : Int) h63 (by decide) (by decide) (by omega)
 generalize drawZ ns 98 (dn.length : Int) = M at dl dk
 obtain ⟨b, hb⟩ : ∃ b : Nat, (b : Int) = 1 + M := ⟨(1 + M).toNat, by omega⟩
 have hb1 : 1 ≤ b := by omega
 have hb2 : b ≤ dn.length := by omega
 obtain ⟨m, hm⟩ : ∃ m, dn.length = m + b := ⟨dn.length - b, by omega⟩
 have h2 : sSet 6 (eOp addD (eC (.int 1)) (eCall zb0 (aCons (eVar 0) (aCons (eC (.int 98)) (aCons (eVar 5) aNil))))) (L12 ns X (T (TK X dn dn.length)) (vv (.lst (zb5 dn))) t4 (vv (.int (dn.length : Int))) none none none none none none) = .nx (L12 ns X (T (TK X dn dn.length)) (vv (.lst (zb5 dn))) t4 (vv (.int (dn.length : Int))) (vv (.int (b : Int))) none none none none none) := by
  rw [zs4 (op2 (a := .int 1) rfl (call3 (za7 rfl) rfl (za7 rfl) dk) zi5), ← hb]; rfl
 rw [zd1 h2]
 have r3 : ∀ a2 a7 a8 a9 a10 a11, iRg1 (aCons (eVar 6) aNil) (L12 ns X a2 (vv (.lst (zb5 dn))) t4 (vv (.int (dn.length : Int))) (vv (.int (b : Int))) a7 a8 a9 a10 a11) = .ok ((List.range b).map fun (k : Nat) => D.int (0 + k)) := fun _ _ _ _ _ _ => zC5 (za7 rfl) (by omega)
 obtain ⟨τ3, l3, t7, rfl⟩ := zo1 (set := gNm 7) (body := zl6 (bkE 2)) (fun (k : Nat) => D.int (0 + k)) (fun k τ => ∃ t, τ = L12 ns X (T (TK X dn (dn.length - k))) (vv (.lst (zb5 dn))) t4 (vv (.int (dn.length : Int))) (vv (.int (b : Int))) t none none none none) b
  (L12 ns X (T (TK X dn dn.length)) (vv (.lst (zb5 dn))) t4 (vv (.int (dn.length : Int))) (vv (.int (b : Int))) none none none none none) ⟨none, rfl⟩ fun k τ hk ⟨t, e⟩ => by
   subst e
   obtain ⟨j, hj⟩ : ∃ j, dn.length - k = j + 1 := ⟨dn.length - k - 1, by omega⟩
   rw [hj, show dn.length - (k + 1) = j by omega]
   exact ⟨_, _, zs7, zq3 (yo7 X (dn := dn) (k := j) rfl (by omega) (by omega)), _, rfl⟩
 rw [show dn.length - b = m by omega] at l3
 rw [zd1 (by rw [zn5, r3, Fl.of_ok]; exact l3)]
 have hlm : (dn.take m).length = m := by rw [List.length_take]; omega
 have hlu : (dn.drop m).reverse.length = b := by rw [List.length_reverse, List.length_drop]; omega
 have hst : ∀ s ∈ dn.take m, okS s := zO8 hs m
 have her : ∀ {τ : DS} {i : Nat}, τ[i]? = some (T (TK X dn m)) → herE i τ = .ok (herD (dn.take m) b) := fun h => by
  have := herE_ok X h (by omega)
  rw [hlu] at this; exact this
 have h4 : sSet 8 (herE 2) (L12 ns X (T (TK X dn m)) (vv (.lst (zb5 dn))) t4 (vv (.int (dn.length : Int))) (vv (.int (b : Int))) t7 none none none none) = .nx (L12 ns X (T (TK X dn m)) (vv (.lst (zb5 dn))) t4 (vv (.int (dn.length : Int))) (vv (.int (b : Int))) t7 (vv (herD (dn.take m) b)) none none none) := zs4 (her rfl)
 rw [zd1 h4]
 have h5 : sTwin 9 2 "Trail" "twin" "Trail" zg8 (L12 ns X (T (TK X dn m)) (vv (.lst (zb5 dn))) t4 (vv (.int (dn.length : Int))) (vv (.int (b : Int))) t7 (vv (herD (dn.take m) b)) none none none) = .nx (L12 ns X (T (TK X dn m)) (vv (.lst (zb5 dn))) t4 (vv (.int (dn.length : Int))) (vv (.int (b : Int))) t7 (vv (herD (dn.take m) b)) (T (TK X dn m)) none none) :=
  yf7 (o := TK X dn m) (ob_o (n := 0) rfl) (n_twin X _ _) (yf6 X _ _)
 have h6 : sTwin 10 9 "Trail" "twin" "Trail" zg8 (L12 ns X (T (TK X dn m)) (vv (.lst (zb5 dn))) t4 (vv (.int (dn.length : Int))) (vv (.int (b : Int))) t7 (vv (herD (dn.take m) b)) (T (TK X dn m)) none none) = .nx (L12 ns X (T (TK X dn m)) (vv (.lst (zb5 dn))) t4 (vv (.int (dn.length : Int))) (vv (.int (b : Int))) t7 (vv (herD (dn.take m) b)) (T (TK X dn m)) (T (TK X dn m)) none) :=
  yf7 (o := TK X dn m) (ob_o (n := 0) rfl) (n_twin X _ _) (yf6 X _ _)
 rw [zd1 h5, zd1 h6]
 have hmi : (dn.length : Int) - (b : Int) = (m : Int) := by omega
 have h7 : ifB (L12 ns X (T (TK X dn m)) (vv (.lst (zb5 dn))) t4 (vv (.int (dn.length : Int))) (vv (.int (b : Int))) t7 (vv (herD (dn.take m) b)) (T (TK X dn m)) (T (TK X dn m)) none) = .nx (L12 ns X (T (TK X dn m)) (vv (.lst (zb5 dn))) t4 (vv (.int (dn.length : Int))) (vv (.int (b : Int))) t7 (vv (herD (dn.take m) b)) (T (TK X dn m)) (T (TK X dn m)) none) := by
  have sb : eOp subD (eVar 5) (eVar 6) (L12 ns X (T (TK X dn m)) (vv (.lst (zb5 dn))) t4 (vv (.int (dn.length : Int))) (vv (.int (b : Int))) t7 (vv (herD (dn.take m) b)) (T (TK X dn m)) (T (TK X dn m)) none) = .ok (.int (m : Int)) := by
   rw [op2 (a := .int (dn.length : Int)) (b := .int (b : Int)) (za7 rfl) (za7 rfl) zp1, hmi]
  refine if_n (tB_ok (op2 (za7 rfl) (tup2 (op2 (za7 rfl) sb (zX0 dn m (by omega))) (tup2 sb (za7 rfl))) ?_))
  have := yb7 b hst
  unfold herD at this ⊢
  rw [hlm] at this ⊢
  exact this
 rw [zd1 h7]
 obtain ⟨s1, s2, o1, o2, hg⟩ := go_ok ns X (dn.take m) h63 hX hl (by rw [hlm]; omega) hst
 generalize hE : dn.take m ++ [s1] ++ [s2] = E at hg
 have hEl : E.length = m + 2 := by rw [← hE]; simp; omega
 have hEs : ∀ s ∈ E, okS s := fun s h => by
  rw [← hE] at h
  rcases List.mem_append.mp h with h | h
  ·rcases List.mem_append.mp h with h | h
   ·exact hst s h
   ·obtain rfl := List.mem_singleton.mp h; exact o1
  ·obtain rfl := List.mem_singleton.mp h; exact o2
 have hEk : TG X E [] = TK X E (m + 2) := by rw [← hEl, yg1]
 rw [hEk] at hg
 have h8 : sSetB 11 (goE 2) (L12 ns X (T (TK X dn m)) (vv (.lst (zb5 dn))) t4 (vv (.int (dn.length : Int))) (vv (.int (b : Int))) t7 (vv (herD (dn.take m) b)) (T (TK X dn m)) (T (TK X dn m)) none) = .nx (L12 ns X (T (TK X E (m + 2))) (vv (.lst (zb5 dn))) t4 (vv (.int (dn.length : Int))) (vv (.int (b : Int))) t7 (vv (herD (dn.take m) b)) (T (TK X dn m)) (T (TK X dn m)) (vv (herD E 0))) :=
  setB_nx (zC0 (n := 0) (o := TK X dn m) rfl (arg1 (za7 rfl)) (arg1 (za7 rfl)) (hg _))
 rw [zd1 h8]
 have h9 : ifC (L12 ns X (T (TK X E (m + 2))) (vv (.lst (zb5 dn))) t4 (vv (.int (dn.length : Int))) (vv (.int (b : Int))) t7 (vv (herD (dn.take m) b)) (T (TK X dn m)) (T (TK X dn m)) (vv (herD E 0))) = .nx (L12 ns X (T (TK X E (m + 2))) (vv (.lst (zb5 dn))) t4 (vv (.int (dn.length : Int))) (vv (.int (b : Int))) t7 (vv (herD (dn.take m) b)) (T (TK X dn m)) (T (TK X dn m)) (vv (herD E 0))) := by
  have ix : ixD (herD E 0) (.int 1) = .ok (.tup [.int (E.length : Int), .int 0]) := rfl
  refine if_n (or_tr (tB_ok (op2 (op2 (za7 rfl) rfl ix) (tup2 (op2 (op2 (za7 rfl) (za7 rfl) zp1) rfl zi5) rfl) ?_)) (tB_ok (op2 (her rfl) (za7 rfl) (yb7 b hst))))
  rw [hmi, hEl, show ((m + 2 : Nat) : Int) = (m : Int) + 2 by omega]
  exact ne_ii _ _
 rw [zd1 h9]
 have h10 : ifD (L12 ns X (T (TK X E (m + 2))) (vv (.lst (zb5 dn))) t4 (vv (.int (dn.length : Int))) (vv (.int (b : Int))) t7 (vv (herD (dn.take m) b)) (T (TK X dn m)) (T (TK X dn m)) (vv (herD E 0))) = .nx (L12 ns X (T (TK X E (m + 2))) (vv (.lst (zb5 dn))) t4 (vv (.int (dn.length : Int))) (vv (.int (b : Int))) t7 (vv (herD (dn.take m) b)) (T (TK X E (m + 2))) (T (TK X dn m)) (vv (herD E 0))) := by
  have g : goE 9 (L12 ns X (T (TK X E (m + 2))) (vv (.lst (zb5 dn))) t4 (vv (.int (dn.length : Int))) (vv (.int (b : Int))) t7 (vv (herD (dn.take m) b)) (T (TK X dn m)) (T (TK X dn m)) (vv (herD E 0))) = .ok (herD E 0, L12 ns X (T (TK X E (m + 2))) (vv (.lst (zb5 dn))) t4 (vv (.int (dn.length : Int))) (vv (.int (b : Int))) t7 (vv (herD (dn.take m) b)) (T (TK X E (m + 2))) (T (TK X dn m)) (vv (herD E 0))) :=
   zC0 (n := 0) (o := TK X dn m) rfl (arg1 (za7 rfl)) (arg1 (za7 rfl)) (hg _)
  exact ifO_n (oB_ok (yk4 g (za7 rfl) (yb7 0 hEs)))
 rw [zd1 h10]
 have h11 : ifE (L12 ns X (T (TK X E (m + 2))) (vv (.lst (zb5 dn))) t4 (vv (.int (dn.length : Int))) (vv (.int (b : Int))) t7 (vv (herD (dn.take m) b)) (T (TK X E (m + 2))) (T (TK X dn m)) (vv (herD E 0))) = .nx (L12 ns X (T (TK X E (m + 2))) (vv (.lst (zb5 dn))) t4 (vv (.int (dn.length : Int))) (vv (.int (b : Int))) t7 (vv (herD (dn.take m) b)) (T (TK X E (m + 2))) (T (TK X dn m)) (vv (herD E 0))) :=
  if_n (tB_ok (op2 (her rfl) (za7 rfl) (yb7 b hst)))
 rw [zd1 h11]
 obtain ⟨τ4, l4, t8, rfl⟩ := zo1 (set := gNm 7) (body := zl6 (foE 10)) (fun (k : Nat) => D.int (0 + k)) (fun k τ => ∃ t, τ = L12 ns X (T (TK X E (m + 2))) (vv (.lst (zb5 dn))) t4 (vv (.int (dn.length : Int))) (vv (.int (b : Int))) t (vv (herD (dn.take m) b)) (T (TK X E (m + 2))) (T (TK X dn (m + k))) (vv (herD E 0))) b
  (L12 ns X (T (TK X E (m + 2))) (vv (.lst (zb5 dn))) t4 (vv (.int (dn.length : Int))) (vv (.int (b : Int))) t7 (vv (herD (dn.take m) b)) (T (TK X E (m + 2))) (T (TK X dn m)) (vv (herD E 0))) ⟨t7, rfl⟩ fun k τ hk ⟨t, e⟩ => by
   subst e
   exact ⟨_, _, zs7, zq3 (foE_ok X (dn := dn) (k := m + k) rfl (by omega) (by omega)), _, rfl⟩
 rw [zd1 (by rw [zn5, r3, Fl.of_ok]; exact l4)]
 have r5 : iRg1 (aCons (eOp addD (eOp subD (eVar 5) (eVar 6)) (eC (.int 2))) aNil) (L12 ns X (T (TK X E (m + 2))) (vv (.lst (zb5 dn))) t4 (vv (.int (dn.length : Int))) (vv (.int (b : Int))) t8 (vv (herD (dn.take m) b)) (T (TK X E (m + 2))) (T (TK X dn (m + b))) (vv (herD E 0))) = .ok ((List.range (m + 2)).map fun (k : Nat) => D.int (0 + k)) := by
  refine zC5 ?_ (by omega)
  rw [op2 (a := .int ((dn.length : Int) - b)) (b := .int 2) (op2 (za7 rfl) (za7 rfl) zp1) rfl zi5, hmi]; rfl
 obtain ⟨τ5, l5, t9, rfl⟩ := zo1 (set := gNm 7) (body := lpF) (fun (k : Nat) => D.int (0 + k)) (fun k τ => ∃ t, τ = L12 ns X (T (TK X E (m + 2 - k))) (vv (.lst (zb5 dn))) t4 (vv (.int (dn.length : Int))) (vv (.int (b : Int))) t (vv (herD (dn.take m) b)) (T (TK X E (m + 2 - k))) (T (TK X dn (m + b))) (vv (herD E 0))) (m + 2)
  (L12 ns X (T (TK X E (m + 2))) (vv (.lst (zb5 dn))) t4 (vv (.int (dn.length : Int))) (vv (.int (b : Int))) t8 (vv (herD (dn.take m) b)) (T (TK X E (m + 2))) (T (TK X dn (m + b))) (vv (herD E 0))) ⟨t8, rfl⟩ fun k τ hk ⟨t, e⟩ => by
   subst e
   obtain ⟨j, hj⟩ : ∃ j, m + 2 - k = j + 1 := ⟨m + 2 - k - 1, by omega⟩
   rw [hj, show m + 2 - (k + 1) = j by omega]
   have hjE : j < E.length := by omega
   generalize hv : vv (.int (0 + (k : Int))) = v
   have g1 : bkE 9 (L12 ns X (T (TK X E (j + 1))) (vv (.lst (zb5 dn))) t4 (vv (.int (dn.length : Int))) (vv (.int (b : Int))) v (vv (herD (dn.take m) b)) (T (TK X E (j + 1))) (T (TK X dn (m + b))) (vv (herD E 0))) = .ok (kdD E[j], L12 ns X (T (TK X E (j + 1))) (vv (.lst (zb5 dn))) t4 (vv (.int (dn.length : Int))) (vv (.int (b : Int))) v (vv (herD (dn.take m) b)) (T (TK X E j)) (T (TK X dn (m + b))) (vv (herD E 0))) :=
    yo7 X (dn := E) (k := j) rfl hjE (by omega)
   have g2 : bkE 2 (L12 ns X (T (TK X E (j + 1))) (vv (.lst (zb5 dn))) t4 (vv (.int (dn.length : Int))) (vv (.int (b : Int))) v (vv (herD (dn.take m) b)) (T (TK X E j)) (T (TK X dn (m + b))) (vv (herD E 0))) = .ok (kdD E[j], L12 ns X (T (TK X E j)) (vv (.lst (zb5 dn))) t4 (vv (.int (dn.length : Int))) (vv (.int (b : Int))) v (vv (herD (dn.take m) b)) (T (TK X E j)) (T (TK X dn (m + b))) (vv (herD E 0))) :=
    yo7 X (dn := E) (k := j) rfl hjE (by omega)
   refine ⟨L12 ns X (T (TK X E (j + 1))) (vv (.lst (zb5 dn))) t4 (vv (.int (dn.length : Int))) (vv (.int (b : Int))) v (vv (herD (dn.take m) b)) (T (TK X E (j + 1))) (T (TK X dn (m + b))) (vv (herD E 0)), _, by rw [← hv]; rfl, ifO_n (oOr_f (oB_ok (oOp2_ok g1 g2 (ne_kd _))) (zO7 (tB_ok (op2 (zB6 X (dn := E) (k := j) rfl (by omega)) (zB6 X (dn := E) (k := j) rfl (by omega)) (yk7 (zO8 hEs j)))))), _, rfl⟩
 rw [Nat.sub_self] at l5
 rw [zd1 (by rw [zn5, r5, Fl.of_ok]; exact l5)]
 have f1 : eOp eqD (nowE 10) (eOp ixD (eVar 3) (eNeg (eC (.int 1)))) (L12 ns X (T (TK X E 0)) (vv (.lst (zb5 dn))) t4 (vv (.int (dn.length : Int))) (vv (.int (b : Int))) t9 (vv (herD (dn.take m) b)) (T (TK X E 0)) (T (TK X dn (m + b))) (vv (herD E 0))) = .ok (.bl true) := by
  refine op2 (zB6 X (dn := dn) (k := m + b) rfl (by omega)) (op2 (b := .int (-1)) (za7 rfl) rfl (last_row dn)) ?_
  rw [← hm, List.take_length]
  exact eq_now hs
 have f2 : eOp eqD (nowE 9) (eTup (aCons (eC (.str "")) (aCons (eLst aNil) (aCons (eLst aNil) aNil)))) (L12 ns X (T (TK X E 0)) (vv (.lst (zb5 dn))) t4 (vv (.int (dn.length : Int))) (vv (.int (b : Int))) t9 (vv (herD (dn.take m) b)) (T (TK X E 0)) (T (TK X dn (m + b))) (vv (herD E 0))) = .ok (.bl true) := by
  refine op2 (zB6 X (dn := E) (k := 0) rfl (by omega)) (tup3 rfl nilE nilE) ?_
  exact eq_now (dn := []) (by simp)
 have f3 : eOp eqD (szE 10) (eTup (aCons (eVar 5) (aCons (eC (.int 0)) aNil))) (L12 ns X (T (TK X E 0)) (vv (.lst (zb5 dn))) t4 (vv (.int (dn.length : Int))) (vv (.int (b : Int))) t9 (vv (herD (dn.take m) b)) (T (TK X E 0)) (T (TK X dn (m + b))) (vv (herD E 0))) = .ok (.bl true) := by
  refine op2 (yg5 X (dn := dn) (k := m + b) rfl) (tup2 (za7 rfl) rfl) ?_
  rw [← hm, List.take_length, List.drop_length]
  exact eq_ii _ _
 unfold rtE
 rw [zC6 (d := .bl true) (by rw [zZ0, f1, Rs.bind_ok, zt0, Rs.bind_ok, if_pos rfl, zZ0, f2, Rs.bind_ok, zt0, Rs.bind_ok, if_pos rfl, f3])]
end
theorem main (ns : List Int) (h63 : ns.length ≤ 63) : m_law [.scr ns] = .ok (.bl true) := by
 obtain ⟨X, x1, x2, x3⟩ := names_ok ns 0 4 h63 (by decide) (by decide) (by decide) (by decide)
 have hl : X.length < 64 := by omega
 have st : zf3 12 [.scr ns] = [vv (.scr ns), none, none, none, none, none, none, none, none, none, none, none] := rfl
 have h1 : sSet 1 (eCall zi7 (aCons (eVar 0) (aCons (eC (.int 0)) (aCons (eC (.int 4)) aNil)))) [vv (.scr ns), none, none, none, none, none, none, none, none, none, none, none] = .nx (L12 ns X none none none none none none none none none none) :=
  zs4 (call3 (za7 rfl) rfl rfl x1)
 have h2 : sMake 2 "Trail" zd6 (aCons (eVar 1) aNil) (L12 ns X none none none none none none none none none none) = .nx (L12 ns X (T (TG X [] [])) none none none none none none none none none) :=
  yl2 (arg1 (za7 rfl)) (ym9 X)
 have h3 : sSetO 3 (fun τ => ((aCons (nowE 2) aNil) τ).bind fun ds => if ds.length ≤ sizeLine then .ok ds else .no) (L12 ns X (T (TG X [] [])) none none none none none none none none none) = .nx (L12 ns X (T (TG X [] [])) (some (.own (zb5 []))) none none none none none none none none) := by
  refine yh2 (ds := [nowD []]) ?_
  show Rs.bind _ _ = _
  rw [arg1 (a := nowD []) (zB6 X (dn := []) (k := 0) rfl (by simp)), Rs.bind_ok]
  exact if_pos (size1 _)
 have dl := zp6 ns 99 (m := 6) (by decide)
 have dk := zo9 ns 99 6 h63 (by decide) (by decide) (by decide)
 generalize drawZ ns 99 6 = M at dl dk
 obtain ⟨n, hn⟩ : ∃ n : Nat, (n : Int) = 2 + M := ⟨(2 + M).toNat, by omega⟩
 have r4 : iRg1 (aCons (eOp addD (eC (.int 2)) (eCall zb0 (aCons (eVar 0) (aCons (eC (.int 99)) (aCons (eC (.int 6)) aNil))))) aNil) (L12 ns X (T (TG X [] [])) (some (.own (zb5 []))) none none none none none none none none) = .ok ((List.range n).map fun (k : Nat) => D.int (0 + k)) := by
  refine zC5 ?_ (by omega)
  rw [op2 (a := .int 2) rfl (call3 (za7 rfl) rfl rfl dk) zi5, hn]
 obtain ⟨τ4, l4, dn, t4, d1, d2, rfl⟩ := zo1 (set := gNm 4) (body := lpB) (fun (k : Nat) => D.int (0 + k)) (fun k τ => ∃ dn t, dn.length = k ∧ (∀ s ∈ dn, okS s) ∧ τ = L12 ns X (T (TG X dn [])) (some (.own (zb5 dn))) t none none none none none none none) n
  (L12 ns X (T (TG X [] [])) (some (.own (zb5 []))) none none none none none none none none) ⟨[], none, rfl, by simp, rfl⟩ fun k τ hk ⟨dn, t, d1, d2, e⟩ => by
   subst e
   obtain ⟨s, o, hs⟩ := zQ3 ns X (100 + 50 * (0 + (k : Int))) dn h63 (by omega) (by omega) x3 hl (by omega) d2
   generalize hv : vv (.int (0 + (k : Int))) = v
   have b1 : zl6 (oDefM 2 "Trail" zh2 (aCons (eVar 0) (aCons (eOp addD (eC (.int 100)) (eOp mulD (eC (.int 50)) (eVar 4))) aNil)) (aCons (eVar 1) aNil)) (L12 ns X (T (TG X dn [])) (some (.own (zb5 dn))) v none none none none none none none) = .nx (L12 ns X (T (TG X (dn ++ [s]) [])) (some (.own (zb5 dn))) v none none none none none none none) := by
    rw [← hv]
    exact zq3 (zC0 (n := 0) (o := TG X dn []) rfl (arg2 (za7 rfl) (op2 rfl (op2 rfl (za7 rfl) (zv3 (by omega))) zi5)) (arg1 (za7 rfl)) (hs []))
   have b2 : sApp 3 (nowE 2) (L12 ns X (T (TG X (dn ++ [s]) [])) (some (.own (zb5 dn))) v none none none none none none none) = .nx (L12 ns X (T (TG X (dn ++ [s]) [])) (some (.own (zb5 (dn ++ [s])))) v none none none none none none none) := by
    rw [rows_add]
    refine app_nx (ds := zb5 dn) (d := nowD (dn ++ [s])) rfl ?_ (by rw [zD9]; omega)
    exact zJ0 (ob_o (n := 0) (fs := TG X (dn ++ [s]) []) rfl) zb4 zb4 (yk5 X _ _ (by simp; omega))
   refine ⟨L12 ns X (T (TG X dn [])) (some (.own (zb5 dn))) v none none none none none none none, _, by rw [← hv]; rfl, by unfold lpB; rw [zd1 b1]; exact b2, dn ++ [s], v, by simp [d1], fun s' h => ?_, rfl⟩
   rcases List.mem_append.mp h with h | h
   ·exact d2 s' h
   ·obtain rfl := List.mem_singleton.mp h; exact o
 have h5 : sSet 5 (eOp subD (eLenO 3) (eC (.int 1))) (L12 ns X (T (TG X dn [])) (some (.own (zb5 dn))) t4 none none none none none none none) = .nx (L12 ns X (T (TG X dn [])) (some (.own (zb5 dn))) t4 (vv (.int (dn.length : Int))) none none none none none none) := by
  refine zs4 (op2 (a := .int ((zb5 dn).length : Int)) (b := .int 1) rfl rfl ?_)
  rw [zp1, zD9]; congr 2; omega
 have hf : ∀ t, ∃ t', frzT (L12 ns X (T (TG X dn [])) (some (.own (zb5 dn))) t (vv (.int (dn.length : Int))) none none none none none none) = L12 ns X (T (TG X dn [])) (vv (.lst (zb5 dn))) t' (vv (.int (dn.length : Int))) none none none none none none := fun t => ⟨_, rfl⟩
 obtain ⟨t', hf⟩ := hf t4
 unfold m_law
 rw [zf5, st, law_b, zd1 h1, zd1 h2, zd1 h3, zd1 (by rw [zn5, r4, Fl.of_ok]; exact l4), zd1 h5]
 show flRes (rest (frzT _)) = _
 rw [hf, rest_ok ns X dn t' h63 x3 hl (by omega) (by omega) d2]
 rfl
set_option maxHeartbeats 4000000
def top (i : Nat) : Stmt := PySem.Challenge.pw_fewfind_k94_whole_back_and_twins.main.body.getD i (.Pass ⟨0, 0, 0, 0⟩)
section
variable {P : Program} {w : World} {K : PySem.W.Frag} {mg : Str → Option Value} {base : Heap}
abbrev zm3 : Stmt := top 40
theorem zS7 : zb8 ["_law_script", "_law_k"] ["_law_script", "_law_k"] (za3 zm3) := ⟨rfl, rfl, rfl, by decide +kernel, rfl, by decide +kernel, by decide +kernel⟩
theorem zT9 {f : Addr} {fd : FuncData} (A_ : DefAt K mg "_law_cell" zm3 f fd) (z_len : mg "len" = none) : DefOk P w K mg base "_law_cell" 1 2 ["_law_script", "_law_k"] zo7 := by
 refine DefOk.mk (k := 0) A_ zS7 rfl (fun _ _ _ _ _ _ us hl => match us, hl with | [_, _], _ => rfl) (fun cdv A outer s H E hr => ?_) fun _ _ _ h => h
 exact (za5 (zj3 (zc8 (zn9 hr.units) (za1 (pv 0)) (zu9 za4) (ze1 _)) (za8 (zc9 (zb6 zp4 za6 (za1 (pv 1))))) zd2) (za8 (zc9 (zb6 zc3 (zd5 ix_ok (za1 (pv 0)) (zb6 zB2 (za1 (pv 1)) (zd3 zn4 rfl z_len PySem.boot_len (za0 (za1 (pv 0)) za4)))) (zb6 zp4 za6 (zb6 zE7 (za1 (pv 1)) (zd3 zn4 rfl z_len PySem.boot_len (za0 (za1 (pv 0)) za4))))))))
abbrev zk5 : Stmt := top 41
theorem sc__law_drawn : zb8 ["_law_script", "_law_k", "_law_many", "_law_cell_here"] ["_law_script", "_law_k", "_law_many"] (za3 zk5) := ⟨rfl, rfl, rfl, by decide +kernel, rfl, by decide +kernel, by decide +kernel⟩
theorem zP5 {f : Addr} {fd : FuncData} (A_ : DefAt K mg "_law_drawn" zk5 f fd) (h__law_cell : DefOk P w K mg base "_law_cell" 1 2 ["_law_script", "_law_k"] zo7) : DefOk P w K mg base "_law_drawn" 2 3 ["_law_script", "_law_k", "_law_many"] zb0 := by
 refine DefOk.mk (k := 1) A_ sc__law_drawn rfl (fun _ _ _ _ _ _ us hl => match us, hl with | [_, _, _], _ => rfl) (fun cdv A outer s H E hr => ?_) fun _ _ _ h => h
 exact (za5 (ze5 (i := 3) sc__law_drawn.nd rfl (Or.inl rfl) (zb6 zB2 (zb6 zc3 (zb6 zp4 (zb6 zB2 (zc4 h__law_cell (hr.mono (by decide)) (za0 (za1 (pv 0)) (za0 (za1 (pv 1)) za4)) (za2 (za2 za9))) za6) za6) (zb6 zp4 za6 (zb6 zc3 (za1 (pv 1)) za6))) za6)) (za5 (ze5 (i := 3) sc__law_drawn.nd rfl (Or.inl rfl) (zb6 zB2 (zb6 zc3 (zb6 zp4 (za1 (pv 3)) (za1 (pv 3))) (zb6 zE7 (za1 (pv 3)) za6)) za6)) (za8 (zc9 (zb6 zB2 (zb6 zE7 (zb6 zB2 (zb6 zc3 (zb6 zp4 (za1 (pv 3)) (za1 (pv 3))) (zb6 zE7 (za1 (pv 3)) za6)) za6) za6) (za1 (pv 2)))))))
abbrev zm0 : Stmt := top 42
theorem sc__law_name : zb8 ["_law_script", "_law_at", "_law_found", "_law_k"] ["_law_script", "_law_at"] (za3 zm0) := ⟨rfl, rfl, rfl, by decide +kernel, rfl, by decide +kernel, by decide +kernel⟩
theorem zT6 {f : Addr} {fd : FuncData} (A_ : DefAt K mg "_law_name" zm0 f fd) (h__law_drawn : DefOk P w K mg base "_law_drawn" 2 3 ["_law_script", "_law_k", "_law_many"] zb0) (z_range : mg "range" = none) : DefOk P w K mg base "_law_name" 3 2 ["_law_script", "_law_at"] zk8 := by
 refine DefOk.mk (k := 2) A_ sc__law_name rfl (fun _ _ _ _ _ _ us hl => match us, hl with | [_, _], _ => rfl) (fun cdv A outer s H E hr => ?_) fun _ _ _ h => h
 exact (za5 (ze5 (i := 2) sc__law_name.nd rfl (Or.inl rfl) zq7) (za5 (zn7 PassesOwn.never rfl (zi4 rfl z_range (za0 (zb6 zc3 za6 (zc4 h__law_drawn (hr.mono (by decide)) (za0 (za1 (pv 0)) (za0 (za1 (pv 1)) (za0 za6 za4))) (za2 (za2 (za2 za9))))) za4)) (zf8 sc__law_name.nd rfl (Or.inl rfl)) (za8 (ze5 (i := 2) sc__law_name.nd rfl (Or.inl rfl) (zb6 zc3 (za1 (pv 2)) (zd5 ix_ok zq7 (zc4 h__law_drawn (hr.mono (by decide)) (za0 (za1 (pv 0)) (za0 (zb6 zc3 (zb6 zc3 (za1 (pv 1)) za6) (za1 (pv 3))) (za0 za6 za4))) (za2 (za2 (za2 za9))))))))) (za8 (zc9 (za1 (pv 2))))))
abbrev zk3 : Stmt := top 44
theorem sc__law_names : zb8 ["_law_script", "_law_at", "_law_most", "_law_found"] ["_law_script", "_law_at", "_law_most"] (za3 zk3) := ⟨rfl, rfl, rfl, by decide +kernel, rfl, by decide +kernel, by decide +kernel⟩
theorem zP3 {f : Addr} {fd : FuncData} (A_ : DefAt K mg "_law_names" zk3 f fd) (h__law_drawn : DefOk P w K mg base "_law_drawn" 2 3 ["_law_script", "_law_k", "_law_many"] zb0) (h__law_name : DefOk P w K mg base "_law_name" 3 2 ["_law_script", "_law_at"] zk8) (z_len : mg "len" = none) (z_range : mg "range" = none) : DefOk P w K mg base "_law_names" 4 3 ["_law_script", "_law_at", "_law_most"] zi7 := by
 refine DefOk.mk (k := 3) A_ sc__law_names rfl (fun _ _ _ _ _ _ us hl => match us, hl with | [_, _, _], _ => rfl) (fun cdv A outer s H E hr => ?_) fun _ _ _ h => h
 exact (za5 (yi6 (i := 3) sc__law_names.nd rfl rfl rfl (tn := ["_law_k"]) (fr := ["_law_script", "_law_at"]) (idx := [0, 1]) rfl rfl ⟨rfl, rfl, ⟨rfl, rfl, trivial⟩⟩ (zw6 0) (zi4 rfl z_range (za0 (zc4 h__law_drawn (hr.mono (by decide)) (za0 (za1 (pv 0)) (za0 (za1 (pv 1)) (za0 (zb6 zc3 (za1 (pv 2)) za6) za4))) (za2 (za2 (za2 za9)))) za4)) (fun s H C fp => (zf8 (show List.Nodup (["_law_k", "_law_script", "_law_at"] : List Str) by decide +kernel) rfl (Or.inl rfl))) (fun s H C fp => zE1) (fun s H C fp => (zc4 h__law_name (hr.mono (by decide)) (za0 (za1 (pv 1)) (za0 (zb6 zc3 (zb6 zc3 (za1 (pv 2)) za6) (zb6 zp4 za6 (za1 (pv 0)))) za4)) (za2 (za2 za9))))) (za5 (zj3 (pdt_w (zG3 (zc8 yb3 (zE5 (pv 3) rfl z_len) za6 (ze1 _)) (zy7 (zc8 (zn9 hr.units) (zc4 h__law_drawn (hr.mono (by decide)) (za0 (za1 (pv 0)) (za0 (zb6 zc3 (za1 (pv 1)) za6) (za0 za6 za4))) (za2 (za2 (za2 za9)))) za6 (ze1 _))))) (za8 (pds_put (pv 3) za6 (pde_ixO (pv 3) (zn8 za6)))) zd2) (za8 (zy9 (pv 3)))))
abbrev zh3 : Stmt := zr1 (top 38) 0
theorem zA8 : zb8 ["self", "names"] ["self", "names"] (za3 zh3) := ⟨rfl, rfl, rfl, by decide +kernel, rfl, by decide +kernel, by decide +kernel⟩
theorem zB4 {C_Trail : Addr} (A_Trail : ClsAt K mg "Trail" C_Trail) (n_Trail_undone : NoAttr K C_Trail "undone") (n_Trail_done : NoAttr K C_Trail "done") (n_Trail_names : NoAttr K C_Trail "names") (z_list : mg "list" = none) {f : Addr} {fd : FuncData} (M_ : Mk K C_Trail f) (D_ : Fun K "__init__" "Trail.__init__" zh3 f fd) : ClsM P w K mg base "Trail" 1 1 ["self", "names"] zd6 := by
 refine ClsM.mk (k := 0) A_Trail M_ D_ zA8 rfl (fun _ _ _ _ _ _ us hl => match us, hl with | [_, _], _ => rfl) (fun cdv A outer s H E hr => ?_)
 exact (za5 (pds_at (pv 0) A_Trail.ns A_Trail.cls n_Trail_names (ye2 (cd_list rfl) rfl z_list PyProof.Rows.boot_list (za0 (za1 (pv 1)) za4)) (by decide +kernel)) (za5 (zG7 (pv 0) A_Trail.ns A_Trail.cls n_Trail_done (zu8 za4) (by decide +kernel)) (za8 (zG7 (pv 0) A_Trail.ns A_Trail.cls n_Trail_undone (zu8 za4) (by decide +kernel)))))
abbrev zq4 : Stmt := top 31
theorem zW5 : zb8 ["names", "rows"] ["names", "rows"] (za3 zq4) := ⟨rfl, rfl, rfl, by decide +kernel, rfl, by decide +kernel, by decide +kernel⟩
theorem zX5 {f c : Addr} (A_ : yp2 K mg "in_order" zq4 f c 126) (bm : BM mg base) (z_len : mg "len" = none) (z_sorted : mg "sorted" = none) : DefOk P w K mg base "in_order" 4 2 ["names", "rows"] zn1 := by
 refine DefOk.mkL (k := 3) A_ zW5 rfl (fun _ _ _ _ _ _ us hl => match us, hl with | [_, _], _ => rfl) (fun A outer s H E hr => ?_)
 exact (za8 (zc9 (yj0 (P := 126) (p := "row") (fr := ["names"]) (idx := [0]) rfl z_sorted PyProof.Rows.boot_sorted (za1 (pv 1)) (hr.mono (by decide)) (TabsU.of (by decide)) bm rfl A_.tab (.head _) rfl ⟨rfl, rfl, trivial⟩ rfl rfl rfl (fun _ _ _ _ _ => rfl) (fun s H f cd => (zg3 (za0 (zn8 (zd5 ix_ok (za1 (pv 0)) za6)) (za0 (zd3 zn4 rfl z_len PySem.boot_len (za0 (zd5 ix_ok (za1 (pv 1)) (zd5 ix_ok (za1 (pv 0)) za6)) za4)) (za0 (zd5 ix_ok (za1 (pv 0)) za6) za4))))))))
abbrev zk0 : Stmt := top 32
theorem zM8 : zb8 ["names", "rows", "many"] ["names", "rows", "many"] (za3 zk0) := ⟨rfl, rfl, rfl, by decide +kernel, rfl, by decide +kernel, by decide +kernel⟩
theorem zP0 {f : Addr} {fd : FuncData} (A_ : DefAt K mg "first_rows" zk0 f fd) (h_in_order : DefOk P w K mg base "in_order" 4 2 ["names", "rows"] zn1) (z_max : mg "max" = none) : DefOk P w K mg base "first_rows" 5 3 ["names", "rows", "many"] zi6 := by
 refine DefOk.mk (k := 4) A_ zM8 rfl (fun _ _ _ _ _ _ us hl => match us, hl with | [_, _, _], _ => rfl) (fun cdv A outer s H E hr => ?_) fun _ _ _ h => h
 exact (za8 (zc9 (pde_sl (zc4 h_in_order (hr.mono (by decide)) (za0 (za1 (pv 0)) (za0 (za1 (pv 1)) za4)) (za2 (za2 za9))) pdo_none (zO1 (zd3 (cd_max2 rfl) rfl z_max boot_max (za0 (za1 (pv 2)) (za0 za6 za4)))))))
abbrev ze6 : Stmt := top 20
theorem sc_beginning_points : zb8 ["name", "place", "ahead"] ["name", "place"] (za3 ze6) := ⟨rfl, rfl, rfl, by decide +kernel, rfl, by decide +kernel, by decide +kernel⟩
theorem zx7 {f : Addr} {fd : FuncData} (A_ : DefAt K mg "beginning_points" ze6 f fd) {t_FIGURES : Tok} (g_FIGURES : mg "FIGURES" = some (.str "0123456789" t_FIGURES)) {t_SMALL : Tok} (g_SMALL : mg "SMALL" = some (.str "abcdefghijklmnopqrstuvwxyz" t_SMALL)) {t_GREAT : Tok} (g_GREAT : mg "GREAT" = some (.str "ABCDEFGHIJKLMNOPQRSTUVWXYZ" t_GREAT)) {t_AT_GREAT : Tok} (g_AT_GREAT : mg "AT_GREAT" = some (.int 5 t_AT_GREAT)) {t_MARKS : Tok} (g_MARKS : mg "MARKS" = some (.str "_-./" t_MARKS)) {t_BEHIND_MARK : Tok} (g_BEHIND_MARK : mg "BEHIND_MARK" = some (.int 6 t_BEHIND_MARK)) {t_AT_BEGINNING : Tok} (g_AT_BEGINNING : mg "AT_BEGINNING" = some (.int 8 t_AT_BEGINNING)) : DefOk P w K mg base "beginning_points" 1 2 ["name", "place"] zg0 := by
 refine DefOk.mk (k := 0) A_ sc_beginning_points rfl (fun _ _ _ _ _ _ us hl => match us, hl with | [_, _], _ => rfl) (fun cdv A outer s H E hr => ?_) fun _ _ _ h => h
 exact (za5 (zj3 (zc8 (zn9 hr.units) (za1 (pv 1)) za6 (ze1 _)) (za8 (zc9 (zv0 rfl g_AT_BEGINNING))) zd2) (za5 (ze5 (i := 2) sc_beginning_points.nd rfl (Or.inl rfl) (zd5 ix_ok (za1 (pv 0)) (zb6 zm4 (za1 (pv 1)) za6))) (za5 (zj3 (zc8 (zL7 (zA9 hr)) (za1 (pv 2)) (zs0 rfl g_MARKS) (by with_unfolding_all rfl)) (za8 (zc9 (zv0 rfl g_BEHIND_MARK))) zd2) (za5 (zj3 (pdt_w (zG3 (zc8 (zL7 (zA9 hr)) (zd5 ix_ok (za1 (pv 0)) (za1 (pv 1))) (zs0 rfl g_GREAT) (by with_unfolding_all rfl)) (zy7 (pdt_w (ya7 (zc8 (zL7 (zA9 hr)) (za1 (pv 2)) (zs0 rfl g_SMALL) (by with_unfolding_all rfl)) (zN6 (zc8 (zL7 (zA9 hr)) (za1 (pv 2)) (zs0 rfl g_FIGURES) (by with_unfolding_all rfl)))))))) (za8 (zc9 (zv0 rfl g_AT_GREAT))) zd2) (za8 (zc9 za6))))))
abbrev zj9 : Stmt := top 21
theorem sc_own_points : zb8 ["sign", "name", "place", "same"] ["sign", "name", "place"] (za3 zj9) := ⟨rfl, rfl, rfl, by decide +kernel, rfl, by decide +kernel, by decide +kernel⟩
theorem zO9 {f : Addr} {fd : FuncData} (A_ : DefAt K mg "own_points" zj9 f fd) (h_beginning_points : DefOk P w K mg base "beginning_points" 1 2 ["name", "place"] zg0) {t_EACH_PLACE : Tok} (g_EACH_PLACE : mg "EACH_PLACE" = some (.int 10 t_EACH_PLACE)) {t_SAME_SIGN : Tok} (g_SAME_SIGN : mg "SAME_SIGN" = some (.int 1 t_SAME_SIGN)) : DefOk P w K mg base "own_points" 2 3 ["sign", "name", "place"] zf6 := by
 refine DefOk.mk (k := 1) A_ sc_own_points rfl (fun _ _ _ _ _ _ us hl => match us, hl with | [_, _, _], _ => rfl) (fun cdv A outer s H E hr => ?_) fun _ _ _ h => h
 exact (za5 (ze5 (i := 3) sc_own_points.nd rfl (Or.inl rfl) (pde_if (zc8 (zn9 hr.units) (zd5 ix_ok (za1 (pv 1)) (za1 (pv 2))) (za1 (pv 0)) (ze1 _)) (zv0 rfl g_SAME_SIGN) za6)) (za8 (zc9 (zb6 zc3 (zb6 zc3 (zv0 rfl g_EACH_PLACE) (zc4 h_beginning_points (hr.mono (by decide)) (za0 (za1 (pv 1)) (za0 (za1 (pv 2)) za4)) (za2 (za2 za9)))) (za1 (pv 3))))))
abbrev zx5 : Stmt := top 8
theorem sc_meets : zb8 ["sign", "other"] ["sign", "other"] (za3 zx5) := ⟨rfl, rfl, rfl, by decide +kernel, rfl, by decide +kernel, by decide +kernel⟩
theorem ok_meets {f : Addr} {fd : FuncData} (A_ : DefAt K mg "meets" zx5 f fd) {t_SMALL : Tok} (g_SMALL : mg "SMALL" = some (.str "abcdefghijklmnopqrstuvwxyz" t_SMALL)) : DefOk P w K mg base "meets" 1 2 ["sign", "other"] zo0 := by
 refine DefOk.mk (k := 0) A_ sc_meets rfl (fun _ _ _ _ _ _ us hl => match us, hl with | [_, _], _ => rfl) (fun cdv A outer s H E hr => ?_) fun _ _ _ h => h
 exact (za8 (zc9 (pde_or (zv1 (zn9 hr.units) (za1 (pv 0)) (za1 (pv 1)) (ze1 _)) (zO2 (zX4 (zv1 (zL7 (zA9 hr)) (za1 (pv 0)) (zs0 rfl g_SMALL) (by with_unfolding_all rfl)) (zO2 (zv1 (zn9 hr.units) (yi9 (za1 (pv 0))) (za1 (pv 1)) (ze1 _))))))))
abbrev zf1 : Stmt := top 25
theorem zy5 : zb8 ["sign", "name"] ["sign", "name"] (za3 zf1) := ⟨rfl, rfl, rfl, by decide +kernel, rfl, by decide +kernel, by decide +kernel⟩
theorem zz2 {f : Addr} {fd : FuncData} (A_ : DefAt K mg "last_sign_tails" zf1 f fd) (h_meets : DefOk P w K mg base "meets" 1 2 ["sign", "other"] zo0) (h_own_points : DefOk P w K mg base "own_points" 2 3 ["sign", "name", "place"] zf6) (z_len : mg "len" = none) (z_range : mg "range" = none) : DefOk P w K mg base "last_sign_tails" 3 2 ["sign", "name"] ze3 := by
 refine DefOk.mk (k := 2) A_ zy5 rfl (fun _ _ _ _ _ _ us hl => match us, hl with | [_, _], _ => rfl) (fun cdv A outer s H E hr => ?_) fun _ _ _ h => h
 exact (za8 (zc9 (zL6 (zE4 (tn := ["place"]) (fr := ["sign", "name"]) (idx := [0, 1]) rfl rfl ⟨rfl, rfl, ⟨rfl, rfl, trivial⟩⟩ (zw6 0) (zi4 rfl z_range (za0 (zd3 zn4 rfl z_len PySem.boot_len (za0 (za1 (pv 1)) za4)) za4)) (fun s H C fp => (zf8 (show List.Nodup (["place", "sign", "name"] : List Str) by decide +kernel) rfl (Or.inl rfl))) (fun s H C fp => (zN7 (zG4 (zc4 h_meets (hr.mono (by decide)) (za0 (za1 (pv 1)) (za0 (zd5 ix_ok (za1 (pv 2)) (za1 (pv 0))) za4)) (za2 (za2 za9)))))) (fun s H C fp => (zg3 (za0 (zc4 h_own_points (hr.mono (by decide)) (za0 (za1 (pv 1)) (za0 (za1 (pv 2)) (za0 (za1 (pv 0)) za4))) (za2 (za2 (za2 za9)))) (za0 (zu9 (za0 (za1 (pv 0)) za4)) za4))))))))
abbrev zh1 : Stmt := top 24
theorem sc_first_of_most : zb8 ["tails", "chosen", "tail"] ["tails"] (za3 zh1) := ⟨rfl, rfl, rfl, by decide +kernel, rfl, by decide +kernel, by decide +kernel⟩
theorem zD7 {f : Addr} {fd : FuncData} (A_ : DefAt K mg "first_of_most" zh1 f fd) : DefOk P w K mg base "first_of_most" 1 1 ["tails"] zd0 := by
 refine DefOk.mk (k := 0) A_ sc_first_of_most rfl (fun _ _ _ _ _ _ us hl => match us, hl with | [_], _ => rfl) (fun cdv A outer s H E hr => ?_) fun _ _ _ h => h
 exact (za5 (ze5 (i := 1) sc_first_of_most.nd rfl (Or.inl rfl) zO3) (za5 (zn7 PassesOwn.never rfl (zB1 (za1 (pv 0))) (zf8 sc_first_of_most.nd rfl (Or.inl rfl)) (za8 (zj3 (pdt_w (ya7 (zc8 opd_is (za1 (pv 1)) zO3 (ze1 _)) (zN6 (zc8 yb3 (zd5 ix_ok (za1 (pv 2)) za6) (zd5 ix_ok (za1 (pv 1)) za6) (ze1 _))))) (za8 (ze5 (i := 1) sc_first_of_most.nd rfl (Or.inl rfl) (za1 (pv 2)))) zd2))) (za8 (zc9 (za1 (pv 1))))))
abbrev zi8 : Stmt := top 23
theorem sc_link_points : zb8 ["ahead", "place", "between"] ["ahead", "place"] (za3 zi8) := ⟨rfl, rfl, rfl, by decide +kernel, rfl, by decide +kernel, by decide +kernel⟩
theorem zK3 {f : Addr} {fd : FuncData} (A_ : DefAt K mg "link_points" zi8 f fd) {t_MOST_BETWEEN : Tok} (g_MOST_BETWEEN : mg "MOST_BETWEEN" = some (.int 5 t_MOST_BETWEEN)) {t_BESIDE : Tok} (g_BESIDE : mg "BESIDE" = some (.int 7 t_BESIDE)) (z_min : mg "min" = none) : DefOk P w K mg base "link_points" 1 2 ["ahead", "place"] zj0 := by
 refine DefOk.mk (k := 0) A_ sc_link_points rfl (fun _ _ _ _ _ _ us hl => match us, hl with | [_, _], _ => rfl) (fun cdv A outer s H E hr => ?_) fun _ _ _ h => h
 exact (za5 (ze5 (i := 2) sc_link_points.nd rfl (Or.inl rfl) (zb6 zm4 (zb6 zm4 (za1 (pv 1)) (za1 (pv 0))) za6)) (za5 (zj3 (zc8 (zn9 hr.units) (za1 (pv 2)) za6 (ze1 _)) (za8 (zc9 (zv0 rfl g_BESIDE))) zd2) (za8 (zc9 (zn8 (zd3 (zZ3 rfl) rfl z_min boot_min (za0 (za1 (pv 2)) (za0 (zv0 rfl g_MOST_BETWEEN) za4))))))))
abbrev zh8 : Stmt := top 26
theorem zF7 : zb8 ["place", "tails"] ["place", "tails"] (za3 zh8) := ⟨rfl, rfl, rfl, by decide +kernel, rfl, by decide +kernel, by decide +kernel⟩
theorem zH5 {f : Addr} {fd : FuncData} (A_ : DefAt K mg "linked_tails" zh8 f fd) (h_link_points : DefOk P w K mg base "link_points" 1 2 ["ahead", "place"] zj0) : DefOk P w K mg base "linked_tails" 2 2 ["place", "tails"] zg6 := by
 refine DefOk.mk (k := 1) A_ zF7 rfl (fun _ _ _ _ _ _ us hl => match us, hl with | [_, _], _ => rfl) (fun cdv A outer s H E hr => ?_) fun _ _ _ h => h
 exact (za8 (zc9 (zL6 (zE4 (tn := ["tail"]) (fr := ["place"]) (idx := [0]) rfl rfl ⟨rfl, rfl, trivial⟩ (zw6 0) (zB1 (za1 (pv 1))) (fun s H C fp => (zf8 (show List.Nodup (["tail", "place"] : List Str) by decide +kernel) rfl (Or.inl rfl))) (fun s H C fp => (zN7 (zc8 yb3 (zd5 ix_ok (zd5 ix_ok (za1 (pv 0)) za6) za6) (za1 (pv 1)) (ze1 _)))) (fun s H C fp => (zg3 (za0 (zb6 zc3 (zd5 ix_ok (za1 (pv 0)) za6) (zc4 h_link_points (hr.mono (by decide)) (za0 (za1 (pv 1)) (za0 (zd5 ix_ok (zd5 ix_ok (za1 (pv 0)) za6) za6) za4)) (za2 (za2 za9)))) (za0 (zd5 ix_ok (za1 (pv 0)) za6) za4))))))))
abbrev zh7 : Stmt := top 27
theorem sc_longer_tails : zb8 ["sign", "name", "tails", "longer", "place", "chosen"] ["sign", "name", "tails"] (za3 zh7) := ⟨rfl, rfl, rfl, by decide +kernel, rfl, by decide +kernel, by decide +kernel⟩
theorem zH4 {f : Addr} {fd : FuncData} (A_ : DefAt K mg "longer_tails" zh7 f fd) (h_meets : DefOk P w K mg base "meets" 1 2 ["sign", "other"] zo0) (h_own_points : DefOk P w K mg base "own_points" 2 3 ["sign", "name", "place"] zf6) (h_linked_tails : DefOk P w K mg base "linked_tails" 2 2 ["place", "tails"] zg6) (h_first_of_most : DefOk P w K mg base "first_of_most" 1 1 ["tails"] zd0) (z_len : mg "len" = none) (z_range : mg "range" = none) : DefOk P w K mg base "longer_tails" 3 3 ["sign", "name", "tails"] zi0 := by
 refine DefOk.mk (k := 2) A_ sc_longer_tails rfl (fun _ _ _ _ _ _ us hl => match us, hl with | [_, _, _], _ => rfl) (fun cdv A outer s H E hr => ?_) fun _ _ _ h => h
 exact (za5 (zy8 (i := 3) sc_longer_tails.nd rfl (Or.inl rfl) (zu8 za4)) (za5 (zn7 PassesOwn.never rfl (zi4 rfl z_range (za0 (zd3 zn4 rfl z_len PySem.boot_len (za0 (za1 (pv 1)) za4)) za4)) (zf8 sc_longer_tails.nd rfl (Or.inl rfl)) (za8 (zj3 (zG4 (zc4 h_meets (hr.mono (by decide)) (za0 (za1 (pv 0)) (za0 (zd5 ix_ok (za1 (pv 1)) (za1 (pv 4))) za4)) (za2 (za2 za9)))) (za5 (ze5 (i := 5) sc_longer_tails.nd rfl (Or.inl rfl) (zc4 h_first_of_most (hr.mono (by decide)) (za0 (zc4 h_linked_tails (hr.mono (by decide)) (za0 (za1 (pv 4)) (za0 (za1 (pv 2)) za4)) (za2 (za2 za9))) za4) (za2 za9))) (za8 (zj3 (zc8 zT4 (za1 (pv 5)) zO3 (ze1 _)) (za8 (zG8 (pv 3) (zg3 (za0 (zb6 zc3 (zc4 h_own_points (hr.mono (by decide)) (za0 (za1 (pv 0)) (za0 (za1 (pv 1)) (za0 (za1 (pv 4)) za4))) (za2 (za2 (za2 za9)))) (zd5 ix_ok (za1 (pv 5)) za6)) (za0 (zb6 zc3 (zu9 (za0 (za1 (pv 4)) za4)) (zd5 ix_ok (za1 (pv 5)) za6)) za4))))) zd2))) zd2))) (za8 (zy9 (pv 3)))))
abbrev zi9 : Stmt := top 22
theorem zJ8 : zb8 ["place"] ["place"] (za3 zi9) := ⟨rfl, rfl, rfl, by decide +kernel, rfl, by decide +kernel, by decide +kernel⟩
theorem zK4 {f : Addr} {fd : FuncData} (A_ : DefAt K mg "lead_points" zi9 f fd) {t_MOST_AHEAD : Tok} (g_MOST_AHEAD : mg "MOST_AHEAD" = some (.int 3 t_MOST_AHEAD)) (z_min : mg "min" = none) : DefOk P w K mg base "lead_points" 1 1 ["place"] zh5 := by
 refine DefOk.mk (k := 0) A_ zJ8 rfl (fun _ _ _ _ _ _ us hl => match us, hl with | [_], _ => rfl) (fun cdv A outer s H E hr => ?_) fun _ _ _ h => h
 exact (za8 (zc9 (zn8 (zd3 (zZ3 rfl) rfl z_min boot_min (za0 (za1 (pv 0)) (za0 (zv0 rfl g_MOST_AHEAD) za4))))))
abbrev zG0 : Stmt := top 28
theorem sc_best : zb8 ["query", "name", "tails", "number"] ["query", "name"] (za3 zG0) := ⟨rfl, rfl, rfl, by decide +kernel, rfl, by decide +kernel, by decide +kernel⟩
theorem ok_best {f : Addr} {fd : FuncData} (A_ : DefAt K mg "best" zG0 f fd) (h_lead_points : DefOk P w K mg base "lead_points" 1 1 ["place"] zh5) (h_first_of_most : DefOk P w K mg base "first_of_most" 1 1 ["tails"] zd0) (h_longer_tails : DefOk P w K mg base "longer_tails" 3 3 ["sign", "name", "tails"] zi0) (h_last_sign_tails : DefOk P w K mg base "last_sign_tails" 3 2 ["sign", "name"] ze3) (z_len : mg "len" = none) (z_range : mg "range" = none) : DefOk P w K mg base "best" 4 2 ["query", "name"] zx3 := by
 refine DefOk.mk (k := 3) A_ sc_best rfl (fun _ _ _ _ _ _ us hl => match us, hl with | [_, _], _ => rfl) (fun cdv A outer s H E hr => ?_) fun _ _ _ h => h
 exact (za5 (zj3 (zc8 (zn9 hr.units) (zd3 zn4 rfl z_len PySem.boot_len (za0 (za1 (pv 0)) za4)) za6 (ze1 _)) (za8 (zc9 (zg3 (za0 za6 (za0 (zu9 za4) za4))))) zd2) (za5 (ze5 (i := 2) sc_best.nd rfl (Or.inl rfl) (zc4 h_last_sign_tails (hr.mono (by decide)) (za0 (zd5 ix_ok (za1 (pv 0)) (zn8 za6)) (za0 (za1 (pv 1)) za4)) (za2 (za2 za9)))) (za5 (zn7 PassesOwn.never rfl (zL5 rfl z_range (za0 (zb6 zm4 (zd3 zn4 rfl z_len PySem.boot_len (za0 (za1 (pv 0)) za4)) za6) (za0 (zn8 za6) (za0 (zn8 za6) za4)))) (zf8 sc_best.nd rfl (Or.inl rfl)) (za8 (ze5 (i := 2) sc_best.nd rfl (Or.inl rfl) (zc4 h_longer_tails (hr.mono (by decide)) (za0 (zd5 ix_ok (za1 (pv 0)) (za1 (pv 3))) (za0 (za1 (pv 1)) (za0 (za1 (pv 2)) za4))) (za2 (za2 (za2 za9))))))) (za8 (zc9 (zc4 h_first_of_most (hr.mono (by decide)) (za0 (zL6 (zE4 (tn := ["tail"]) (fr := []) (idx := []) rfl rfl trivial (zw6 0) (zB1 (za1 (pv 2))) (fun s H C fp => (zf8 (show List.Nodup (["tail"] : List Str) by decide +kernel) rfl (Or.inl rfl))) (fun s H C fp => zE1) (fun s H C fp => (zg3 (za0 (zb6 zc3 (zd5 ix_ok (za1 (pv 0)) za6) (zc4 h_lead_points (hr.mono (by decide)) (za0 (zd5 ix_ok (zd5 ix_ok (za1 (pv 0)) za6) za6) za4) (za2 za9))) (za0 (zd5 ix_ok (za1 (pv 0)) za6) za4)))))) za4) (za2 za9)))))))
abbrev zh9 : Stmt := top 30
theorem sc_fitting_rows : zb8 ["names", "query", "numbers", "rows", "number", "laid"] ["names", "query", "numbers"] (za3 zh9) := ⟨rfl, rfl, rfl, by decide +kernel, rfl, by decide +kernel, by decide +kernel⟩
theorem zH6 {f : Addr} {fd : FuncData} (A_ : DefAt K mg "fitting_rows" zh9 f fd) (h_best : DefOk P w K mg base "best" 4 2 ["query", "name"] zx3) : DefOk P w K mg base "fitting_rows" 5 3 ["names", "query", "numbers"] zg7 := by
 refine DefOk.mk (k := 4) A_ sc_fitting_rows rfl (fun _ _ _ _ _ _ us hl => match us, hl with | [_, _, _], _ => rfl) (fun cdv A outer s H E hr => ?_) fun _ _ _ h => h
 exact (za5 (zy8 (i := 3) sc_fitting_rows.nd rfl (Or.inl rfl) (zu8 za4)) (za5 (zn7 PassesOwn.never rfl (zB1 (za1 (pv 2))) (zf8 sc_fitting_rows.nd rfl (Or.inl rfl)) (za5 (ze5 (i := 5) sc_fitting_rows.nd rfl (Or.inl rfl) (zc4 h_best (hr.mono (by decide)) (za0 (za1 (pv 1)) (za0 (zd5 ix_ok (za1 (pv 0)) (za1 (pv 4))) za4)) (za2 (za2 za9)))) (za8 (zj3 (zc8 zT4 (za1 (pv 5)) zO3 (ze1 _)) (za8 (zG8 (pv 3) (zg3 (za0 (zd5 ix_ok (za1 (pv 5)) za6) (za0 (za1 (pv 4)) za4))))) zd2)))) (za8 (zy9 (pv 3)))))
abbrev zo2 : Stmt := top 33
theorem zW6 : zb8 ["names", "query"] ["names", "query"] (za3 zo2) := ⟨rfl, rfl, rfl, by decide +kernel, rfl, by decide +kernel, by decide +kernel⟩
theorem zX6 {f : Addr} {fd : FuncData} (A_ : DefAt K mg "all_rows" zo2 f fd) (h_fitting_rows : DefOk P w K mg base "fitting_rows" 5 3 ["names", "query", "numbers"] zg7) (z_len : mg "len" = none) (z_list : mg "list" = none) (z_range : mg "range" = none) : DefOk P w K mg base "all_rows" 6 2 ["names", "query"] zn2 := by
 refine DefOk.mk (k := 5) A_ zW6 rfl (fun _ _ _ _ _ _ us hl => match us, hl with | [_, _], _ => rfl) (fun cdv A outer s H E hr => ?_) fun _ _ _ h => h
 exact (za8 (zc9 (zc4 h_fitting_rows (hr.mono (by decide)) (za0 (za1 (pv 0)) (za0 (za1 (pv 1)) (za0 (zL6 (zH0 rfl rfl z_list rfl z_range (za0 (zd3 zn4 rfl z_len PySem.boot_len (za0 (za1 (pv 0)) za4)) za4))) za4))) (za2 (za2 (za2 za9))))))
abbrev zx6 : Stmt := top 34
theorem sc_finds : zb8 ["names", "query", "many"] ["names", "query", "many"] (za3 zx6) := ⟨rfl, rfl, rfl, by decide +kernel, rfl, by decide +kernel, by decide +kernel⟩
theorem ok_finds {f : Addr} {fd : FuncData} (A_ : DefAt K mg "finds" zx6 f fd) (h_all_rows : DefOk P w K mg base "all_rows" 6 2 ["names", "query"] zn2) (h_first_rows : DefOk P w K mg base "first_rows" 5 3 ["names", "rows", "many"] zi6) : DefOk P w K mg base "finds" 7 3 ["names", "query", "many"] zo6 := by
 refine DefOk.mk (k := 6) A_ sc_finds rfl (fun _ _ _ _ _ _ us hl => match us, hl with | [_, _, _], _ => rfl) (fun cdv A outer s H E hr => ?_) fun _ _ _ h => h
 exact (za8 (zc9 (zc4 h_first_rows (hr.mono (by decide)) (za0 (za1 (pv 0)) (za0 (zc4 h_all_rows (hr.mono (by decide)) (za0 (za1 (pv 0)) (za0 (za1 (pv 1)) za4)) (za2 (za2 za9))) (za0 (za1 (pv 2)) za4))) (za2 (za2 (za2 za9))))))
abbrev zm1 : Stmt := top 43
theorem zS6 : zb8 ["_law_sign"] ["_law_sign"] (za3 zm1) := ⟨rfl, rfl, rfl, by decide +kernel, rfl, by decide +kernel, by decide +kernel⟩
theorem zT7 {f : Addr} {fd : FuncData} (A_ : DefAt K mg "_law_mark" zm1 f fd) : DefOk P w K mg base "_law_mark" 1 1 ["_law_sign"] zk9 := by
 refine DefOk.mk (k := 0) A_ zS6 rfl (fun _ _ _ _ _ _ us hl => match us, hl with | [_], _ => rfl) (fun cdv A outer s H E hr => ?_) fun _ _ _ h => h
 exact (za8 (zc9 (zv1 (zL7 (zA9 hr)) (za1 (pv 0)) zq7 (by with_unfolding_all rfl))))
abbrev zk2 : Stmt := top 45
theorem sc__law_query : zb8 ["_law_script", "_law_at", "_law_name_here", "_law_most", "_law_found", "_law_place", "_law_k", "_law_sign"] ["_law_script", "_law_at", "_law_name_here", "_law_most"] (za3 zk2) := ⟨rfl, rfl, rfl, by decide +kernel, rfl, by decide +kernel, by decide +kernel⟩
theorem zP2 {f : Addr} {fd : FuncData} (A_ : DefAt K mg "_law_query" zk2 f fd) (h__law_drawn : DefOk P w K mg base "_law_drawn" 2 3 ["_law_script", "_law_k", "_law_many"] zb0) (h__law_mark : DefOk P w K mg base "_law_mark" 1 1 ["_law_sign"] zk9) (z_range : mg "range" = none) (z_len : mg "len" = none) (z_min : mg "min" = none) : DefOk P w K mg base "_law_query" 3 4 ["_law_script", "_law_at", "_law_name_here", "_law_most"] zk7 := by
 refine DefOk.mk (k := 2) A_ sc__law_query rfl (fun _ _ _ _ _ _ us hl => match us, hl with | [_, _, _, _], _ => rfl) (fun cdv A outer s H E hr => ?_) fun _ _ _ h => h
 exact (za5 (ze5 (i := 4) sc__law_query.nd rfl (Or.inl rfl) zq7) (za5 (ze5 (i := 5) sc__law_query.nd rfl (Or.inl rfl) za6) (za5 (zn7 PassesOwn.never rfl (zi4 rfl z_range (za0 (zc4 h__law_drawn (hr.mono (by decide)) (za0 (za1 (pv 0)) (za0 (za1 (pv 1)) (za0 (zb6 zc3 (za1 (pv 3)) za6) za4))) (za2 (za2 (za2 za9)))) za4)) (zf8 sc__law_query.nd rfl (Or.inl rfl)) (za5 (ze5 (i := 5) sc__law_query.nd rfl (Or.inl rfl) (zd3 (zZ3 rfl) rfl z_min boot_min (za0 (zb6 zm4 (zd3 zn4 rfl z_len PySem.boot_len (za0 (za1 (pv 2)) za4)) za6) (za0 (zb6 zc3 (za1 (pv 5)) (zc4 h__law_drawn (hr.mono (by decide)) (za0 (za1 (pv 0)) (za0 (zb6 zc3 (zb6 zc3 (za1 (pv 1)) za6) (zb6 zp4 za6 (za1 (pv 6)))) (za0 za6 za4))) (za2 (za2 (za2 za9))))) za4)))) (za5 (ze5 (i := 7) sc__law_query.nd rfl (Or.inl rfl) (yj2 (pde_or (pde_sl (za1 (pv 2)) (zO1 (za1 (pv 5))) (zO1 (zb6 zc3 (za1 (pv 5)) za6))) (zO2 zq7)))) (za5 (ze5 (i := 5) sc__law_query.nd rfl (Or.inl rfl) (zb6 zc3 (za1 (pv 5)) za6)) (za5 (zj3 (zc8 (zn9 hr.units) (zc4 h__law_drawn (hr.mono (by decide)) (za0 (za1 (pv 0)) (za0 (zb6 zc3 (zb6 zc3 (za1 (pv 1)) za6) (zb6 zp4 za6 (za1 (pv 6)))) (za0 za6 za4))) (za2 (za2 (za2 za9)))) za6 (ze1 _)) (za8 (ze5 (i := 7) sc__law_query.nd rfl (Or.inl rfl) (zd5 ix_ok zq7 (zc4 h__law_drawn (hr.mono (by decide)) (za0 (za1 (pv 0)) (za0 (zb6 zc3 (zb6 zc3 (za1 (pv 1)) za6) (zb6 zp4 za6 (za1 (pv 6)))) (za0 za6 za4))) (za2 (za2 (za2 za9))))))) zd2) (za8 (zj3 (pdt_not (zG4 (zc4 h__law_mark (hr.mono (by decide)) (za0 (za1 (pv 7)) za4) (za2 za9)))) (za8 (ze5 (i := 4) sc__law_query.nd rfl (Or.inl rfl) (zb6 zc3 (za1 (pv 4)) (za1 (pv 7))))) zd2))))))) (za8 (zc9 (za1 (pv 4)))))))
abbrev zk1 : Stmt := top 46
theorem zM9 : zb8 ["_law_script", "_law_at", "_law_names_here"] ["_law_script", "_law_at", "_law_names_here"] (za3 zk1) := ⟨rfl, rfl, rfl, by decide +kernel, rfl, by decide +kernel, by decide +kernel⟩
theorem zP1 {f : Addr} {fd : FuncData} (A_ : DefAt K mg "_law_typed" zk1 f fd) (h__law_drawn : DefOk P w K mg base "_law_drawn" 2 3 ["_law_script", "_law_k", "_law_many"] zb0) (h__law_query : DefOk P w K mg base "_law_query" 3 4 ["_law_script", "_law_at", "_law_name_here", "_law_most"] zk7) (z_len : mg "len" = none) : DefOk P w K mg base "_law_typed" 4 3 ["_law_script", "_law_at", "_law_names_here"] zk6 := by
 refine DefOk.mk (k := 3) A_ zM9 rfl (fun _ _ _ _ _ _ us hl => match us, hl with | [_, _, _], _ => rfl) (fun cdv A outer s H E hr => ?_) fun _ _ _ h => h
 exact (za8 (zc9 (zc4 h__law_query (hr.mono (by decide)) (za0 (za1 (pv 0)) (za0 (za1 (pv 1)) (za0 (zd5 ix_ok (zb6 zc3 (za1 (pv 2)) (zu9 (za0 zq7 za4))) (zc4 h__law_drawn (hr.mono (by decide)) (za0 (za1 (pv 0)) (za0 (zb6 zc3 (za1 (pv 1)) za6) (za0 (zb6 zc3 (zd3 zn4 rfl z_len PySem.boot_len (za0 (za1 (pv 2)) za4)) za6) za4))) (za2 (za2 (za2 za9))))) (za0 za6 za4)))) (za2 (za2 (za2 (za2 za9)))))))
abbrev zl4 : Stmt := zr1 (top 38) 4
theorem zK2 : zb8 ["self"] ["self"] (za3 zl4) := ⟨rfl, rfl, rfl, by decide +kernel, rfl, by decide +kernel, by decide +kernel⟩
theorem zK8 {C_Trail : Addr} (A_Trail : ClsAt K mg "Trail" C_Trail) (n_Trail_done : NoAttr K C_Trail "done") {t_ASK : Tok} (g_ASK : mg "ASK" = some (.str "ask" t_ASK)) (z_len : mg "len" = none) {f : Addr} {fd : FuncData} (M_ : Meth K C_Trail "asked" f) (D_ : Fun K "asked" "Trail.asked" zl4 f fd) : MetR P w K mg base "Trail" "asked" 1 0 ["self"] zd4 := by
 refine MetR.mk (k := 0) A_Trail M_ D_ zK2 rfl (fun _ _ _ _ _ _ us hl => match us, hl with | [_], _ => rfl) (fun cdv A outer s H E hr => ?_)
 exact (za5 (zj3 (pdt_w (zG3 (zc8 yb3 (zz0 (pv 0) A_Trail.ns A_Trail.cls n_Trail_done rfl z_len (by decide +kernel)) za6 (ze1 _)) (zy7 (zc8 (zn9 hr.units) (zd5 ix_ok (zO4 (pv 0) A_Trail.ns A_Trail.cls n_Trail_done (zn8 za6) (by decide +kernel)) za6) (zs0 rfl g_ASK) (ze1 _))))) (za8 (zc9 (zd5 ix_ok (zO4 (pv 0) A_Trail.ns A_Trail.cls n_Trail_done (zn8 za6) (by decide +kernel)) za6))) zd2) (za8 (zc9 zq7)))
abbrev zm8 : Stmt := zr1 (top 38) 1
theorem zN0 : zb8 ["self", "kind", "thing"] ["self", "kind", "thing"] (za3 zm8) := ⟨rfl, rfl, rfl, by decide +kernel, rfl, by decide +kernel, by decide +kernel⟩
theorem zP7 {C_Trail : Addr} (A_Trail : ClsAt K mg "Trail" C_Trail) (n_Trail_undone : NoAttr K C_Trail "undone") (n_Trail_done : NoAttr K C_Trail "done") {f : Addr} {fd : FuncData} (M_ : Meth K C_Trail "step" f) (D_ : Fun K "step" "Trail.step" zm8 f fd) : MetM P w K mg base "Trail" "step" 1 2 ["self", "kind", "thing"] zh6 := by
 refine MetM.mk (k := 0) A_Trail M_ D_ zN0 rfl (fun _ _ _ _ _ _ us hl => match us, hl with | [_, _, _], _ => rfl) (fun cdv A outer s H E hr => ?_)
 exact (za5 (pds_appA (pv 0) A_Trail.ns A_Trail.cls n_Trail_done (zg3 (za0 (za1 (pv 1)) (za0 (za1 (pv 2)) za4))) (by decide +kernel)) (za8 (zG7 (pv 0) A_Trail.ns A_Trail.cls n_Trail_undone (zu8 za4) (by decide +kernel))))
abbrev zm9 : Stmt := zr1 (top 38) 3
theorem sc_Trail_pick : zb8 ["self", "place", "rows", "number"] ["self", "place"] (za3 zm9) := ⟨rfl, rfl, rfl, by decide +kernel, rfl, by decide +kernel, by decide +kernel⟩
theorem zP8 {C_Trail : Addr} (A_Trail : ClsAt K mg "Trail" C_Trail) (n_Trail_names : NoAttr K C_Trail "names") (h_Trail_step : MetM P w K mg base "Trail" "step" 1 2 ["self", "kind", "thing"] zh6) (h_Trail_asked : MetR P w K mg base "Trail" "asked" 1 0 ["self"] zd4) (h_finds : DefOk P w K mg base "finds" 7 3 ["names", "query", "many"] zo6) {t_PICK : Tok} (g_PICK : mg "PICK" = some (.str "pick" t_PICK)) (z_len : mg "len" = none) {f : Addr} {fd : FuncData} (M_ : Meth K C_Trail "pick" f) (D_ : Fun K "pick" "Trail.pick" zm9 f fd) : MetM P w K mg base "Trail" "pick" 8 1 ["self", "place"] zn3 := by
 refine MetM.mk (k := 7) A_Trail M_ D_ sc_Trail_pick rfl (fun _ _ _ _ _ _ us hl => match us, hl with | [_, _], _ => rfl) (fun cdv A outer s H E hr => ?_)
 exact (za5 (ze5 (i := 2) sc_Trail_pick.nd rfl (Or.inl rfl) (zc4 h_finds (hr.mono (by decide)) (za0 (yb2 (pv 0) A_Trail.ns A_Trail.cls n_Trail_names (by decide +kernel)) (za0 (zf9 h_Trail_asked (hr.mono (by decide)) (pv 0)) (za0 (zd3 zn4 rfl z_len PySem.boot_len (za0 (yb2 (pv 0) A_Trail.ns A_Trail.cls n_Trail_names (by decide +kernel)) za4)) za4))) (za2 (za2 (za2 za9))))) (za5 (zj3 (pdt_w (ya7 (zc8 opd_lt (za1 (pv 1)) za6 (ze1 _)) (zN6 (zc8 opd_ge (za1 (pv 1)) (zd3 zn4 rfl z_len PySem.boot_len (za0 (za1 (pv 2)) za4)) (ze1 _))))) (za8 zG5) zd2) (za5 (ze5 (i := 3) sc_Trail_pick.nd rfl (Or.inl rfl) (zd5 ix_ok (zd5 ix_ok (za1 (pv 2)) (za1 (pv 1))) za6)) (za5 (zp2 (zE3 h_Trail_step (hr.mono (by decide)) (pv 0) (za0 (zs0 rfl g_PICK) (za0 (za1 (pv 3)) za4)) (za2 (za2 za9)))) (za8 (zp0 (za1 (pv 3))))))))
abbrev zf2 : Stmt := top 9
theorem sc_earliest_places : zb8 ["query", "name", "places", "place"] ["query", "name"] (za3 zf2) := ⟨rfl, rfl, rfl, by decide +kernel, rfl, by decide +kernel, by decide +kernel⟩
theorem zz3 {f : Addr} {fd : FuncData} (A_ : DefAt K mg "earliest_places" zf2 f fd) (h_meets : DefOk P w K mg base "meets" 1 2 ["sign", "other"] zo0) (z_len : mg "len" = none) (z_range : mg "range" = none) : DefOk P w K mg base "earliest_places" 2 2 ["query", "name"] zh0 := by
 refine DefOk.mk (k := 1) A_ sc_earliest_places rfl (fun _ _ _ _ _ _ us hl => match us, hl with | [_, _], _ => rfl) (fun cdv A outer s H E hr => ?_) fun _ _ _ h => h
 exact (za5 (zy8 (i := 2) sc_earliest_places.nd rfl (Or.inl rfl) (zu8 za4)) (za5 (zn7 PassesOwn.never rfl (zi4 rfl z_range (za0 (zd3 zn4 rfl z_len PySem.boot_len (za0 (za1 (pv 1)) za4)) za4)) (zf8 sc_earliest_places.nd rfl (Or.inl rfl)) (za8 (zj3 (pdt_w (zG3 (zc8 opd_lt (zE5 (pv 2) rfl z_len) (zd3 zn4 rfl z_len PySem.boot_len (za0 (za1 (pv 0)) za4)) (ze1 _)) (zy7 (zG4 (zc4 h_meets (hr.mono (by decide)) (za0 (zd5 ix_ok (za1 (pv 0)) (zE5 (pv 2) rfl z_len)) (za0 (zd5 ix_ok (za1 (pv 1)) (za1 (pv 3))) za4)) (za2 (za2 za9))))))) (za8 (zG8 (pv 2) (za1 (pv 3)))) zd2))) (za8 (zy9 (pv 2)))))
abbrev zF9 : Stmt := top 10
theorem sc_fits : zb8 ["query", "name"] ["query", "name"] (za3 zF9) := ⟨rfl, rfl, rfl, by decide +kernel, rfl, by decide +kernel, by decide +kernel⟩
theorem ok_fits {f : Addr} {fd : FuncData} (A_ : DefAt K mg "fits" zF9 f fd) (h_earliest_places : DefOk P w K mg base "earliest_places" 2 2 ["query", "name"] zh0) (z_len : mg "len" = none) : DefOk P w K mg base "fits" 3 2 ["query", "name"] zC7 := by
 refine DefOk.mk (k := 2) A_ sc_fits rfl (fun _ _ _ _ _ _ us hl => match us, hl with | [_, _], _ => rfl) (fun cdv A outer s H E hr => ?_) fun _ _ _ h => h
 exact (za8 (zc9 (zv1 (zn9 hr.units) (zd3 zn4 rfl z_len PySem.boot_len (za0 (zc4 h_earliest_places (hr.mono (by decide)) (za0 (za1 (pv 0)) (za0 (za1 (pv 1)) za4)) (za2 (za2 za9))) za4)) (zd3 zn4 rfl z_len PySem.boot_len (za0 (za1 (pv 0)) za4)) (ze1 _))))
abbrev zo4 : Stmt := zr1 (top 38) 2
theorem zS8 : zb8 ["self", "query"] ["self", "query"] (za3 zo4) := ⟨rfl, rfl, rfl, by decide +kernel, rfl, by decide +kernel, by decide +kernel⟩
theorem zU0 {C_Trail : Addr} (A_Trail : ClsAt K mg "Trail" C_Trail) (n_Trail_names : NoAttr K C_Trail "names") (h_Trail_step : MetM P w K mg base "Trail" "step" 1 2 ["self", "kind", "thing"] zh6) (h_fits : DefOk P w K mg base "fits" 3 2 ["query", "name"] zC7) {t_ASK : Tok} (g_ASK : mg "ASK" = some (.str "ask" t_ASK)) (z_len : mg "len" = none) {f : Addr} {fd : FuncData} (M_ : Meth K C_Trail "ask" f) (D_ : Fun K "ask" "Trail.ask" zo4 f fd) : MetM P w K mg base "Trail" "ask" 4 1 ["self", "query"] zo8 := by
 refine MetM.mk (k := 3) A_Trail M_ D_ zS8 rfl (fun _ _ _ _ _ _ us hl => match us, hl with | [_, _], _ => rfl) (fun cdv A outer s H E hr => ?_)
 exact (za5 (zp2 (zE3 h_Trail_step (hr.mono (by decide)) (pv 0) (za0 (zs0 rfl g_ASK) (za0 (za1 (pv 1)) za4)) (za2 (za2 za9)))) (za8 (zp0 (zd3 zn4 rfl z_len PySem.boot_len (za0 (zL6 (zE4 (tn := ["name"]) (fr := ["query"]) (idx := [1]) rfl rfl ⟨rfl, rfl, trivial⟩ (zw6 0) (zB1 (yb2 (pv 0) A_Trail.ns A_Trail.cls n_Trail_names (by decide +kernel))) (fun s H C fp => (zf8 (show List.Nodup (["name", "query"] : List Str) by decide +kernel) rfl (Or.inl rfl))) (fun s H C fp => (zN7 (zG4 (zc4 h_fits (hr.mono (by decide)) (za0 (za1 (pv 1)) (za0 (za1 (pv 0)) za4)) (za2 (za2 za9)))))) (fun s H C fp => (za1 (pv 0))))) za4)))))
abbrev zl9 : Stmt := top 47
theorem sc__law_step : zb8 ["_law_script", "_law_at", "_law_trail", "_law_names_here", "_law_rows"] ["_law_script", "_law_at", "_law_trail", "_law_names_here"] (za3 zl9) := ⟨rfl, rfl, rfl, by decide +kernel, rfl, by decide +kernel, by decide +kernel⟩
theorem zT5 {f : Addr} {fd : FuncData} (D_ : DefAt K mg "_law_step" zl9 f fd) (h_Trail_pick : MetM P w K mg base "Trail" "pick" 8 1 ["self", "place"] zn3) (h_Trail_ask : MetM P w K mg base "Trail" "ask" 4 1 ["self", "query"] zo8) (h_Trail_asked : MetR P w K mg base "Trail" "asked" 1 0 ["self"] zd4) (h__law_drawn : DefOk P w K mg base "_law_drawn" 2 3 ["_law_script", "_law_k", "_law_many"] zb0) (h__law_typed : DefOk P w K mg base "_law_typed" 4 3 ["_law_script", "_law_at", "_law_names_here"] zk6) (h_finds : DefOk P w K mg base "finds" 7 3 ["names", "query", "many"] zo6) (z_len : mg "len" = none) : DefM P w K mg base "_law_step" "Trail" 9 2 3 ["_law_script", "_law_at", "_law_trail", "_law_names_here"] zh2 := by
 refine DefM.mk (k := 8) D_ sc__law_step rfl (fun _ _ _ _ _ _ us hl => match us, hl with | [_, _, _, _], _ => rfl) (fun cdv A outer s H E hr => ?_)
 exact (za5 (ze5 (i := 4) sc__law_step.nd rfl (Or.inl rfl) (zc4 h_finds (hr.mono (by decide)) (za0 (za1 (pv 3)) (za0 (zf9 h_Trail_asked (hr.mono (by decide)) (pv 2)) (za0 (zd3 zn4 rfl z_len PySem.boot_len (za0 (za1 (pv 3)) za4)) za4))) (za2 (za2 (za2 za9))))) (za8 (zj3 (pdt_w (zG3 (zc8 (zq8 hr.units) (za1 (pv 4)) (zu9 za4) (ze1 _)) (zy7 (zc8 (zn9 hr.units) (zc4 h__law_drawn (hr.mono (by decide)) (za0 (za1 (pv 0)) (za0 (za1 (pv 1)) (za0 za6 za4))) (za2 (za2 (za2 za9)))) za6 (ze1 _))))) (za8 (zp2 (zE3 h_Trail_pick (hr.mono (by decide)) (pv 2) (za0 (zc4 h__law_drawn (hr.mono (by decide)) (za0 (za1 (pv 0)) (za0 (zb6 zc3 (za1 (pv 1)) za6) (za0 (zd3 zn4 rfl z_len PySem.boot_len (za0 (za1 (pv 4)) za4)) za4))) (za2 (za2 (za2 za9)))) za4) (za2 za9)))) (za8 (zp2 (zE3 h_Trail_ask (hr.mono (by decide)) (pv 2) (za0 (zc4 h__law_typed (hr.mono (by decide)) (za0 (za1 (pv 0)) (za0 (zb6 zc3 (za1 (pv 1)) za6) (za0 (za1 (pv 3)) za4))) (za2 (za2 (za2 za9)))) za4) (za2 za9)))))))
abbrev zj5 : Stmt := zr1 (top 38) 5
theorem sc_Trail_chosen : zb8 ["self", "picks", "query", "kind", "thing"] ["self"] (za3 zj5) := ⟨rfl, rfl, rfl, by decide +kernel, rfl, by decide +kernel, by decide +kernel⟩
theorem zH7 {C_Trail : Addr} (A_Trail : ClsAt K mg "Trail" C_Trail) (n_Trail_done : NoAttr K C_Trail "done") {t_ASK : Tok} (g_ASK : mg "ASK" = some (.str "ask" t_ASK)) {t_PICK : Tok} (g_PICK : mg "PICK" = some (.str "pick" t_PICK)) {f : Addr} {fd : FuncData} (M_ : Meth K C_Trail "chosen" f) (D_ : Fun K "chosen" "Trail.chosen" zj5 f fd) : MetR P w K mg base "Trail" "chosen" 1 0 ["self"] zj6 := by
 refine MetR.mk (k := 0) A_Trail M_ D_ sc_Trail_chosen rfl (fun _ _ _ _ _ _ us hl => match us, hl with | [_], _ => rfl) (fun cdv A outer s H E hr => ?_)
 exact (za5 (zy8 (i := 1) sc_Trail_chosen.nd rfl (Or.inl rfl) (zu8 za4)) (za5 (ze5 (i := 2) sc_Trail_chosen.nd rfl (Or.inl rfl) zq7) (za5 (pds_forR PassesOwn.never rfl (pv 0) A_Trail.ns A_Trail.cls n_Trail_done (yb1 rfl sc_Trail_chosen.nd rfl (Or.inl rfl) rfl (Or.inl rfl)) (za5 (zj3 (zc8 (zn9 hr.units) (za1 (pv 3)) (zs0 rfl g_PICK) (ze1 _)) (za8 (zG8 (pv 1) (zg3 (za0 (za1 (pv 2)) (za0 (za1 (pv 4)) za4))))) zd2) (za8 (ze5 (i := 2) sc_Trail_chosen.nd rfl (Or.inl rfl) (pde_if (zc8 (zn9 hr.units) (za1 (pv 3)) (zs0 rfl g_ASK) (ze1 _)) (za1 (pv 4)) zq7)))) (by decide +kernel)) (za8 (zy9 (pv 1))))))
abbrev zl1 : Stmt := zr1 (top 38) 6
theorem zJ9 : zb8 ["self"] ["self"] (za3 zl1) := ⟨rfl, rfl, rfl, by decide +kernel, rfl, by decide +kernel, by decide +kernel⟩
theorem zK5 {C_Trail : Addr} (A_Trail : ClsAt K mg "Trail" C_Trail) (n_Trail_done : NoAttr K C_Trail "done") {f : Addr} {fd : FuncData} (M_ : Meth K C_Trail "steps" f) (D_ : Fun K "steps" "Trail.steps" zl1 f fd) : MetR P w K mg base "Trail" "steps" 1 0 ["self"] zf4 := by
 refine MetR.mk (k := 0) A_Trail M_ D_ zJ9 rfl (fun _ _ _ _ _ _ us hl => match us, hl with | [_], _ => rfl) (fun cdv A outer s H E hr => ?_)
 exact (za8 (zc9 (zL6 (yi8 (tn := ["kind", "thing"]) (fr := []) (idx := []) rfl rfl trivial (setOk_pr 0 1) (pdi_ow (pv 0) A_Trail.ns A_Trail.cls n_Trail_done (by decide +kernel)) (fun s H C fp => (yb1 rfl (show List.Nodup (["kind", "thing"] : List Str) by decide +kernel) rfl (Or.inl rfl) rfl (Or.inl rfl))) (fun s H C fp => zE1) (fun s H C fp => (zg3 (za0 (za1 (pv 0)) (za0 (za1 (pv 1)) za4))))))))
abbrev zo3 : Stmt := top 48
theorem zW7 : zb8 ["_law_trail"] ["_law_trail"] (za3 zo3) := ⟨rfl, rfl, rfl, by decide +kernel, rfl, by decide +kernel, by decide +kernel⟩
theorem zX7 {f : Addr} {fd : FuncData} (D_ : DefAt K mg "_law_now" zo3 f fd) (h_Trail_steps : MetR P w K mg base "Trail" "steps" 1 0 ["self"] zf4) (h_Trail_chosen : MetR P w K mg base "Trail" "chosen" 1 0 ["self"] zj6) (h_Trail_asked : MetR P w K mg base "Trail" "asked" 1 0 ["self"] zd4) : DefR P w K mg base "_law_now" "Trail" 2 0 0 ["_law_trail"] zc2 := by
 refine DefR.mk (k := 1) D_ zW7 rfl (fun _ _ _ _ _ _ us hl => match us, hl with | [_], _ => rfl) (fun cdv A outer s H E hr => ?_)
 exact (za8 (zc9 (zg3 (za0 (zf9 h_Trail_asked (hr.mono (by decide)) (pv 0)) (za0 (zf9 h_Trail_chosen (hr.mono (by decide)) (pv 0)) (za0 (zf9 h_Trail_steps (hr.mono (by decide)) (pv 0)) za4))))))
abbrev zl2 : Stmt := zr1 (top 38) 9
theorem zK0 : zb8 ["self"] ["self"] (za3 zl2) := ⟨rfl, rfl, rfl, by decide +kernel, rfl, by decide +kernel, by decide +kernel⟩
theorem zK6 {C_Trail : Addr} (A_Trail : ClsAt K mg "Trail" C_Trail) (n_Trail_undone : NoAttr K C_Trail "undone") (n_Trail_done : NoAttr K C_Trail "done") (z_len : mg "len" = none) {f : Addr} {fd : FuncData} (M_ : Meth K C_Trail "sizes" f) (D_ : Fun K "sizes" "Trail.sizes" zl2 f fd) : MetR P w K mg base "Trail" "sizes" 1 0 ["self"] zc0 := by
 refine MetR.mk (k := 0) A_Trail M_ D_ zK0 rfl (fun _ _ _ _ _ _ us hl => match us, hl with | [_], _ => rfl) (fun cdv A outer s H E hr => ?_)
 exact (za8 (zc9 (zg3 (za0 (zz0 (pv 0) A_Trail.ns A_Trail.cls n_Trail_done rfl z_len (by decide +kernel)) (za0 (zz0 (pv 0) A_Trail.ns A_Trail.cls n_Trail_undone rfl z_len (by decide +kernel)) za4)))))
abbrev zk4 : Stmt := top 49
theorem sc__law_go_on : zb8 ["_law_script", "_law_trail", "_law_names_here", "_law_k"] ["_law_script", "_law_trail", "_law_names_here"] (za3 zk4) := ⟨rfl, rfl, rfl, by decide +kernel, rfl, by decide +kernel, by decide +kernel⟩
theorem zP4 {f : Addr} {fd : FuncData} (D_ : DefAt K mg "_law_go_on" zk4 f fd) (h__law_now : DefR P w K mg base "_law_now" "Trail" 2 0 0 ["_law_trail"] zc2) (h__law_step : DefM P w K mg base "_law_step" "Trail" 9 2 3 ["_law_script", "_law_at", "_law_trail", "_law_names_here"] zh2) (h_Trail_sizes : MetR P w K mg base "Trail" "sizes" 1 0 ["self"] zc0) (z_range : mg "range" = none) : DefM P w K mg base "_law_go_on" "Trail" 10 1 2 ["_law_script", "_law_trail", "_law_names_here"] zl0 := by
 refine DefM.mk (k := 9) D_ sc__law_go_on rfl (fun _ _ _ _ _ _ us hl => match us, hl with | [_, _, _], _ => rfl) (fun cdv A outer s H E hr => ?_)
 exact (za5 (zn7 PassesOwn.never rfl (zi4 rfl z_range (za0 za6 za4)) (zf8 sc__law_go_on.nd rfl (Or.inl rfl)) (za8 (zp2 (zG9 h__law_step (hr.mono (by decide)) (zw8 (za1 (pv 0)) (zw8 (zb6 zc3 za6 (zb6 zp4 za6 (za1 (pv 3)))) (zh4 (pv 1) (za0 (za1 (pv 2)) za4)))) (za2 (za2 za9)) (fun τ ds h => by have := (za2 za9) τ ds h; omega))))) (za8 (zp0 (zg3 (za0 (zl8 h__law_now (hr.mono (by decide)) (zh4 (pv 1) za4) za9 (fun τ ds h => by have := za9 τ ds h; omega)) (za0 (zf9 h_Trail_sizes (hr.mono (by decide)) (pv 1)) za4))))))
abbrev zn0 : Stmt := zr1 (top 38) 7
theorem zN1 : zb8 ["self"] ["self"] (za3 zn0) := ⟨rfl, rfl, rfl, by decide +kernel, rfl, by decide +kernel, by decide +kernel⟩
theorem zP9 {C_Trail : Addr} (A_Trail : ClsAt K mg "Trail" C_Trail) (n_Trail_undone : NoAttr K C_Trail "undone") (n_Trail_done : NoAttr K C_Trail "done") (z_len : mg "len" = none) {f : Addr} {fd : FuncData} (M_ : Meth K C_Trail "back" f) (D_ : Fun K "back" "Trail.back" zn0 f fd) : MetM P w K mg base "Trail" "back" 1 0 ["self"] ze4 := by
 refine MetM.mk (k := 0) A_Trail M_ D_ zN1 rfl (fun _ _ _ _ _ _ us hl => match us, hl with | [_], _ => rfl) (fun cdv A outer s H E hr => ?_)
 exact (za5 (zj3 (zc8 (zn9 hr.units) (zz0 (pv 0) A_Trail.ns A_Trail.cls n_Trail_done rfl z_len (by decide +kernel)) za6 (ze1 _)) (za8 zG5) zd2) (za5 (zL4 (pv 0) (pv 0) A_Trail.ns A_Trail.cls n_Trail_undone n_Trail_done (by decide +kernel) (by decide +kernel) (by decide +kernel)) (za8 (zp0 (zd5 ix_ok (zO4 (pv 0) A_Trail.ns A_Trail.cls n_Trail_undone (zn8 za6) (by decide +kernel)) za6)))))
abbrev zl3 : Stmt := zr1 (top 38) 8
theorem zK1 : zb8 ["self"] ["self"] (za3 zl3) := ⟨rfl, rfl, rfl, by decide +kernel, rfl, by decide +kernel, by decide +kernel⟩
theorem zK7 {C_Trail : Addr} (A_Trail : ClsAt K mg "Trail" C_Trail) (n_Trail_done : NoAttr K C_Trail "done") (n_Trail_undone : NoAttr K C_Trail "undone") (z_len : mg "len" = none) {f : Addr} {fd : FuncData} (M_ : Meth K C_Trail "forth" f) (D_ : Fun K "forth" "Trail.forth" zl3 f fd) : MetM P w K mg base "Trail" "forth" 1 0 ["self"] ze8 := by
 refine MetM.mk (k := 0) A_Trail M_ D_ zK1 rfl (fun _ _ _ _ _ _ us hl => match us, hl with | [_], _ => rfl) (fun cdv A outer s H E hr => ?_)
 exact (za5 (zj3 (zc8 (zn9 hr.units) (zz0 (pv 0) A_Trail.ns A_Trail.cls n_Trail_undone rfl z_len (by decide +kernel)) za6 (ze1 _)) (za8 zG5) zd2) (za5 (zL4 (pv 0) (pv 0) A_Trail.ns A_Trail.cls n_Trail_done n_Trail_undone (by decide +kernel) (by decide +kernel) (by decide +kernel)) (za8 (zp0 (zd5 ix_ok (zO4 (pv 0) A_Trail.ns A_Trail.cls n_Trail_done (zn8 za6) (by decide +kernel)) za6)))))
abbrev zm2 : Stmt := top 50
theorem sc__law_goes : zb8 ["_law_trail", "_law_rows", "_law_many", "_law_words", "_law_k"] ["_law_trail", "_law_rows"] (za3 zm2) := ⟨rfl, rfl, rfl, by decide +kernel, rfl, by decide +kernel, by decide +kernel⟩
theorem zT8 {f : Addr} {fd : FuncData} (D_ : DefAt K mg "_law_goes" zm2 f fd) (h__law_now : DefR P w K mg base "_law_now" "Trail" 2 0 0 ["_law_trail"] zc2) (h_Trail_sizes : MetR P w K mg base "Trail" "sizes" 1 0 ["self"] zc0) (h_Trail_forth : MetM P w K mg base "Trail" "forth" 1 0 ["self"] ze8) (h_Trail_back : MetM P w K mg base "Trail" "back" 1 0 ["self"] ze4) (h_Trail_steps : MetR P w K mg base "Trail" "steps" 1 0 ["self"] zf4) (z_range : mg "range" = none) (z_len : mg "len" = none) : DefM P w K mg base "_law_goes" "Trail" 3 0 1 ["_law_trail", "_law_rows"] zm6 := by
 refine DefM.mk (k := 2) D_ sc__law_goes rfl (fun _ _ _ _ _ _ us hl => match us, hl with | [_, _], _ => rfl) (fun cdv A outer s H E hr => ?_)
 exact (za5 (ze5 (i := 2) sc__law_goes.nd rfl (Or.inl rfl) (zb6 zm4 (zd3 zn4 rfl z_len PySem.boot_len (za0 (za1 (pv 1)) za4)) za6)) (za5 (pds_comp (i := 3) sc__law_goes.nd rfl rfl rfl (tn := ["_law_step_here"]) (fr := []) (idx := []) rfl rfl trivial (zw6 0) (zB1 (zf9 h_Trail_steps (hr.mono (by decide)) (pv 0))) (fun s H C fp => (zf8 (show List.Nodup (["_law_step_here"] : List Str) by decide +kernel) rfl (Or.inl rfl))) (fun s H C fp => zE1) (fun s H C fp => (zd5 ix_ok (za1 (pv 0)) za6))) (za5 (zn7 PassesOwn.never rfl (zL5 rfl z_range (za0 (zb6 zm4 (za1 (pv 2)) za6) (za0 (zn8 za6) (za0 (zn8 za6) za4)))) (zf8 sc__law_goes.nd rfl (Or.inl rfl)) (za5 (zG6 (yb0 (zN8 (zO0 (zq8 hr.units) (zs5 h_Trail_back (hr.mono (by decide)) (pv 0)) (zd5 ix_ok (za1 (pv 3)) (za1 (pv 4))) (ze1 _)) (zE2 (zN9 (zc8 (zq8 hr.units) (zl8 h__law_now (hr.mono (by decide)) (zh4 (pv 0) za4) za9 (fun τ ds h => by have := za9 τ ds h; omega)) (zd5 ix_ok (za1 (pv 1)) (za1 (pv 4))) (ze1 _)))))) (za8 (zp0 zv2)) zd2) (za8 (zj3 (zc8 (zq8 hr.units) (zf9 h_Trail_sizes (hr.mono (by decide)) (pv 0)) (zg3 (za0 (za1 (pv 4)) (za0 (zb6 zm4 (za1 (pv 2)) (za1 (pv 4))) za4))) (ze1 _)) (za8 (zp0 zv2)) zd2)))) (za5 (zn7 PassesOwn.never rfl (ye1 rfl z_range (za0 za6 (za0 (zb6 zc3 (za1 (pv 2)) za6) za4))) (zf8 sc__law_goes.nd rfl (Or.inl rfl)) (za5 (zG6 (yb0 (zN8 (zO0 (zq8 hr.units) (zs5 h_Trail_forth (hr.mono (by decide)) (pv 0)) (zd5 ix_ok (za1 (pv 3)) (zb6 zm4 (za1 (pv 4)) za6)) (ze1 _)) (zE2 (zN9 (zc8 (zq8 hr.units) (zl8 h__law_now (hr.mono (by decide)) (zh4 (pv 0) za4) za9 (fun τ ds h => by have := za9 τ ds h; omega)) (zd5 ix_ok (za1 (pv 1)) (za1 (pv 4))) (ze1 _)))))) (za8 (zp0 zv2)) zd2) (za8 (zj3 (zc8 (zq8 hr.units) (zf9 h_Trail_sizes (hr.mono (by decide)) (pv 0)) (zg3 (za0 (za1 (pv 4)) (za0 (zb6 zm4 (za1 (pv 2)) (za1 (pv 4))) za4))) (ze1 _)) (za8 (zp0 zv2)) zd2)))) (za8 (zp0 zv2))))))
abbrev zm7 : Stmt := zr1 (top 38) 10
theorem sc_Trail_twin : zb8 ["self", "other"] ["self"] (za3 zm7) := ⟨rfl, rfl, rfl, by decide +kernel, rfl, by decide +kernel, by decide +kernel⟩
theorem zP6 {C_Trail : Addr} (A_Trail : ClsAt K mg "Trail" C_Trail) (n_Trail_undone : NoAttr K C_Trail "undone") (n_Trail_done : NoAttr K C_Trail "done") (n_Trail_names : NoAttr K C_Trail "names") (c_Trail : ClsM P w K mg base "Trail" 1 1 ["self", "names"] zd6) (z_list : mg "list" = none) {f : Addr} {fd : FuncData} (M_ : Meth K C_Trail "twin" f) (D_ : Fun K "twin" "Trail.twin" zm7 f fd) : MetO P w K mg base "Trail" "twin" 3 0 ["self"] "Trail" zg8 := by
 refine MetO.mk (k := 2) A_Trail M_ D_ sc_Trail_twin rfl (fun _ _ _ _ _ _ us hl => match us, hl with | [_], _ => rfl) (fun cdv A outer s H E hr => ?_)
 exact (za5 (ya9 (i := 1) c_Trail (hr.mono (by decide)) rfl (za0 (yb2 (pv 0) A_Trail.ns A_Trail.cls n_Trail_names (by decide +kernel)) za4) (za2 za9) sc_Trail_twin.nd rfl (Or.inl rfl)) (za5 (zG7 (pv 1) A_Trail.ns A_Trail.cls n_Trail_done (zT3 (pv 0) A_Trail.ns A_Trail.cls n_Trail_done rfl z_list (by decide +kernel)) (by decide +kernel)) (za5 (zG7 (pv 1) A_Trail.ns A_Trail.cls n_Trail_undone (zT3 (pv 0) A_Trail.ns A_Trail.cls n_Trail_undone rfl z_list (by decide +kernel)) (by decide +kernel)) (za8 (pds_retB (c := "Trail") (pv 1))))))
abbrev s_law : Stmt := top 51
theorem sc_law : zb8 ["_law_script", "_law_names_here", "_law_trail", "_law_rows", "_law_k", "_law_many", "_law_back", "_law_turn", "_law_here", "_law_twin", "_law_third", "_law_there"] ["_law_script"] (za3 s_law) := ⟨rfl, rfl, rfl, by decide +kernel, rfl, by decide +kernel, by decide +kernel⟩
theorem ok_law {f : Addr} {fd : FuncData} (A_ : Fun K "law" "law" s_law f fd) (h__law_now : DefR P w K mg base "_law_now" "Trail" 2 0 0 ["_law_trail"] zc2) (h__law_go_on : DefM P w K mg base "_law_go_on" "Trail" 10 1 2 ["_law_script", "_law_trail", "_law_names_here"] zl0) (h__law_goes : DefM P w K mg base "_law_goes" "Trail" 3 0 1 ["_law_trail", "_law_rows"] zm6) (h__law_step : DefM P w K mg base "_law_step" "Trail" 9 2 3 ["_law_script", "_law_at", "_law_trail", "_law_names_here"] zh2) (h_Trail_twin : MetO P w K mg base "Trail" "twin" 3 0 ["self"] "Trail" zg8) (h_Trail_sizes : MetR P w K mg base "Trail" "sizes" 1 0 ["self"] zc0) (h_Trail_back : MetM P w K mg base "Trail" "back" 1 0 ["self"] ze4) (h_Trail_forth : MetM P w K mg base "Trail" "forth" 1 0 ["self"] ze8) (c_Trail : ClsM P w K mg base "Trail" 1 1 ["self", "names"] zd6) (h__law_drawn : DefOk P w K mg base "_law_drawn" 2 3 ["_law_script", "_law_k", "_law_many"] zb0) (h__law_names : DefOk P w K mg base "_law_names" 4 3 ["_law_script", "_law_at", "_law_most"] zi7) (z_range : mg "range" = none) (z_len : mg "len" = none) : FnOk P w K mg base CX0 11 f fd ["_law_script"] (spD K 1 m_law) := by
 refine fnD (k := 10) A_ sc_law rfl fun cdv A outer s H E hr => ?_
 exact (za5 (ze5 (i := 1) sc_law.nd rfl (Or.inl rfl) (zc4 h__law_names (hr.mono (by decide)) (za0 (za1 (pv 0)) (za0 za6 (za0 za6 za4))) (za2 (za2 (za2 za9))))) (za5 (ya9 (i := 2) c_Trail (hr.mono (by decide)) rfl (za0 (za1 (pv 1)) za4) (za2 za9) sc_law.nd rfl (Or.inl rfl)) (za5 (zy8 (i := 3) sc_law.nd rfl (Or.inl rfl) (zu8 (za0 (zl8 h__law_now (hr.mono (by decide)) (zh4 (pv 2) za4) za9 (fun τ ds h => by have := za9 τ ds h; omega)) za4))) (za5 (zn7 PassesOwn.never rfl (zi4 rfl z_range (za0 (zb6 zc3 za6 (zc4 h__law_drawn (hr.mono (by decide)) (za0 (za1 (pv 0)) (za0 za6 (za0 za6 za4))) (za2 (za2 (za2 za9))))) za4)) (zf8 sc_law.nd rfl (Or.inl rfl)) (za5 (zp2 (zG9 h__law_step (hr.mono (by decide)) (zw8 (za1 (pv 0)) (zw8 (zb6 zc3 za6 (zb6 zp4 za6 (za1 (pv 4)))) (zh4 (pv 2) (za0 (za1 (pv 1)) za4)))) (za2 (za2 za9)) (fun τ ds h => by have := (za2 za9) τ ds h; omega))) (za8 (zG8 (pv 3) (zl8 h__law_now (hr.mono (by decide)) (zh4 (pv 2) za4) za9 (fun τ ds h => by have := za9 τ ds h; omega)))))) (za5 (ze5 (i := 5) sc_law.nd rfl (Or.inl rfl) (zb6 zm4 (zE5 (pv 3) rfl z_len) za6)) (pdss_frz (za5 (zG6 (yb0 (zN8 (zN9 (zc8 (zq8 hr.units) (zf9 h_Trail_sizes (hr.mono (by decide)) (pv 2)) (zg3 (za0 (za1 (pv 5)) (za0 za6 za4))) (ze1 _))) (zE2 (pdot_not (pdot_val (zG9 h__law_goes (hr.mono (by decide)) (zh4 (pv 2) (za0 (za1 (pv 3)) za4)) za9 (fun τ ds h => by have := (za2 za9) τ ds h; omega))))))) (za8 (zc9 zv2)) zd2) (za5 (ze5 (i := 6) sc_law.nd rfl (Or.inl rfl) (zb6 zc3 za6 (zc4 h__law_drawn (hr.mono (by decide)) (za0 (za1 (pv 0)) (za0 za6 (za0 (za1 (pv 5)) za4))) (za2 (za2 (za2 za9)))))) (za5 (zn7 PassesOwn.never rfl (zi4 rfl z_range (za0 (za1 (pv 6)) za4)) (zf8 sc_law.nd rfl (Or.inl rfl)) (za8 (zp2 (zs5 h_Trail_back (hr.mono (by decide)) (pv 2))))) (za5 (ze5 (i := 8) sc_law.nd rfl (Or.inl rfl) (zg3 (za0 (zl8 h__law_now (hr.mono (by decide)) (zh4 (pv 2) za4) za9 (fun τ ds h => by have := za9 τ ds h; omega)) (za0 (zf9 h_Trail_sizes (hr.mono (by decide)) (pv 2)) za4)))) (za5 (ya8 (i := 9) h_Trail_twin (hr.mono (by decide)) (pv 2) sc_law.nd rfl (Or.inl rfl)) (za5 (ya8 (i := 10) h_Trail_twin (hr.mono (by decide)) (pv 9) sc_law.nd rfl (Or.inl rfl)) (za5 (zj3 (zc8 (zq8 hr.units) (za1 (pv 8)) (zg3 (za0 (zd5 ix_ok (za1 (pv 3)) (zb6 zm4 (za1 (pv 5)) (za1 (pv 6)))) (za0 (zg3 (za0 (zb6 zm4 (za1 (pv 5)) (za1 (pv 6))) (za0 (za1 (pv 6)) za4))) za4))) (ze1 _)) (za8 (zc9 zv2)) zd2) (za5 (pds_setB (i := 11) sc_law.nd rfl (Or.inl rfl) (zG9 h__law_go_on (hr.mono (by decide)) (zw8 (za1 (pv 0)) (zh4 (pv 2) (za0 (za1 (pv 1)) za4))) (za2 za9) (fun τ ds h => by have := (za2 za9) τ ds h; omega))) (za5 (zj3 (pdt_w (ya7 (zc8 (zq8 hr.units) (zd5 ix_ok (za1 (pv 11)) za6) (zg3 (za0 (zb6 zc3 (zb6 zm4 (za1 (pv 5)) (za1 (pv 6))) za6) (za0 za6 za4))) (ze1 _)) (zN6 (zc8 (zq8 hr.units) (zg3 (za0 (zl8 h__law_now (hr.mono (by decide)) (zh4 (pv 9) za4) za9 (fun τ ds h => by have := za9 τ ds h; omega)) (za0 (zf9 h_Trail_sizes (hr.mono (by decide)) (pv 9)) za4))) (za1 (pv 8)) (ze1 _))))) (za8 (zc9 zv2)) zd2) (za5 (zG6 (zO0 (zq8 hr.units) (zG9 h__law_go_on (hr.mono (by decide)) (zw8 (za1 (pv 0)) (zh4 (pv 9) (za0 (za1 (pv 1)) za4))) (za2 za9) (fun τ ds h => by have := (za2 za9) τ ds h; omega)) (za1 (pv 11)) (ze1 _)) (za8 (zc9 zv2)) zd2) (za5 (zj3 (zc8 (zq8 hr.units) (zg3 (za0 (zl8 h__law_now (hr.mono (by decide)) (zh4 (pv 10) za4) za9 (fun τ ds h => by have := za9 τ ds h; omega)) (za0 (zf9 h_Trail_sizes (hr.mono (by decide)) (pv 10)) za4))) (za1 (pv 8)) (ze1 _)) (za8 (zc9 zv2)) zd2) (za5 (zn7 PassesOwn.never rfl (zi4 rfl z_range (za0 (za1 (pv 6)) za4)) (zf8 sc_law.nd rfl (Or.inl rfl)) (za8 (zp2 (zs5 h_Trail_forth (hr.mono (by decide)) (pv 10))))) (za5 (zn7 PassesOwn.never rfl (zi4 rfl z_range (za0 (zb6 zc3 (zb6 zm4 (za1 (pv 5)) (za1 (pv 6))) za6) za4)) (zf8 sc_law.nd rfl (Or.inl rfl)) (za8 (zG6 (yb0 (zN8 (yi7 (zq8 hr.units) (zs5 h_Trail_back (hr.mono (by decide)) (pv 9)) (zs5 h_Trail_back (hr.mono (by decide)) (pv 2)) (ze1 _)) (zE2 (zN9 (zc8 (zq8 hr.units) (zl8 h__law_now (hr.mono (by decide)) (zh4 (pv 9) za4) za9 (fun τ ds h => by have := za9 τ ds h; omega)) (zl8 h__law_now (hr.mono (by decide)) (zh4 (pv 2) za4) za9 (fun τ ds h => by have := za9 τ ds h; omega)) (ze1 _)))))) (za8 (zc9 zv2)) zd2))) (za8 (zc9 (zX4 (zv1 (zn9 hr.units) (zl8 h__law_now (hr.mono (by decide)) (zh4 (pv 10) za4) za9 (fun τ ds h => by have := za9 τ ds h; omega)) (zd5 ix_ok (za1 (pv 3)) (zn8 za6)) (ze1 _)) (zX4 (zv1 (zn9 hr.units) (zl8 h__law_now (hr.mono (by decide)) (zh4 (pv 9) za4) za9 (fun τ ds h => by have := za9 τ ds h; omega)) (zg3 (za0 zq7 (za0 (zu9 za4) (za0 (zu9 za4) za4)))) (ze1 _)) (zO2 (zv1 (zn9 hr.units) (zf9 h_Trail_sizes (hr.mono (by decide)) (pv 10)) (zg3 (za0 (za1 (pv 5)) (za0 za6 za4))) (ze1 _))))))))))))))))))))))))))
end
theorem all_mk {l : PySem.W.OpenLaw} {w : World} {K : PySem.W.Frag} {h : Heap} {mg : Str → Option Value} {fa : Addr} (X : K.In h) (G : h.Ns mainGlobals mg) (hfa : mg "law" = some (.ref fa)) (hl : ∀ ns : List Int, ns.length ≤ 63 → m_law [.scr ns] = .ok (.bl true))
  {f0 f1 f2 f3 f4 f5 f6 f7 f8 f9 f10 f11 f12 f13 f14 f15 f16 f17 f18 f19 f20 f21 f22 f23 f24 f25 f26 f27 f28 f29 f30 f31 f32 f33 f34 f35 f36 f37 f38 f39 : Addr} {od0 an0 od1 an1 od2 an2 od3 an3 od4 an4 od5 an5 od6 an6 od7 an7 od8 an8 od9 an9 od10 an10 od11 an11 od12 an12 od13 an13 od14 an14 od15 an15 od16 an16 od17 an17 od18 an18 od19 an19 od20 an20 od21 an21 od22 an22 od23 an23 od24 an24 od25 an25 od26 an26 od27 an27 od28 an28 od29 an29 od30 an30 od31 an31 od32 an32 od33 an33 od34 an34 od35 an35 od36 an36 od37 an37 od38 an38 od39 an39 : Option Addr} {sl0 sl1 sl2 sl3 sl4 sl5 sl6 sl7 sl8 sl9 sl10 sl11 sl12 sl13 sl14 sl15 sl16 sl17 sl18 sl19 sl20 sl21 sl22 sl23 sl24 sl25 sl26 sl27 sl28 sl29 sl30 sl31 sl32 sl33 sl34 sl35 sl36 sl37 sl38 sl39 : Array (Option Value)} {oc0 kV0 dc0 pm0 ct0 cd0 oc1 kV1 dc1 pm1 ct1 cd1 oc2 kV2 dc2 pm2 ct2 cd2 oc3 kV3 dc3 pm3 ct3 cd3 oc4 kV4 dc4 pm4 ct4 cd4 oc5 kV5 dc5 pm5 ct5 oc6 kV6 dc6 pm6 ct6 cd6 oc7 kV7 dc7 pm7 ct7 cd7 oc8 kV8 dc8 pm8 ct8 cd8 oc9 kV9 dc9 pm9 ct9 cd9 oc10 kV10 dc10 pm10 ct10 cd10 oc11 kV11 dc11 pm11 ct11 cd11 oc12 kV12 dc12 pm12 ct12 cd12 oc13 kV13 dc13 pm13 ct13 cd13 oc14 kV14 dc14 pm14 ct14 cd14 oc15 kV15 dc15 pm15 ct15 cd15 oc16 kV16 dc16 pm16 ct16 cd16 oc17 kV17 dc17 pm17 ct17 cd17 oc18 kV18 dc18 pm18 ct18 cd18 oc19 kV19 dc19 pm19 ct19 cd19 oc20 kV20 dc20 pm20 ct20 cd20 oc21 kV21 dc21 pm21 ct21 cd21 oc22 kV22 dc22 pm22 ct22 cd22 oc23 kV23 dc23 pm23 ct23 cd23 oc24 kV24 dc24 pm24 ct24 cd24 oc25 kV25 dc25 pm25 ct25 cd25 oc26 kV26 dc26 pm26 ct26 cd26 oc27 kV27 dc27 pm27 ct27 cd27 oc28 kV28 dc28 pm28 ct28 cd28 oc29 kV29 dc29 pm29 ct29 cd29 oc30 kV30 dc30 pm30 ct30 cd30 oc31 kV31 dc31 pm31 ct31 cd31 oc32 kV32 dc32 pm32 ct32 cd32 oc33 kV33 dc33 pm33 ct33 cd33 oc34 kV34 dc34 pm34 ct34 cd34 oc35 kV35 dc35 pm35 ct35 cd35 oc36 kV36 dc36 pm36 ct36 cd36 oc37 kV37 dc37 pm37 ct37 cd37 oc38 kV38 dc38 pm38 ct38 cd38 oc39 kV39 dc39 pm39 ct39 cd39 : Value} {t_FIGURES t_SMALL t_GREAT t_AT_GREAT t_MARKS t_BEHIND_MARK t_AT_BEGINNING t_EACH_PLACE t_SAME_SIGN t_MOST_BETWEEN t_BESIDE t_MOST_AHEAD t_ASK t_PICK : Tok}
  {cc5 : Addr}
  {C_Trail : Addr}
  (ns_Trail : PySem.W.nsIn K mainGlobals "Trail" = some (some (.ref C_Trail)))
  (pg_Trail : PySem.W.plainGet K C_Trail Str.empty = true)
  (hd_Trail : PySem.W.hasDictIn K C_Trail = true)
  (po_Trail : PySem.W.plainOver K C_Trail = true)
  (sa_Trail : PySem.W.findIn K (.ref C_Trail) "__setattr__" = some (some (.builtin "object.__setattr__")))
  (mk_Trail : PySem.W.makesIn K C_Trail = true)
  (kc_Trail : PySem.W.keepIn K (.ref C_Trail) = true)
  (n_Trail_undone : PySem.W.findIn K (.ref C_Trail) "undone" = some none)
  (n_Trail_done : PySem.W.findIn K (.ref C_Trail) "done" = some none)
  (n_Trail_names : PySem.W.findIn K (.ref C_Trail) "names" = some none)
  (a0 : PySem.W.nsIn K mainGlobals "_law_cell" = some (some (.ref f0))) (l0 : K.lookup f0 = some ⟨oc0, od0, .func (PySem.W.fnOf "_law_cell" "_law_cell" (zb9 zm3) (zb1 zm3) (za3 zm3) .none kV0 dc0 pm0 an0 cd0 ct0), sl0⟩) (c0 : PySem.W.codeIn K cd0 "_law_cell" = true) (k0 : PySem.W.keepIn K (.ref f0) = true)
  (a1 : PySem.W.nsIn K mainGlobals "_law_drawn" = some (some (.ref f1))) (l1 : K.lookup f1 = some ⟨oc1, od1, .func (PySem.W.fnOf "_law_drawn" "_law_drawn" (zb9 zk5) (zb1 zk5) (za3 zk5) .none kV1 dc1 pm1 an1 cd1 ct1), sl1⟩) (c1 : PySem.W.codeIn K cd1 "_law_drawn" = true) (k1 : PySem.W.keepIn K (.ref f1) = true)
  (a2 : PySem.W.nsIn K mainGlobals "_law_name" = some (some (.ref f2))) (l2 : K.lookup f2 = some ⟨oc2, od2, .func (PySem.W.fnOf "_law_name" "_law_name" (zb9 zm0) (zb1 zm0) (za3 zm0) .none kV2 dc2 pm2 an2 cd2 ct2), sl2⟩) (c2 : PySem.W.codeIn K cd2 "_law_name" = true) (k2 : PySem.W.keepIn K (.ref f2) = true)
  (a3 : PySem.W.nsIn K mainGlobals "_law_names" = some (some (.ref f3))) (l3 : K.lookup f3 = some ⟨oc3, od3, .func (PySem.W.fnOf "_law_names" "_law_names" (zb9 zk3) (zb1 zk3) (za3 zk3) .none kV3 dc3 pm3 an3 cd3 ct3), sl3⟩) (c3 : PySem.W.codeIn K cd3 "_law_names" = true) (k3 : PySem.W.keepIn K (.ref f3) = true)
  (a4 : PySem.W.findIn K (.ref C_Trail) "__init__" = some (some (.ref f4))) (i4 : PySem.W.isFn K (.ref f4) = true) (l4 : K.lookup f4 = some ⟨oc4, od4, .func (PySem.W.fnOf "__init__" "Trail.__init__" (zb9 zh3) (zb1 zh3) (za3 zh3) .none kV4 dc4 pm4 an4 cd4 ct4), sl4⟩) (c4 : PySem.W.codeIn K cd4 "Trail.__init__" = true) (k4 : PySem.W.keepIn K (.ref f4) = true)
  (a5 : PySem.W.nsIn K mainGlobals "in_order" = some (some (.ref f5))) (l5 : K.lookup f5 = some ⟨oc5, od5, .func (PySem.W.fnOf "in_order" "in_order" (zb9 zq4) (zb1 zq4) (za3 zq4) .none kV5 dc5 pm5 an5 (.ref cc5) ct5), sl5⟩) (c5 : PySem.W.codeIn K (.ref cc5) "in_order" = true) (k5 : PySem.W.keepIn K (.ref f5) = true) (tb5 : PySem.W.codeHdIn K cc5 126 = true)
  (a6 : PySem.W.nsIn K mainGlobals "first_rows" = some (some (.ref f6))) (l6 : K.lookup f6 = some ⟨oc6, od6, .func (PySem.W.fnOf "first_rows" "first_rows" (zb9 zk0) (zb1 zk0) (za3 zk0) .none kV6 dc6 pm6 an6 cd6 ct6), sl6⟩) (c6 : PySem.W.codeIn K cd6 "first_rows" = true) (k6 : PySem.W.keepIn K (.ref f6) = true)
  (a7 : PySem.W.nsIn K mainGlobals "beginning_points" = some (some (.ref f7))) (l7 : K.lookup f7 = some ⟨oc7, od7, .func (PySem.W.fnOf "beginning_points" "beginning_points" (zb9 ze6) (zb1 ze6) (za3 ze6) .none kV7 dc7 pm7 an7 cd7 ct7), sl7⟩) (c7 : PySem.W.codeIn K cd7 "beginning_points" = true) (k7 : PySem.W.keepIn K (.ref f7) = true)
  (a8 : PySem.W.nsIn K mainGlobals "own_points" = some (some (.ref f8))) (l8 : K.lookup f8 = some ⟨oc8, od8, .func (PySem.W.fnOf "own_points" "own_points" (zb9 zj9) (zb1 zj9) (za3 zj9) .none kV8 dc8 pm8 an8 cd8 ct8), sl8⟩) (c8 : PySem.W.codeIn K cd8 "own_points" = true) (k8 : PySem.W.keepIn K (.ref f8) = true)
  (a9 : PySem.W.nsIn K mainGlobals "meets" = some (some (.ref f9))) (l9 : K.lookup f9 = some ⟨oc9, od9, .func (PySem.W.fnOf "meets" "meets" (zb9 zx5) (zb1 zx5) (za3 zx5) .none kV9 dc9 pm9 an9 cd9 ct9), sl9⟩) (c9 : PySem.W.codeIn K cd9 "meets" = true) (k9 : PySem.W.keepIn K (.ref f9) = true)
  (a10 : PySem.W.nsIn K mainGlobals "last_sign_tails" = some (some (.ref f10))) (l10 : K.lookup f10 = some ⟨oc10, od10, .func (PySem.W.fnOf "last_sign_tails" "last_sign_tails" (zb9 zf1) (zb1 zf1) (za3 zf1) .none kV10 dc10 pm10 an10 cd10 ct10), sl10⟩) (c10 : PySem.W.codeIn K cd10 "last_sign_tails" = true) (k10 : PySem.W.keepIn K (.ref f10) = true)
  (a11 : PySem.W.nsIn K mainGlobals "first_of_most" = some (some (.ref f11))) (l11 : K.lookup f11 = some ⟨oc11, od11, .func (PySem.W.fnOf "first_of_most" "first_of_most" (zb9 zh1) (zb1 zh1) (za3 zh1) .none kV11 dc11 pm11 an11 cd11 ct11), sl11⟩) (c11 : PySem.W.codeIn K cd11 "first_of_most" = true) (k11 : PySem.W.keepIn K (.ref f11) = true)
  (a12 : PySem.W.nsIn K mainGlobals "link_points" = some (some (.ref f12))) (l12 : K.lookup f12 = some ⟨oc12, od12, .func (PySem.W.fnOf "link_points" "link_points" (zb9 zi8) (zb1 zi8) (za3 zi8) .none kV12 dc12 pm12 an12 cd12 ct12), sl12⟩) (c12 : PySem.W.codeIn K cd12 "link_points" = true) (k12 : PySem.W.keepIn K (.ref f12) = true)
  (a13 : PySem.W.nsIn K mainGlobals "linked_tails" = some (some (.ref f13))) (l13 : K.lookup f13 = some ⟨oc13, od13, .func (PySem.W.fnOf "linked_tails" "linked_tails" (zb9 zh8) (zb1 zh8) (za3 zh8) .none kV13 dc13 pm13 an13 cd13 ct13), sl13⟩) (c13 : PySem.W.codeIn K cd13 "linked_tails" = true) (k13 : PySem.W.keepIn K (.ref f13) = true)
  (a14 : PySem.W.nsIn K mainGlobals "longer_tails" = some (some (.ref f14))) (l14 : K.lookup f14 = some ⟨oc14, od14, .func (PySem.W.fnOf "longer_tails" "longer_tails" (zb9 zh7) (zb1 zh7) (za3 zh7) .none kV14 dc14 pm14 an14 cd14 ct14), sl14⟩) (c14 : PySem.W.codeIn K cd14 "longer_tails" = true) (k14 : PySem.W.keepIn K (.ref f14) = true)
  (a15 : PySem.W.nsIn K mainGlobals "lead_points" = some (some (.ref f15))) (l15 : K.lookup f15 = some ⟨oc15, od15, .func (PySem.W.fnOf "lead_points" "lead_points" (zb9 zi9) (zb1 zi9) (za3 zi9) .none kV15 dc15 pm15 an15 cd15 ct15), sl15⟩) (c15 : PySem.W.codeIn K cd15 "lead_points" = true) (k15 : PySem.W.keepIn K (.ref f15) = true)
  (a16 : PySem.W.nsIn K mainGlobals "best" = some (some (.ref f16))) (l16 : K.lookup f16 = some ⟨oc16, od16, .func (PySem.W.fnOf "best" "best" (zb9 zG0) (zb1 zG0) (za3 zG0) .none kV16 dc16 pm16 an16 cd16 ct16), sl16⟩) (c16 : PySem.W.codeIn K cd16 "best" = true) (k16 : PySem.W.keepIn K (.ref f16) = true)
  (a17 : PySem.W.nsIn K mainGlobals "fitting_rows" = some (some (.ref f17))) (l17 : K.lookup f17 = some ⟨oc17, od17, .func (PySem.W.fnOf "fitting_rows" "fitting_rows" (zb9 zh9) (zb1 zh9) (za3 zh9) .none kV17 dc17 pm17 an17 cd17 ct17), sl17⟩) (c17 : PySem.W.codeIn K cd17 "fitting_rows" = true) (k17 : PySem.W.keepIn K (.ref f17) = true)
  (a18 : PySem.W.nsIn K mainGlobals "all_rows" = some (some (.ref f18))) (l18 : K.lookup f18 = some ⟨oc18, od18, .func (PySem.W.fnOf "all_rows" "all_rows" (zb9 zo2) (zb1 zo2) (za3 zo2) .none kV18 dc18 pm18 an18 cd18 ct18), sl18⟩) (c18 : PySem.W.codeIn K cd18 "all_rows" = true) (k18 : PySem.W.keepIn K (.ref f18) = true)
  (a19 : PySem.W.nsIn K mainGlobals "finds" = some (some (.ref f19))) (l19 : K.lookup f19 = some ⟨oc19, od19, .func (PySem.W.fnOf "finds" "finds" (zb9 zx6) (zb1 zx6) (za3 zx6) .none kV19 dc19 pm19 an19 cd19 ct19), sl19⟩) (c19 : PySem.W.codeIn K cd19 "finds" = true) (k19 : PySem.W.keepIn K (.ref f19) = true)
  (a20 : PySem.W.nsIn K mainGlobals "_law_mark" = some (some (.ref f20))) (l20 : K.lookup f20 = some ⟨oc20, od20, .func (PySem.W.fnOf "_law_mark" "_law_mark" (zb9 zm1) (zb1 zm1) (za3 zm1) .none kV20 dc20 pm20 an20 cd20 ct20), sl20⟩) (c20 : PySem.W.codeIn K cd20 "_law_mark" = true) (k20 : PySem.W.keepIn K (.ref f20) = true)
  (a21 : PySem.W.nsIn K mainGlobals "_law_query" = some (some (.ref f21))) (l21 : K.lookup f21 = some ⟨oc21, od21, .func (PySem.W.fnOf "_law_query" "_law_query" (zb9 zk2) (zb1 zk2) (za3 zk2) .none kV21 dc21 pm21 an21 cd21 ct21), sl21⟩) (c21 : PySem.W.codeIn K cd21 "_law_query" = true) (k21 : PySem.W.keepIn K (.ref f21) = true)
  (a22 : PySem.W.nsIn K mainGlobals "_law_typed" = some (some (.ref f22))) (l22 : K.lookup f22 = some ⟨oc22, od22, .func (PySem.W.fnOf "_law_typed" "_law_typed" (zb9 zk1) (zb1 zk1) (za3 zk1) .none kV22 dc22 pm22 an22 cd22 ct22), sl22⟩) (c22 : PySem.W.codeIn K cd22 "_law_typed" = true) (k22 : PySem.W.keepIn K (.ref f22) = true)
  (a23 : PySem.W.findIn K (.ref C_Trail) "asked" = some (some (.ref f23))) (i23 : PySem.W.isFn K (.ref f23) = true) (l23 : K.lookup f23 = some ⟨oc23, od23, .func (PySem.W.fnOf "asked" "Trail.asked" (zb9 zl4) (zb1 zl4) (za3 zl4) .none kV23 dc23 pm23 an23 cd23 ct23), sl23⟩) (c23 : PySem.W.codeIn K cd23 "Trail.asked" = true) (k23 : PySem.W.keepIn K (.ref f23) = true)
  (a24 : PySem.W.findIn K (.ref C_Trail) "step" = some (some (.ref f24))) (i24 : PySem.W.isFn K (.ref f24) = true) (l24 : K.lookup f24 = some ⟨oc24, od24, .func (PySem.W.fnOf "step" "Trail.step" (zb9 zm8) (zb1 zm8) (za3 zm8) .none kV24 dc24 pm24 an24 cd24 ct24), sl24⟩) (c24 : PySem.W.codeIn K cd24 "Trail.step" = true) (k24 : PySem.W.keepIn K (.ref f24) = true)
  (a25 : PySem.W.findIn K (.ref C_Trail) "pick" = some (some (.ref f25))) (i25 : PySem.W.isFn K (.ref f25) = true) (l25 : K.lookup f25 = some ⟨oc25, od25, .func (PySem.W.fnOf "pick" "Trail.pick" (zb9 zm9) (zb1 zm9) (za3 zm9) .none kV25 dc25 pm25 an25 cd25 ct25), sl25⟩) (c25 : PySem.W.codeIn K cd25 "Trail.pick" = true) (k25 : PySem.W.keepIn K (.ref f25) = true)
  (a26 : PySem.W.nsIn K mainGlobals "earliest_places" = some (some (.ref f26))) (l26 : K.lookup f26 = some ⟨oc26, od26, .func (PySem.W.fnOf "earliest_places" "earliest_places" (zb9 zf2) (zb1 zf2) (za3 zf2) .none kV26 dc26 pm26 an26 cd26 ct26), sl26⟩) (c26 : PySem.W.codeIn K cd26 "earliest_places" = true) (k26 : PySem.W.keepIn K (.ref f26) = true)
  (a27 : PySem.W.nsIn K mainGlobals "fits" = some (some (.ref f27))) (l27 : K.lookup f27 = some ⟨oc27, od27, .func (PySem.W.fnOf "fits" "fits" (zb9 zF9) (zb1 zF9) (za3 zF9) .none kV27 dc27 pm27 an27 cd27 ct27), sl27⟩) (c27 : PySem.W.codeIn K cd27 "fits" = true) (k27 : PySem.W.keepIn K (.ref f27) = true)
  (a28 : PySem.W.findIn K (.ref C_Trail) "ask" = some (some (.ref f28))) (i28 : PySem.W.isFn K (.ref f28) = true) (l28 : K.lookup f28 = some ⟨oc28, od28, .func (PySem.W.fnOf "ask" "Trail.ask" (zb9 zo4) (zb1 zo4) (za3 zo4) .none kV28 dc28 pm28 an28 cd28 ct28), sl28⟩) (c28 : PySem.W.codeIn K cd28 "Trail.ask" = true) (k28 : PySem.W.keepIn K (.ref f28) = true)
  (a29 : PySem.W.nsIn K mainGlobals "_law_step" = some (some (.ref f29))) (l29 : K.lookup f29 = some ⟨oc29, od29, .func (PySem.W.fnOf "_law_step" "_law_step" (zb9 zl9) (zb1 zl9) (za3 zl9) .none kV29 dc29 pm29 an29 cd29 ct29), sl29⟩) (c29 : PySem.W.codeIn K cd29 "_law_step" = true) (k29 : PySem.W.keepIn K (.ref f29) = true)
  (a30 : PySem.W.findIn K (.ref C_Trail) "chosen" = some (some (.ref f30))) (i30 : PySem.W.isFn K (.ref f30) = true) (l30 : K.lookup f30 = some ⟨oc30, od30, .func (PySem.W.fnOf "chosen" "Trail.chosen" (zb9 zj5) (zb1 zj5) (za3 zj5) .none kV30 dc30 pm30 an30 cd30 ct30), sl30⟩) (c30 : PySem.W.codeIn K cd30 "Trail.chosen" = true) (k30 : PySem.W.keepIn K (.ref f30) = true)
  (a31 : PySem.W.findIn K (.ref C_Trail) "steps" = some (some (.ref f31))) (i31 : PySem.W.isFn K (.ref f31) = true) (l31 : K.lookup f31 = some ⟨oc31, od31, .func (PySem.W.fnOf "steps" "Trail.steps" (zb9 zl1) (zb1 zl1) (za3 zl1) .none kV31 dc31 pm31 an31 cd31 ct31), sl31⟩) (c31 : PySem.W.codeIn K cd31 "Trail.steps" = true) (k31 : PySem.W.keepIn K (.ref f31) = true)
  (a32 : PySem.W.nsIn K mainGlobals "_law_now" = some (some (.ref f32))) (l32 : K.lookup f32 = some ⟨oc32, od32, .func (PySem.W.fnOf "_law_now" "_law_now" (zb9 zo3) (zb1 zo3) (za3 zo3) .none kV32 dc32 pm32 an32 cd32 ct32), sl32⟩) (c32 : PySem.W.codeIn K cd32 "_law_now" = true) (k32 : PySem.W.keepIn K (.ref f32) = true)
  (a33 : PySem.W.findIn K (.ref C_Trail) "sizes" = some (some (.ref f33))) (i33 : PySem.W.isFn K (.ref f33) = true) (l33 : K.lookup f33 = some ⟨oc33, od33, .func (PySem.W.fnOf "sizes" "Trail.sizes" (zb9 zl2) (zb1 zl2) (za3 zl2) .none kV33 dc33 pm33 an33 cd33 ct33), sl33⟩) (c33 : PySem.W.codeIn K cd33 "Trail.sizes" = true) (k33 : PySem.W.keepIn K (.ref f33) = true)
  (a34 : PySem.W.nsIn K mainGlobals "_law_go_on" = some (some (.ref f34))) (l34 : K.lookup f34 = some ⟨oc34, od34, .func (PySem.W.fnOf "_law_go_on" "_law_go_on" (zb9 zk4) (zb1 zk4) (za3 zk4) .none kV34 dc34 pm34 an34 cd34 ct34), sl34⟩) (c34 : PySem.W.codeIn K cd34 "_law_go_on" = true) (k34 : PySem.W.keepIn K (.ref f34) = true)
  (a35 : PySem.W.findIn K (.ref C_Trail) "back" = some (some (.ref f35))) (i35 : PySem.W.isFn K (.ref f35) = true) (l35 : K.lookup f35 = some ⟨oc35, od35, .func (PySem.W.fnOf "back" "Trail.back" (zb9 zn0) (zb1 zn0) (za3 zn0) .none kV35 dc35 pm35 an35 cd35 ct35), sl35⟩) (c35 : PySem.W.codeIn K cd35 "Trail.back" = true) (k35 : PySem.W.keepIn K (.ref f35) = true)
  (a36 : PySem.W.findIn K (.ref C_Trail) "forth" = some (some (.ref f36))) (i36 : PySem.W.isFn K (.ref f36) = true) (l36 : K.lookup f36 = some ⟨oc36, od36, .func (PySem.W.fnOf "forth" "Trail.forth" (zb9 zl3) (zb1 zl3) (za3 zl3) .none kV36 dc36 pm36 an36 cd36 ct36), sl36⟩) (c36 : PySem.W.codeIn K cd36 "Trail.forth" = true) (k36 : PySem.W.keepIn K (.ref f36) = true)
  (a37 : PySem.W.nsIn K mainGlobals "_law_goes" = some (some (.ref f37))) (l37 : K.lookup f37 = some ⟨oc37, od37, .func (PySem.W.fnOf "_law_goes" "_law_goes" (zb9 zm2) (zb1 zm2) (za3 zm2) .none kV37 dc37 pm37 an37 cd37 ct37), sl37⟩) (c37 : PySem.W.codeIn K cd37 "_law_goes" = true) (k37 : PySem.W.keepIn K (.ref f37) = true)
  (a38 : PySem.W.findIn K (.ref C_Trail) "twin" = some (some (.ref f38))) (i38 : PySem.W.isFn K (.ref f38) = true) (l38 : K.lookup f38 = some ⟨oc38, od38, .func (PySem.W.fnOf "twin" "Trail.twin" (zb9 zm7) (zb1 zm7) (za3 zm7) .none kV38 dc38 pm38 an38 cd38 ct38), sl38⟩) (c38 : PySem.W.codeIn K cd38 "Trail.twin" = true) (k38 : PySem.W.keepIn K (.ref f38) = true)
  (a39 : PySem.W.nsIn K mainGlobals "law" = some (some (.ref f39))) (l39 : K.lookup f39 = some ⟨oc39, od39, .func (PySem.W.fnOf "law" "law" (zb9 s_law) (zb1 s_law) (za3 s_law) .none kV39 dc39 pm39 an39 cd39 ct39), sl39⟩) (c39 : PySem.W.codeIn K cd39 "law" = true) (k39 : PySem.W.keepIn K (.ref f39) = true)
  (g_FIGURES : PySem.W.nsIn K mainGlobals "FIGURES" = some (some (.str "0123456789" t_FIGURES)))
  (g_SMALL : PySem.W.nsIn K mainGlobals "SMALL" = some (some (.str "abcdefghijklmnopqrstuvwxyz" t_SMALL)))
  (g_GREAT : PySem.W.nsIn K mainGlobals "GREAT" = some (some (.str "ABCDEFGHIJKLMNOPQRSTUVWXYZ" t_GREAT)))
  (g_AT_GREAT : PySem.W.nsIn K mainGlobals "AT_GREAT" = some (some (.int 5 t_AT_GREAT)))
  (g_MARKS : PySem.W.nsIn K mainGlobals "MARKS" = some (some (.str "_-./" t_MARKS)))
  (g_BEHIND_MARK : PySem.W.nsIn K mainGlobals "BEHIND_MARK" = some (some (.int 6 t_BEHIND_MARK)))
  (g_AT_BEGINNING : PySem.W.nsIn K mainGlobals "AT_BEGINNING" = some (some (.int 8 t_AT_BEGINNING)))
  (g_EACH_PLACE : PySem.W.nsIn K mainGlobals "EACH_PLACE" = some (some (.int 10 t_EACH_PLACE)))
  (g_SAME_SIGN : PySem.W.nsIn K mainGlobals "SAME_SIGN" = some (some (.int 1 t_SAME_SIGN)))
  (g_MOST_BETWEEN : PySem.W.nsIn K mainGlobals "MOST_BETWEEN" = some (some (.int 5 t_MOST_BETWEEN)))
  (g_BESIDE : PySem.W.nsIn K mainGlobals "BESIDE" = some (some (.int 7 t_BESIDE)))
  (g_MOST_AHEAD : PySem.W.nsIn K mainGlobals "MOST_AHEAD" = some (some (.int 3 t_MOST_AHEAD)))
  (g_ASK : PySem.W.nsIn K mainGlobals "ASK" = some (some (.str "ask" t_ASK)))
  (g_PICK : PySem.W.nsIn K mainGlobals "PICK" = some (some (.str "pick" t_PICK)))
  (z_len : PySem.W.nsIn K mainGlobals "len" = some none)
  (z_range : PySem.W.nsIn K mainGlobals "range" = some none)
  (z_list : PySem.W.nsIn K mainGlobals "list" = some none)
  (z_sorted : PySem.W.nsIn K mainGlobals "sorted" = some none)
  (z_max : PySem.W.nsIn K mainGlobals "max" = some none)
  (z_min : PySem.W.nsIn K mainGlobals "min" = some none)
  : TabsIn K ∧ ∃ fd : FuncData, (∀ (s : Shared) (v : Value), BindsTo s fd ⟨[v], []⟩ [("_law_script", v)]) ∧ ∀ base : Heap, K.In base → base.Ns mainGlobals mg → BM mg base → FnOk l.prog w K mg base CX0 11 fa fd ["_law_script"] (spLaw K) := by
 have e := hfa.symm.trans (PySem.W.mg_of X G a39)
 cases e
 refine ⟨fun r hr => ?_, ?_⟩
 ·rcases hr with _ | ⟨_, hr⟩
  ·exact ⟨_, tb5⟩
  ·cases hr
 have A_Trail : ClsAt K mg "Trail" C_Trail := ⟨ns_Trail, ⟨pg_Trail, hd_Trail, po_Trail, sa_Trail⟩, PySem.W.mg_of X G ns_Trail⟩
 have D0 : DefAt K mg "_law_cell" zm3 f0 _ := ⟨ze9 (st := zm3) l0 c0 k0, PySem.W.mg_of X G a0⟩
 have D1 : DefAt K mg "_law_drawn" zk5 f1 _ := ⟨ze9 (st := zk5) l1 c1 k1, PySem.W.mg_of X G a1⟩
 have D2 : DefAt K mg "_law_name" zm0 f2 _ := ⟨ze9 (st := zm0) l2 c2 k2, PySem.W.mg_of X G a2⟩
 have D3 : DefAt K mg "_law_names" zk3 f3 _ := ⟨ze9 (st := zk3) l3 c3 k3, PySem.W.mg_of X G a3⟩
 have D5 : yp2 K mg "in_order" zq4 f5 cc5 126 := ⟨⟨_, _, _, _, _, _, _, _, l5⟩, c5, k5, PySem.W.mg_of X G a5, tb5⟩
 have D6 : DefAt K mg "first_rows" zk0 f6 _ := ⟨ze9 (st := zk0) l6 c6 k6, PySem.W.mg_of X G a6⟩
 have D7 : DefAt K mg "beginning_points" ze6 f7 _ := ⟨ze9 (st := ze6) l7 c7 k7, PySem.W.mg_of X G a7⟩
 have D8 : DefAt K mg "own_points" zj9 f8 _ := ⟨ze9 (st := zj9) l8 c8 k8, PySem.W.mg_of X G a8⟩
 have D9 : DefAt K mg "meets" zx5 f9 _ := ⟨ze9 (st := zx5) l9 c9 k9, PySem.W.mg_of X G a9⟩
 have D10 : DefAt K mg "last_sign_tails" zf1 f10 _ := ⟨ze9 (st := zf1) l10 c10 k10, PySem.W.mg_of X G a10⟩
 have D11 : DefAt K mg "first_of_most" zh1 f11 _ := ⟨ze9 (st := zh1) l11 c11 k11, PySem.W.mg_of X G a11⟩
 have D12 : DefAt K mg "link_points" zi8 f12 _ := ⟨ze9 (st := zi8) l12 c12 k12, PySem.W.mg_of X G a12⟩
 have D13 : DefAt K mg "linked_tails" zh8 f13 _ := ⟨ze9 (st := zh8) l13 c13 k13, PySem.W.mg_of X G a13⟩
 have D14 : DefAt K mg "longer_tails" zh7 f14 _ := ⟨ze9 (st := zh7) l14 c14 k14, PySem.W.mg_of X G a14⟩
 have D15 : DefAt K mg "lead_points" zi9 f15 _ := ⟨ze9 (st := zi9) l15 c15 k15, PySem.W.mg_of X G a15⟩
 have D16 : DefAt K mg "best" zG0 f16 _ := ⟨ze9 (st := zG0) l16 c16 k16, PySem.W.mg_of X G a16⟩
 have D17 : DefAt K mg "fitting_rows" zh9 f17 _ := ⟨ze9 (st := zh9) l17 c17 k17, PySem.W.mg_of X G a17⟩
 have D18 : DefAt K mg "all_rows" zo2 f18 _ := ⟨ze9 (st := zo2) l18 c18 k18, PySem.W.mg_of X G a18⟩
 have D19 : DefAt K mg "finds" zx6 f19 _ := ⟨ze9 (st := zx6) l19 c19 k19, PySem.W.mg_of X G a19⟩
 have D20 : DefAt K mg "_law_mark" zm1 f20 _ := ⟨ze9 (st := zm1) l20 c20 k20, PySem.W.mg_of X G a20⟩
 have D21 : DefAt K mg "_law_query" zk2 f21 _ := ⟨ze9 (st := zk2) l21 c21 k21, PySem.W.mg_of X G a21⟩
 have D22 : DefAt K mg "_law_typed" zk1 f22 _ := ⟨ze9 (st := zk1) l22 c22 k22, PySem.W.mg_of X G a22⟩
 have D26 : DefAt K mg "earliest_places" zf2 f26 _ := ⟨ze9 (st := zf2) l26 c26 k26, PySem.W.mg_of X G a26⟩
 have D27 : DefAt K mg "fits" zF9 f27 _ := ⟨ze9 (st := zF9) l27 c27 k27, PySem.W.mg_of X G a27⟩
 have D29 : DefAt K mg "_law_step" zl9 f29 _ := ⟨ze9 (st := zl9) l29 c29 k29, PySem.W.mg_of X G a29⟩
 have D32 : DefAt K mg "_law_now" zo3 f32 _ := ⟨ze9 (st := zo3) l32 c32 k32, PySem.W.mg_of X G a32⟩
 have D34 : DefAt K mg "_law_go_on" zk4 f34 _ := ⟨ze9 (st := zk4) l34 c34 k34, PySem.W.mg_of X G a34⟩
 have D37 : DefAt K mg "_law_goes" zm2 f37 _ := ⟨ze9 (st := zm2) l37 c37 k37, PySem.W.mg_of X G a37⟩
 refine ⟨PySem.W.fnOf "law" "law" (zb9 s_law) (zb1 s_law) (za3 s_law) .none kV39 dc39 pm39 an39 cd39 ct39, fun s v => .of_eq rfl, fun base _ _ bm => ?_⟩
 have h__law_cell : DefOk l.prog w K mg base "_law_cell" 1 2 ["_law_script", "_law_k"] zo7 := zT9 D0 (PySem.W.mg_none_of X G z_len)
 have h__law_drawn : DefOk l.prog w K mg base "_law_drawn" 2 3 ["_law_script", "_law_k", "_law_many"] zb0 := zP5 D1 h__law_cell
 have h__law_name : DefOk l.prog w K mg base "_law_name" 3 2 ["_law_script", "_law_at"] zk8 := zT6 D2 h__law_drawn (PySem.W.mg_none_of X G z_range)
 have h__law_names : DefOk l.prog w K mg base "_law_names" 4 3 ["_law_script", "_law_at", "_law_most"] zi7 := zP3 D3 h__law_drawn h__law_name (PySem.W.mg_none_of X G z_len) (PySem.W.mg_none_of X G z_range)
 have c_Trail := zB4 (P := l.prog) (w := w) (base := base) A_Trail n_Trail_undone n_Trail_done n_Trail_names (PySem.W.mg_none_of X G z_list) ⟨mk_Trail, a4, i4, kc_Trail⟩ (ze9 (st := zh3) l4 c4 k4)
 have h_in_order : DefOk l.prog w K mg base "in_order" 4 2 ["names", "rows"] zn1 := zX5 D5 bm (PySem.W.mg_none_of X G z_len) (PySem.W.mg_none_of X G z_sorted)
 have h_first_rows : DefOk l.prog w K mg base "first_rows" 5 3 ["names", "rows", "many"] zi6 := zP0 D6 h_in_order (PySem.W.mg_none_of X G z_max)
 have h_beginning_points : DefOk l.prog w K mg base "beginning_points" 1 2 ["name", "place"] zg0 := zx7 D7 (PySem.W.mg_of X G g_FIGURES) (PySem.W.mg_of X G g_SMALL) (PySem.W.mg_of X G g_GREAT) (PySem.W.mg_of X G g_AT_GREAT) (PySem.W.mg_of X G g_MARKS) (PySem.W.mg_of X G g_BEHIND_MARK) (PySem.W.mg_of X G g_AT_BEGINNING)
 have h_own_points : DefOk l.prog w K mg base "own_points" 2 3 ["sign", "name", "place"] zf6 := zO9 D8 h_beginning_points (PySem.W.mg_of X G g_EACH_PLACE) (PySem.W.mg_of X G g_SAME_SIGN)
 have h_meets : DefOk l.prog w K mg base "meets" 1 2 ["sign", "other"] zo0 := ok_meets D9 (PySem.W.mg_of X G g_SMALL)
 have h_last_sign_tails : DefOk l.prog w K mg base "last_sign_tails" 3 2 ["sign", "name"] ze3 := zz2 D10 h_meets h_own_points (PySem.W.mg_none_of X G z_len) (PySem.W.mg_none_of X G z_range)
 have h_first_of_most : DefOk l.prog w K mg base "first_of_most" 1 1 ["tails"] zd0 := zD7 D11
 have h_link_points : DefOk l.prog w K mg base "link_points" 1 2 ["ahead", "place"] zj0 := zK3 D12 (PySem.W.mg_of X G g_MOST_BETWEEN) (PySem.W.mg_of X G g_BESIDE) (PySem.W.mg_none_of X G z_min)
 have h_linked_tails : DefOk l.prog w K mg base "linked_tails" 2 2 ["place", "tails"] zg6 := zH5 D13 h_link_points
 have h_longer_tails : DefOk l.prog w K mg base "longer_tails" 3 3 ["sign", "name", "tails"] zi0 := zH4 D14 h_meets h_own_points h_linked_tails h_first_of_most (PySem.W.mg_none_of X G z_len) (PySem.W.mg_none_of X G z_range)
 have h_lead_points : DefOk l.prog w K mg base "lead_points" 1 1 ["place"] zh5 := zK4 D15 (PySem.W.mg_of X G g_MOST_AHEAD) (PySem.W.mg_none_of X G z_min)
 have h_best : DefOk l.prog w K mg base "best" 4 2 ["query", "name"] zx3 := ok_best D16 h_lead_points h_first_of_most h_longer_tails h_last_sign_tails (PySem.W.mg_none_of X G z_len) (PySem.W.mg_none_of X G z_range)
 have h_fitting_rows : DefOk l.prog w K mg base "fitting_rows" 5 3 ["names", "query", "numbers"] zg7 := zH6 D17 h_best
 have h_all_rows : DefOk l.prog w K mg base "all_rows" 6 2 ["names", "query"] zn2 := zX6 D18 h_fitting_rows (PySem.W.mg_none_of X G z_len) (PySem.W.mg_none_of X G z_list) (PySem.W.mg_none_of X G z_range)
 have h_finds : DefOk l.prog w K mg base "finds" 7 3 ["names", "query", "many"] zo6 := ok_finds D19 h_all_rows h_first_rows
 have h__law_mark : DefOk l.prog w K mg base "_law_mark" 1 1 ["_law_sign"] zk9 := zT7 D20
 have h__law_query : DefOk l.prog w K mg base "_law_query" 3 4 ["_law_script", "_law_at", "_law_name_here", "_law_most"] zk7 := zP2 D21 h__law_drawn h__law_mark (PySem.W.mg_none_of X G z_range) (PySem.W.mg_none_of X G z_len) (PySem.W.mg_none_of X G z_min)
 have h__law_typed : DefOk l.prog w K mg base "_law_typed" 4 3 ["_law_script", "_law_at", "_law_names_here"] zk6 := zP1 D22 h__law_drawn h__law_query (PySem.W.mg_none_of X G z_len)
 have h_Trail_asked := zK8 (P := l.prog) (w := w) (base := base) A_Trail n_Trail_done (PySem.W.mg_of X G g_ASK) (PySem.W.mg_none_of X G z_len) ⟨a23, i23, k23⟩ (ze9 (st := zl4) l23 c23 k23)
 have h_Trail_step := zP7 (P := l.prog) (w := w) (base := base) A_Trail n_Trail_undone n_Trail_done ⟨a24, i24, k24⟩ (ze9 (st := zm8) l24 c24 k24)
 have h_Trail_pick := zP8 (P := l.prog) (w := w) (base := base) A_Trail n_Trail_names h_Trail_step h_Trail_asked h_finds (PySem.W.mg_of X G g_PICK) (PySem.W.mg_none_of X G z_len) ⟨a25, i25, k25⟩ (ze9 (st := zm9) l25 c25 k25)
 have h_earliest_places : DefOk l.prog w K mg base "earliest_places" 2 2 ["query", "name"] zh0 := zz3 D26 h_meets (PySem.W.mg_none_of X G z_len) (PySem.W.mg_none_of X G z_range)
 have h_fits : DefOk l.prog w K mg base "fits" 3 2 ["query", "name"] zC7 := ok_fits D27 h_earliest_places (PySem.W.mg_none_of X G z_len)
 have h_Trail_ask := zU0 (P := l.prog) (w := w) (base := base) A_Trail n_Trail_names h_Trail_step h_fits (PySem.W.mg_of X G g_ASK) (PySem.W.mg_none_of X G z_len) ⟨a28, i28, k28⟩ (ze9 (st := zo4) l28 c28 k28)
 have h__law_step := zT5 (P := l.prog) (w := w) (base := base) D29 h_Trail_pick h_Trail_ask h_Trail_asked h__law_drawn h__law_typed h_finds (PySem.W.mg_none_of X G z_len)
 have h_Trail_chosen := zH7 (P := l.prog) (w := w) (base := base) A_Trail n_Trail_done (PySem.W.mg_of X G g_ASK) (PySem.W.mg_of X G g_PICK) ⟨a30, i30, k30⟩ (ze9 (st := zj5) l30 c30 k30)
 have h_Trail_steps := zK5 (P := l.prog) (w := w) (base := base) A_Trail n_Trail_done ⟨a31, i31, k31⟩ (ze9 (st := zl1) l31 c31 k31)
 have h__law_now := zX7 (P := l.prog) (w := w) (base := base) D32 h_Trail_steps h_Trail_chosen h_Trail_asked
 have h_Trail_sizes := zK6 (P := l.prog) (w := w) (base := base) A_Trail n_Trail_undone n_Trail_done (PySem.W.mg_none_of X G z_len) ⟨a33, i33, k33⟩ (ze9 (st := zl2) l33 c33 k33)
 have h__law_go_on := zP4 (P := l.prog) (w := w) (base := base) D34 h__law_now h__law_step h_Trail_sizes (PySem.W.mg_none_of X G z_range)
 have h_Trail_back := zP9 (P := l.prog) (w := w) (base := base) A_Trail n_Trail_undone n_Trail_done (PySem.W.mg_none_of X G z_len) ⟨a35, i35, k35⟩ (ze9 (st := zn0) l35 c35 k35)
 have h_Trail_forth := zK7 (P := l.prog) (w := w) (base := base) A_Trail n_Trail_done n_Trail_undone (PySem.W.mg_none_of X G z_len) ⟨a36, i36, k36⟩ (ze9 (st := zl3) l36 c36 k36)
 have h__law_goes := zT8 (P := l.prog) (w := w) (base := base) D37 h__law_now h_Trail_sizes h_Trail_forth h_Trail_back h_Trail_steps (PySem.W.mg_none_of X G z_range) (PySem.W.mg_none_of X G z_len)
 have h_Trail_twin := zP6 (P := l.prog) (w := w) (base := base) A_Trail n_Trail_undone n_Trail_done n_Trail_names c_Trail (PySem.W.mg_none_of X G z_list) ⟨a38, i38, k38⟩ (ze9 (st := zm7) l38 c38 k38)
 exact law_fn (ok_law (ze9 (st := s_law) l39 c39 k39) h__law_now h__law_go_on h__law_goes h__law_step h_Trail_twin h_Trail_sizes h_Trail_back h_Trail_forth c_Trail h__law_drawn h__law_names (PySem.W.mg_none_of X G z_range) (PySem.W.mg_none_of X G z_len)) hl
end Law
open PySem PySem.W PyProof.Rows
set_option maxRecDepth 100000 in
set_option maxHeartbeats 0 in
theorem PySem.Challenge.cw_fewfind_k94_whole_back_and_twins_holds : PySem.Challenge.rw_fewfind_k94_whole_back_and_twins.Holds := by
 w_on; o_law; k_head; (case hw => w_witness2)
 k_fill
 refine FD.walkM (l := PySem.Challenge.rw_fewfind_k94_whole_back_and_twins) (k := 11) (p := "_law_script") rfl rfl ⟨rfl, by decide, by decide⟩ ?T ?F
 case F =>
  intro w mg fa h KX G hmg
  refine' Law.all_mk KX G hmg Law.main ?ns_Trail ?pg_Trail ?hd_Trail ?po_Trail ?sa_Trail ?mk_Trail ?kc_Trail ?n_Trail_undone ?n_Trail_done ?n_Trail_names ?a0 ?l0 ?c0 ?k0 ?a1 ?l1 ?c1 ?k1 ?a2 ?l2 ?c2 ?k2 ?a3 ?l3 ?c3 ?k3 ?a4 ?i4 ?l4 ?c4 ?k4 ?a5 ?l5 ?c5 ?k5 ?tb5 ?a6 ?l6 ?c6 ?k6 ?a7 ?l7 ?c7 ?k7 ?a8 ?l8 ?c8 ?k8 ?a9 ?l9 ?c9 ?k9 ?a10 ?l10 ?c10 ?k10 ?a11 ?l11 ?c11 ?k11 ?a12 ?l12 ?c12 ?k12 ?a13 ?l13 ?c13 ?k13 ?a14 ?l14 ?c14 ?k14 ?a15 ?l15 ?c15 ?k15 ?a16 ?l16 ?c16 ?k16 ?a17 ?l17 ?c17 ?k17 ?a18 ?l18 ?c18 ?k18 ?a19 ?l19 ?c19 ?k19 ?a20 ?l20 ?c20 ?k20 ?a21 ?l21 ?c21 ?k21 ?a22 ?l22 ?c22 ?k22 ?a23 ?i23 ?l23 ?c23 ?k23 ?a24 ?i24 ?l24 ?c24 ?k24 ?a25 ?i25 ?l25 ?c25 ?k25 ?a26 ?l26 ?c26 ?k26 ?a27 ?l27 ?c27 ?k27 ?a28 ?i28 ?l28 ?c28 ?k28 ?a29 ?l29 ?c29 ?k29 ?a30 ?i30 ?l30 ?c30 ?k30 ?a31 ?i31 ?l31 ?c31 ?k31 ?a32 ?l32 ?c32 ?k32 ?a33 ?i33 ?l33 ?c33 ?k33 ?a34 ?l34 ?c34 ?k34 ?a35 ?i35 ?l35 ?c35 ?k35 ?a36 ?i36 ?l36 ?c36 ?k36 ?a37 ?l37 ?c37 ?k37 ?a38 ?i38 ?l38 ?c38 ?k38 ?a39 ?l39 ?c39 ?k39 ?g_FIGURES ?g_SMALL ?g_GREAT ?g_AT_GREAT ?g_MARKS ?g_BEHIND_MARK ?g_AT_BEGINNING ?g_EACH_PLACE ?g_SAME_SIGN ?g_MOST_BETWEEN ?g_BESIDE ?g_MOST_AHEAD ?g_ASK ?g_PICK ?z_len ?z_range ?z_list ?z_sorted ?z_max ?z_min
  (case ns_Trail => k_is)
  (case pg_Trail => k_is)
  (case hd_Trail => k_is)
  (case po_Trail => k_is)
  (case sa_Trail => k_is)
  (case mk_Trail => k_is)
  (case kc_Trail => k_is)
  (case n_Trail_undone => k_is)
  (case n_Trail_done => k_is)
  (case n_Trail_names => k_is)
  (case a0 => k_is)
  (case l0 => k_is)
  (case c0 => k_is)
  (case k0 => k_is)
  (case a1 => k_is)
  (case l1 => k_is)
  (case c1 => k_is)
  (case k1 => k_is)
  (case a2 => k_is)
  (case l2 => k_is)
  (case c2 => k_is)
  (case k2 => k_is)
  (case a3 => k_is)
  (case l3 => k_is)
  (case c3 => k_is)
  (case k3 => k_is)
  (case a4 => k_is)
  (case i4 => k_is)
  (case l4 => k_is)
  (case c4 => k_is)
  (case k4 => k_is)
  (case a5 => k_is)
  (case l5 => k_is)
  (case c5 => k_is)
  (case k5 => k_is)
  (case tb5 => with_unfolding_all rfl)
  (case a6 => k_is)
  (case l6 => k_is)
  (case c6 => k_is)
  (case k6 => k_is)
  (case a7 => k_is)
  (case l7 => k_is)
  (case c7 => k_is)
  (case k7 => k_is)
  (case a8 => k_is)
  (case l8 => k_is)
  (case c8 => k_is)
  (case k8 => k_is)
  (case a9 => k_is)
  (case l9 => k_is)
  (case c9 => k_is)
  (case k9 => k_is)
  (case a10 => k_is)
  (case l10 => k_is)
  (case c10 => k_is)
  (case k10 => k_is)
  (case a11 => k_is)
  (case l11 => k_is)
  (case c11 => k_is)
  (case k11 => k_is)
  (case a12 => k_is)
  (case l12 => k_is)
  (case c12 => k_is)
  (case k12 => k_is)
  (case a13 => k_is)
  (case l13 => k_is)
  (case c13 => k_is)
  (case k13 => k_is)
  (case a14 => k_is)
  (case l14 => k_is)
  (case c14 => k_is)
  (case k14 => k_is)
  (case a15 => k_is)
  (case l15 => k_is)
  (case c15 => k_is)
  (case k15 => k_is)
  (case a16 => k_is)
  (case l16 => k_is)
  (case c16 => k_is)
  (case k16 => k_is)
  (case a17 => k_is)
  (case l17 => k_is)
  (case c17 => k_is)
  (case k17 => k_is)
  (case a18 => k_is)
  (case l18 => k_is)
  (case c18 => k_is)
  (case k18 => k_is)
  (case a19 => k_is)
  (case l19 => k_is)
  (case c19 => k_is)
  (case k19 => k_is)
  (case a20 => k_is)
  (case l20 => k_is)
  (case c20 => k_is)
  (case k20 => k_is)
  (case a21 => k_is)
  (case l21 => k_is)
  (case c21 => k_is)
  (case k21 => k_is)
  (case a22 => k_is)
  (case l22 => k_is)
  (case c22 => k_is)
  (case k22 => k_is)
  (case a23 => k_is)
  (case i23 => k_is)
  (case l23 => k_is)
  (case c23 => k_is)
  (case k23 => k_is)
  (case a24 => k_is)
  (case i24 => k_is)
  (case l24 => k_is)
  (case c24 => k_is)
  (case k24 => k_is)
  (case a25 => k_is)
  (case i25 => k_is)
  (case l25 => k_is)
  (case c25 => k_is)
  (case k25 => k_is)
  (case a26 => k_is)
  (case l26 => k_is)
  (case c26 => k_is)
  (case k26 => k_is)
  (case a27 => k_is)
  (case l27 => k_is)
  (case c27 => k_is)
  (case k27 => k_is)
  (case a28 => k_is)
  (case i28 => k_is)
  (case l28 => k_is)
  (case c28 => k_is)
  (case k28 => k_is)
  (case a29 => k_is)
  (case l29 => k_is)
  (case c29 => k_is)
  (case k29 => k_is)
  (case a30 => k_is)
  (case i30 => k_is)
  (case l30 => k_is)
  (case c30 => k_is)
  (case k30 => k_is)
  (case a31 => k_is)
  (case i31 => k_is)
  (case l31 => k_is)
  (case c31 => k_is)
  (case k31 => k_is)
  (case a32 => k_is)
  (case l32 => k_is)
  (case c32 => k_is)
  (case k32 => k_is)
  (case a33 => k_is)
  (case i33 => k_is)
  (case l33 => k_is)
  (case c33 => k_is)
  (case k33 => k_is)
  (case a34 => k_is)
  (case l34 => k_is)
  (case c34 => k_is)
  (case k34 => k_is)
  (case a35 => k_is)
  (case i35 => k_is)
  (case l35 => k_is)
  (case c35 => k_is)
  (case k35 => k_is)
  (case a36 => k_is)
  (case i36 => k_is)
  (case l36 => k_is)
  (case c36 => k_is)
  (case k36 => k_is)
  (case a37 => k_is)
  (case l37 => k_is)
  (case c37 => k_is)
  (case k37 => k_is)
  (case a38 => k_is)
  (case i38 => k_is)
  (case l38 => k_is)
  (case c38 => k_is)
  (case k38 => k_is)
  (case a39 => k_is)
  (case l39 => k_is)
  (case c39 => k_is)
  (case k39 => k_is)
  (case g_FIGURES => k_is)
  (case g_SMALL => k_is)
  (case g_GREAT => k_is)
  (case g_AT_GREAT => k_is)
  (case g_MARKS => k_is)
  (case g_BEHIND_MARK => k_is)
  (case g_AT_BEGINNING => k_is)
  (case g_EACH_PLACE => k_is)
  (case g_SAME_SIGN => k_is)
  (case g_MOST_BETWEEN => k_is)
  (case g_BESIDE => k_is)
  (case g_MOST_AHEAD => k_is)
  (case g_ASK => k_is)
  (case g_PICK => k_is)
  (case z_len => k_is)
  (case z_range => k_is)
  (case z_list => k_is)
  (case z_sorted => k_is)
  (case z_max => k_is)
  (case z_min => k_is)
 case T => decide
