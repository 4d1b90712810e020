import PyProof.Rows.All
import Wide.All
import OpenK.AllK
import Wide.FinOn
import Lean
import PyProof.EqAt
import PyProof.EqKinds
import PyProof.TupleCall
import PyProof.NeKinds
import PyProof.NeData
import PyProof.P3In
import PyProof.ZipIter
import PyProof.Draws
import PyProof.StrWalks
import PyProof.IsiPairs
import PyProof.IsiSeqPairs
import PyProof.ConsumeWalk
import PyProof.ListStr
import PyProof.IsiHeapPairs
import PyProof.Rows.Range3
import PyProof.IsiNone
import KE.KRevIter
import KE.KRevSl
import PyProof.Conv_int_bool
import PyProof.ListRange
import PyProof.TupleOfSeq
import PyProof.MinMaxWalk
import PyProof.WalkInts
import PyProof.SeqI3
import PySem.Challenge.RW_fewfind_k51_whole_bounds
set_option Elab.async false
set_option linter.all false
set_option maxRecDepth 100000
namespace L2
open PySem PySem.Spec PyProof.Rows
abbrev Key := Sum Int Str
def keyIs : Key → Value → Bool
  | .inl k, v => Value.isInt k v
  | .inr x, v => Value.isStrOf x v
def keyH (w : World) : Key → Int
  | .inl k => hashInt k
  | .inr x => hashStr w x
theorem keyIs_shape : ∀ {k : Key} {v : Value}, keyIs k v = true → (∃ i t, k = Sum.inl i ∧ v = Value.int i t) ∨ (∃ x t, k = Sum.inr x ∧ v = Value.str x t)
  | .inl i, v, h => by
    obtain ⟨t, e⟩ := Value.isInt_shape (k := i) (v := v) h
    exact .inl ⟨i, t, rfl, e⟩
  | .inr x, v, h => by
    obtain ⟨t, e⟩ := Value.isStrOf_shape (x := x) (v := v) h
    exact .inr ⟨x, t, rfl, e⟩
theorem key_ll (a b : Int) : decide ((Sum.inl a : Key) = Sum.inl b) = (a == b) := by
  by_cases e : a = b
  · subst e; simp
  · have h : ¬ (Sum.inl a : Key) = Sum.inl b := fun q => e (Sum.inl.inj q)
    rw [decide_eq_false h]
    exact (beq_eq_false_iff_ne.mpr e).symm
theorem key_rr (a b : Str) : decide ((Sum.inr a : Key) = Sum.inr b) = decide (a = b) := by
  by_cases e : a = b
  · subst e; simp
  · have h : ¬ (Sum.inr a : Key) = Sum.inr b := fun q => e (Sum.inr.inj q)
    rw [decide_eq_false h, decide_eq_false e]
theorem key_lr (a : Int) (b : Str) : decide ((Sum.inl a : Key) = Sum.inr b) = false := decide_eq_false (fun q => nomatch q)
theorem key_rl (a : Str) (b : Int) : decide ((Sum.inr a : Key) = Sum.inl b) = false := decide_eq_false (fun q => nomatch q)
def mixKind (prog : Program) (w : World) : PySem.KeyKind prog w Key where
  is := keyIs
  hash := keyH w
  inj := fun v a b ha hb => by
    rcases keyIs_shape ha with ⟨i, t, rfl, rfl⟩ | ⟨x, t, rfl, rfl⟩
    · rcases keyIs_shape hb with ⟨j, u, rfl, e⟩ | ⟨y, u, rfl, e⟩
      · injection e with e1 _; rw [e1]
      · exact nomatch e
    · rcases keyIs_shape hb with ⟨j, u, rfl, e⟩ | ⟨y, u, rfl, e⟩
      · exact nomatch e
      · injection e with e1 _; rw [e1]
  byValue := fun k v h => by
    rcases keyIs_shape h with ⟨i, t, rfl, rfl⟩ | ⟨x, t, rfl, rfl⟩ <;> rfl
  pyHash := fun hv h => by
    rcases keyIs_shape hv with ⟨i, t, rfl, rfl⟩ | ⟨x, t, rfl, rfl⟩
    · exact wpAny_pyHash_int h
    · exact wpAny_pyHash_str h
  eqBool := fun hu hv h => by
    rcases keyIs_shape hu with ⟨i, t, rfl, rfl⟩ | ⟨x, t, rfl, rfl⟩
    · rcases keyIs_shape hv with ⟨j, u, rfl, rfl⟩ | ⟨y, u, rfl, rfl⟩
      · rw [key_ll] at h; exact wpAny_eqBool_int h
      · rw [key_lr] at h; exact SeqAt.EqAt.int_str i t y u _ _ _ _ h
    · rcases keyIs_shape hv with ⟨j, u, rfl, rfl⟩ | ⟨y, u, rfl, rfl⟩
      · rw [key_rl] at h; exact SeqAt.EqAt.str_int x t j u _ _ _ _ h
      · rw [key_rr] at h; exact wpAny_eqBool_str h
  «strs» := fun k x t v h => by
    rcases keyIs_shape h with ⟨i, u, rfl, e⟩ | ⟨y, u, rfl, e⟩
    · exact nomatch e
    · injection e with e1 _
      subst e1
      cases v <;> rfl
end L2
namespace L2
open PySem PySem.Spec PyProof.Rows
inductive V where
  | non | bl (b : Bool) | int (i : Int) | str (x : Str) | byt (b : Array UInt8) | flt (b : UInt64) | ref (a : Addr) | ty (n : String)
  deriving DecidableEq
def RelV : V → Value → Prop
  | .non, u => u = Value.none
  | .bl b, u => u = Value.bool b
  | .int i, u => ∃ t, u = Value.int i t
  | .str x, u => ∃ t, u = Value.str x t
  | .byt b, u => ∃ t, u = Value.bytes b t
  | .flt b, u => ∃ t, u = Value.float b t
  | .ref a, u => u = Value.ref a
  | .ty n, u => u = Value.type n
abbrev Vals : List V → List Value → Prop := Paired RelV
theorem Vals.length {xs : List V} {us : List Value} (r : Vals xs us) : xs.length = us.length := Paired.length r
theorem Vals.get : ∀ {xs : List V} {us : List Value} {i : Nat} {x : V}, Vals xs us → xs[i]? = some x → ∃ u, us[i]? = some u ∧ RelV x u
  | _, _, _, _, .nil, e => by simp at e
  | _, _, 0, _, .cons r _, e => by simp at e; subst e; exact ⟨_, rfl, r⟩
  | _, _, i + 1, x, .cons _ t, e => by
    obtain ⟨u, h1, h2⟩ := Vals.get (i := i) (x := x) t (by simpa using e)
    exact ⟨u, by simpa using h1, h2⟩
theorem Vals.set {x : V} {u : Value} (r : RelV x u) : ∀ {xs : List V} {us : List Value} (i : Nat), Vals xs us → Vals (xs.set i x) (us.set i u)
  | _, _, _, .nil => .nil
  | _, _, 0, .cons _ t => .cons r t
  | _, _, i + 1, .cons q t => .cons q (Vals.set r i t)
theorem Vals.append : ∀ {xs ys : List V} {us ws : List Value}, Vals xs us → Vals ys ws → Vals (xs ++ ys) (us ++ ws)
  | _, _, _, _, .nil, s => s
  | _, _, _, _, .cons r t, s => .cons r (Vals.append t s)
theorem Vals.take : ∀ {xs : List V} {us : List Value} (n : Nat), Vals xs us → Vals (xs.take n) (us.take n)
  | _, _, 0, _ => .nil
  | _, _, _ + 1, .nil => .nil
  | _, _, n + 1, .cons r t => .cons r (Vals.take n t)
theorem Vals.drop : ∀ {xs : List V} {us : List Value} (n : Nat), Vals xs us → Vals (xs.drop n) (us.drop n)
  | _, _, 0, r => r
  | _, _, _ + 1, .nil => .nil
  | _, _, n + 1, .cons _ t => Vals.drop n t
def RelO : Option V → Option Value → Prop
  | some v, some u => RelV v u
  | none, none => True
  | _, _ => False
def KV {κ : Type} : List (κ × V) → List (κ × Value) → Prop := Paired fun (p : κ × V) (q : κ × Value) => p.1 = q.1 ∧ RelV p.2 q.2
def kV : Key → V
  | .inl i => .int i
  | .inr x => .str x
inductive HO where
  | lst (xs : List V)
  | tup (xs : List V)
  | dK (kvs : List (Key × V)) | dT (kvs : List (List Key × V))
  | set (S : Int → Bool) (n : Nat)
  | ins (C dx : Addr) (fs : List (Str × V))
  | own (x : Addr)
  | xd (fs : List (Str × V))
  | met (f x : Addr)
  | rng (lo hi : Int)
  | frz (o : Obj) (u : HO)
  | tbl (ps : Array Value)
  | ext (φ : Heap → Prop)
abbrev Hp := Addr → Option HO
def upd (H : Hp) (a : Addr) (o : HO) : Hp := fun b => if b = a then some o else H b
theorem upd_same {H : Hp} {a : Addr} {o : HO} : upd H a o a = some o := by unfold upd; rw [if_pos rfl]
theorem upd_ne {H : Hp} {a b : Addr} {o : HO} (h : b ≠ a) : upd H a o b = H b := by unfold upd; rw [if_neg h]
theorem ne_of_none {H : Hp} {a b : Addr} {o : HO} (h : H a = some o) (h' : H b = none) : a ≠ b := by
  intro e; subst e; rw [h] at h'; cases h'
section
variable (P : Program) (w : World)
def ObjOk (H : Hp) (h : Heap) (a : Addr) : HO → Prop
  | .lst xs => xs.length ≤ sizeLine ∧ ∃ (its : List Value) (n : Nat), Vals xs its ∧ h.get? a = some { cls := .type "list", data := .seq its.toArray n }
  | .tup xs => xs.length ≤ sizeLine ∧ ∃ its : List Value, Vals xs its ∧ IsTup h a its.toArray
  | .dK kvs => kvs.length ≤ sizeLine ∧ (a == sysModules) = false ∧ ∃ vs, KV kvs vs ∧ h.DictOf (mixKind P w) a vs
  | .dT kvs => kvs.length ≤ sizeLine ∧ (a == sysModules) = false ∧ ∃ xs : List (List Key × Addr × Value),
      Paired (fun (p : List Key × V) (q : List Key × Addr × Value) => p.1 = q.1 ∧ H q.2.1 = some (.tup (p.1.map kV)) ∧ RelV p.2 q.2.2) kvs xs ∧
      ∃ o es ep, h.get? a = some o ∧ o.ExactDict ∧ o.data = .dict es ep ∧ es.toList = xs.map (entryOfKey (tupleKind (mixKind P w))) ∧ (xs.map (·.1)).Nodup
  | .set S n => h.SetOf (intKind P w) a S n
  | .ins C dx fs => H dx = some (.own a) ∧ fs.length ≤ 1000 ∧ dx ≠ a ∧ h.get? a = some (PySem.W.instObj C dx) ∧
      ∃ mA, h.Ns1 dx mA ∧ (∀ f, RelO (fs.lookup f) (mA f)) ∧ PySem.Within mA (fs.map (·.1))
  | .own _ => ∃ o, h.get? a = some o
  | .xd fs => ∃ mA, h.Ns1 a mA ∧ ∀ f, RelO (fs.lookup f) (mA f)
  | .rng lo hi => ∃ t u v, h.get? a = some { cls := .type "range", data := .fields #[.int lo t, .int hi u, .int 1 v] }
  | .frz o u => h.get? a = some o ∧ ObjOk H h a u
  | .tbl ps => h.get? a = some { cls := .none, data := .fields ps }
  | .met f x => h.get? a = some (PySem.W.methodObj (.ref f) (.ref x))
  | .ext φ => φ h ∧ (∃ o, h.get? a = some o) ∧ ∀ h1 h2 : Heap, φ h1 → (∀ o, h1.get? a = some o → h2.get? a = some o) → φ h2
def HOk (H : Hp) (h : Heap) : Prop := ∀ a o, H a = some o → ObjOk P w H h a o
end
section
variable {P : Program} {w : World} {H H' : Hp} {h h' : Heap} {a : Addr} {o : HO}
theorem ObjOk.lt (x : ObjOk P w H h a o) : a < h.objs.size := by
  cases o with
  | lst xs => obtain ⟨_, _, _, _, e⟩ := x; exact Heap.lt_size e
  | tup xs => obtain ⟨_, _, _, p⟩ := x; exact p.lt
  | dK kvs => obtain ⟨_, _, _, _, o, _, _, e, _⟩ := x; exact Heap.lt_size e
  | dT kvs => obtain ⟨_, _, _, _, o, _, _, e, _⟩ := x; exact Heap.lt_size e
  | set S n => obtain ⟨o, _, _, _, e, _⟩ := x; exact Heap.lt_size e
  | ins C dx fs => obtain ⟨_, _, _, e, _⟩ := x; exact Heap.lt_size e
  | own y => obtain ⟨_, e⟩ := x; exact Heap.lt_size e
  | xd fs => obtain ⟨_, ⟨_, _, _, e, _⟩, _⟩ := x; exact Heap.lt_size e
  | rng lo hi => obtain ⟨_, _, _, e⟩ := x; exact Heap.lt_size e
  | frz ob u => obtain ⟨e, _⟩ := x; exact Heap.lt_size e
  | tbl ps => exact Heap.lt_size (show h.get? a = some _ from x)
  | met f y => exact Heap.lt_size (show h.get? a = some _ from x)
  | ext φ => obtain ⟨_, ⟨_, e⟩, _⟩ := x; exact Heap.lt_size e
theorem Paired.mapP {α β : Type} {F G : α → β → Prop} : ∀ {l₁ : List α} {l₂ : List β}, Paired F l₁ l₂ → (∀ a b, F a b → G a b) → Paired G l₁ l₂
  | _, _, .nil, _ => .nil
  | _, _, .cons r t, f => .cons (f _ _ r) (Paired.mapP t f)
theorem ObjOk.stay (x : ObjOk P w H h a o) (k : ∀ b u, (b = a ∨ H b = some (.own a)) → h.get? b = some u → h'.get? b = some u)
    (ho : ∀ b, H b = some (.own a) → H' b = some (.own a)) (ht : ∀ b xs, H b = some (.tup xs) → H' b = some (.tup xs)) : ObjOk P w H' h' a o := by
  induction o with
  | lst xs => obtain ⟨z, its, n, r, e⟩ := x; exact ⟨z, its, n, r, k _ _ (.inl rfl) e⟩
  | tup xs => obtain ⟨z, its, r, ob, e, c⟩ := x; exact ⟨z, its, r, ob, k _ _ (.inl rfl) e, c⟩
  | dK kvs => obtain ⟨z, y, vs, r, ob, es, ep, e, c⟩ := x; exact ⟨z, y, vs, r, ob, es, ep, k _ _ (.inl rfl) e, c⟩
  | dT kvs =>
    obtain ⟨z, y, xs, r, ob, es, ep, e, c⟩ := x
    exact ⟨z, y, xs, Paired.mapP r fun p q z => ⟨z.1, ht _ _ z.2.1, z.2.2⟩, ob, es, ep, k _ _ (.inl rfl) e, c⟩
  | set S n => obtain ⟨ob, es, ep, t, e, c⟩ := x; exact ⟨ob, es, ep, t, k _ _ (.inl rfl) e, c⟩
  | ins C dx fs =>
    obtain ⟨d, z, ne, e, mA, ⟨od, es, ep, e2, c⟩, r⟩ := x
    exact ⟨ho _ d, z, ne, k _ _ (.inl rfl) e, mA, ⟨od, es, ep, k _ _ (.inr d) e2, c⟩, r⟩
  | own y => obtain ⟨ob, e⟩ := x; exact ⟨ob, k _ _ (.inl rfl) e⟩
  | xd fs => obtain ⟨mA, ⟨od, es, ep, e, c⟩, r⟩ := x; exact ⟨mA, ⟨od, es, ep, k _ _ (.inl rfl) e, c⟩, r⟩
  | rng lo hi => obtain ⟨t, u, v, e⟩ := x; exact ⟨t, u, v, k _ _ (.inl rfl) e⟩
  | frz ob u ih => obtain ⟨e, q⟩ := x; exact ⟨k _ _ (.inl rfl) e, ih q⟩
  | tbl ps =>
    have e : h.get? a = some { cls := .none, data := .fields ps } := x
    show h'.get? a = some { cls := .none, data := .fields ps }
    exact k a _ (.inl rfl) e
  | met f y =>
    have e : h.get? a = some (PySem.W.methodObj (.ref f) (.ref y)) := x
    show h'.get? a = some (PySem.W.methodObj (.ref f) (.ref y))
    exact k a _ (.inl rfl) e
  | ext φ => obtain ⟨p, ⟨o, e⟩, st⟩ := x; exact ⟨st _ _ p fun o q => k _ _ (.inl rfl) q, ⟨o, k _ _ (.inl rfl) e⟩, st⟩
theorem HOk.lt (x : HOk P w H h) (e : H a = some o) : a < h.objs.size := (x a o e).lt
theorem HOk.fresh (x : HOk P w H h) (e : h.objs.size ≤ a) : H a = none := by
  cases q : H a with
  | none => rfl
  | some u => exact absurd (Nat.lt_of_lt_of_le (x.lt q) e) (Nat.lt_irrefl _)
theorem HOk.kept (x : HOk P w H h) (k : ∀ b u, h.get? b = some u → h'.get? b = some u) : HOk P w H h' := fun a o e =>
  (x a o e).stay (fun b u _ q => k b u q) (fun _ q => q) fun _ _ q => q
theorem HOk.laid (x : HOk P w H h) (k : ∀ b u, h.get? b = some u → h'.get? b = some u) (hp : h.objs.size ≤ a) (new : ObjOk P w (upd H a o) h' a o) : HOk P w (upd H a o) h' := fun b u e => by
  have hn := x.fresh hp
  by_cases hb : b = a
  · subst hb; rw [upd_same] at e; cases e; exact new
  · rw [upd_ne hb] at e
    exact (x b u e).stay (fun c v _ q => k c v q) (fun c q => by rw [upd_ne (ne_of_none q hn)]; exact q) fun c xs q => by rw [upd_ne (ne_of_none q hn)]; exact q
end
def Rd (H : Hp) (a : Addr) (u : HO) : Prop := H a = some u ∨ ∃ o, H a = some (.frz o u)
theorem Rd.of {H : Hp} {a : Addr} {u : HO} (h : H a = some u) : Rd H a u := .inl h
theorem Rd.ok {P : Program} {w : World} {H : Hp} {h : Heap} {a : Addr} {u : HO} (r : Rd H a u) (x : HOk P w H h) : ObjOk P w H h a u := by
  rcases r with r | ⟨o, r⟩
  · exact x a u r
  · obtain ⟨_, q⟩ := x a _ r
    exact q
def Mut : Option HO → Prop
  | some (.lst _) => True
  | some (.dK _) => True
  | some (.dT _) => True
  | some (.set _ _) => True
  | some (.ins _ _ _) => True
  | some (.ext _) => True
  | _ => False
section
variable {P : Program} {w : World} {H : Hp} {h h' : Heap} {x e : Addr} {o' : HO}
theorem HOk.write (ok : HOk P w H h) (mu : Mut (H x)) (he : e = x ∨ H e = some (.own x)) (k : ∀ b u, b ≠ e → h.get? b = some u → h'.get? b = some u) (heo : ∃ u, h'.get? e = some u)
    (new : ObjOk P w (upd H x o') h' x o') : HOk P w (upd H x o') h' := fun b u q => by
  have nown : ∀ c y, H c = some (.own y) → c ≠ x := fun c y r z => by subst z; rw [r] at mu; exact mu
  have ntup : ∀ c xs, H c = some (.tup xs) → c ≠ x := fun c xs r z => by subst z; rw [r] at mu; exact mu
  by_cases hb : b = x
  · subst hb; rw [upd_same] at q; cases q; exact new
  · rw [upd_ne hb] at q
    by_cases hbe : b = e
    · have q' : H b = some (.own x) := by
        rcases he with z | z
        · exact absurd (hbe.trans z) hb
        · rw [hbe]; exact z
      rw [q] at q'; cases q'
      obtain ⟨v, hv⟩ := heo
      exact ⟨v, by rw [hbe]; exact hv⟩
    · refine (ok b u q).stay (fun c v hc r => k c v ?_ r) (fun c r => by rw [upd_ne (nown c b r)]; exact r) fun c xs r => by rw [upd_ne (ntup c xs r)]; exact r
      rcases hc with rfl | hc
      · exact hbe
      · rintro rfl
        rcases he with z | z
        · exact nown c b hc z
        · rw [hc] at z; cases z; exact hb rfl
end
structure Un (fs ex : List Addr) (H H' : Hp) (h h' : Heap) : Prop where
  keep : ∀ b o, h.get? b = some o → H b = none → b ∉ fs → b ∉ ex → h'.get? b = some o
  slot : ∀ b o, h.get? b = some o → H b = none → b ∈ fs → b ∉ ex → ∃ sl, h'.get? b = some { o with slots := sl }
  free : ∀ b o, h.get? b = some o → H b = none → b ∉ ex → H' b = none
  there : ∀ b o, h.get? b = some o → b ∉ ex → ∃ o', h'.get? b = some o'
  tups : ∀ b xs, H b = some (.tup xs) → H' b = some (.tup xs)
  frzs : ∀ b o u, H b = some (.frz o u) → H' b = some (.frz o u)
  tbls : ∀ b ps, H b = some (.tbl ps) → ∃ more, H' b = some (.tbl (ps ++ more))
section
variable {fs fs' ex ex' : List Addr} {H H1 H2 : Hp} {h h1 h2 h' : Heap} {a x e : Addr} {o : HO}
theorem Un.any (u : Un fs ex H H1 h h1) {b : Addr} {ob : Obj} (q : h.get? b = some ob) (n : H b = none) (hx : b ∉ ex) : ∃ sl, h1.get? b = some { ob with slots := sl } := by
  by_cases hb : b ∈ fs
  · exact u.slot b ob q n hb hx
  · exact ⟨ob.slots, u.keep b ob q n hb hx⟩
theorem Un.trans (a : Un fs ex H H1 h h1) (b : Un fs ex H1 H2 h1 h2) : Un fs ex H H2 h h2 where
  keep := fun c ob q n hc hx => b.keep c ob (a.keep c ob q n hc hx) (a.free c ob q n hx) hc hx
  slot := fun c ob q n hc hx => by
    obtain ⟨sl, e1⟩ := a.slot c ob q n hc hx
    obtain ⟨sl', e2⟩ := b.slot c _ e1 (a.free c ob q n hx) hc hx
    exact ⟨sl', e2⟩
  free := fun c ob q n hx => by
    obtain ⟨o', e1⟩ := a.there c ob q hx
    exact b.free c o' e1 (a.free c ob q n hx) hx
  there := fun c ob q hx => by
    obtain ⟨o', e1⟩ := a.there c ob q hx
    exact b.there c o' e1 hx
  tups := fun c xs q => b.tups c xs (a.tups c xs q)
  frzs := fun c ob xs q => b.frzs c ob xs (a.frzs c ob xs q)
  tbls := fun c ps q => by
    obtain ⟨m1, e1⟩ := a.tbls c ps q
    obtain ⟨m2, e2⟩ := b.tbls c _ e1
    exact ⟨m1 ++ m2, by rw [e2, Array.append_assoc]⟩
theorem Un.kept (k : ∀ b u, h.get? b = some u → h'.get? b = some u) : Un fs ex H H h h' :=
  ⟨fun b ob q _ _ _ => k b ob q, fun b ob q _ _ _ => ⟨ob.slots, k b ob q⟩, fun _ _ _ n _ => n, fun b ob q _ => ⟨ob, k b ob q⟩, fun _ _ q => q, fun _ _ _ q => q, fun _ ps q => ⟨#[], by rw [q]; simp⟩⟩
theorem Un.refl : Un fs ex H H h h := Un.kept fun _ _ q => q
theorem Un.laid (k : ∀ b u, h.get? b = some u → h'.get? b = some u) (hp : h.objs.size ≤ a) (hn : H a = none) : Un fs ex H (upd H a o) h h' where
  keep := fun b u q _ _ _ => k b u q
  slot := fun b u q _ _ _ => ⟨u.slots, k b u q⟩
  free := fun b u q n _ => by rw [upd_ne (Nat.ne_of_lt (Nat.lt_of_lt_of_le (Heap.lt_size q) hp))]; exact n
  there := fun b u q _ => ⟨u, k b u q⟩
  tups := fun b xs q => by rw [upd_ne (ne_of_none q hn)]; exact q
  frzs := fun b u xs q => by rw [upd_ne (ne_of_none q hn)]; exact q
  tbls := fun b ps q => ⟨#[], by rw [upd_ne (ne_of_none q hn), q]; simp⟩
theorem Un.write (mu : Mut (H x)) (he : e = x ∨ H e = some (.own x)) (k : ∀ b u, b ≠ e → h.get? b = some u → h'.get? b = some u) (heo : ∃ u, h'.get? e = some u) : Un fs ex H (upd H x o) h h' := by
  have hx : ∀ b, H b = none → b ≠ x := fun b n z => by subst z; rw [n] at mu; exact mu
  have hb : ∀ b, H b = none → b ≠ e := fun b n z => by
    subst z
    rcases he with r | r
    · exact hx b n r
    · rw [n] at r; cases r
  have hm : ∀ b u, H b = some u → ¬ Mut (some u) → b ≠ x := fun b u q nm z => by subst z; rw [q] at mu; exact nm mu
  refine ⟨fun b u q n _ _ => k b u (hb b n) q, fun b u q n _ _ => ⟨u.slots, k b u (hb b n) q⟩, fun b u q n _ => by rw [upd_ne (hx b n)]; exact n, fun b u q _ => ?_,
    fun b xs q => by rw [upd_ne (hm b _ q fun z => z)]; exact q, fun b u xs q => by rw [upd_ne (hm b _ q fun z => z)]; exact q, fun b ps q => ⟨#[], by rw [upd_ne (hm b _ q fun z => z), q]; simp⟩⟩
  by_cases hbe : b = e
  · subst hbe; exact heo
  · exact ⟨u, k b u hbe q⟩
theorem Un.mono (u : Un fs ex H H1 h h1) (hs : ∀ b ∈ fs, b ∈ fs') (hx : ∀ b ∈ ex, b ∈ ex') : Un fs' ex' H H1 h h1 :=
  ⟨fun b ob q n hb he => u.keep b ob q n (fun z => hb (hs b z)) fun z => he (hx b z), fun _ _ q n _ he => u.any q n fun z => he (hx _ z), fun b ob q n he => u.free b ob q n fun z => he (hx b z), fun b ob q he => u.there b ob q fun z => he (hx b z), u.tups, u.frzs, u.tbls⟩
end
def trk (h : Heap) (H : Hp) : List Addr := (List.range h.objs.size).filter fun a => (H a).isSome
def hidT (h : Heap) (H : Hp) : Heap := PySem.W.hideAll h (trk h H)
theorem hidT_size (h : Heap) (H : Hp) : (hidT h H).objs.size = h.objs.size := PySem.W.hideAll_size _ _
theorem hidT_get {h : Heap} {H : Hp} {b : Addr} {o : Obj} (e : h.get? b = some o) (n : H b = none) : (hidT h H).get? b = some o :=
  PySem.W.hideAll_get _ e fun hm => by
    have q : (H b).isSome = true := (List.mem_filter.mp hm).2
    rw [n] at q; simp at q
theorem of_hidT {h : Heap} {H : Hp} {b : Addr} {o : Obj} (e : (hidT h H).get? b = some o) : h.get? b = some o ∧ H b = none := by
  have e' : h.get? b = some o := PySem.W.of_hideAll (trk h H) e
  refine ⟨e', ?_⟩
  cases q : H b with
  | none => rfl
  | some x =>
    have hm : b ∈ trk h H := List.mem_filter.mpr ⟨List.mem_range.mpr (Heap.lt_size e'), by simp [q]⟩
    have z : (hidT h H).get? b = none := PySem.W.hideAll_none (trk h H) hm
    rw [z] at e; cases e
def allNews (g h : Heap) (L : Addr) : List (Addr × Obj) := (List.range h.objs.size).filterMap fun a => if a = L ∨ (g.get? a).isSome = true then none else (h.get? a).map fun o => (a, o)
def rest (g h : Heap) (L d : Addr) : List (Addr × Obj) := (allNews g h L).filter fun p => decide (p.1 ≠ d)
end L2
namespace L2
open PySem PySem.Spec PyProof.Rows
structure Mod (K : PySem.W.Frag) (mg : Str → Option Value) (base : Heap) : Prop where
  kin : K.In base
  glob : base.Ns mainGlobals mg
  blt : ∃ mb, base.Ns builtinsNs mb ∧ ∀ x : Str, x ≠ "__name__" → mb x = bootBuiltins x
  nolimit : base.NoLimit
structure Cx where
  prog : Program
  w : World
  K : PySem.W.Frag
  mg : Str → Option Value
  base : Heap
  A : Around
  N : List Str
  s₀ : Shared
  H₀ : Hp
  env : Env
  outer : List Env
  stack : List Env
  ex : List Addr
  fn : Str → Bool
  calm : Bool
  pn : List (Addr × Obj)
  xe : Value → Shared → Prop
def frs (l : List Env) : List Addr := l.filterMap (·.frame)
abbrev Cx.fs (X : Cx) : List Addr := frs X.outer
def Vis (sc : Scope) (x : Str) : Prop := sc.names.lookup x = some .local ∨ sc.names.lookup x = some .cell ∨ sc.names.lookup x = some .free
def Loc (sc : Scope) (x : Str) : Prop := sc.names.lookup x = some .local ∨ sc.names.lookup x = some .cell
def Look (env : Env) (h : Heap) (m : Str → Option Value) (x : Str) (u : Value) : Prop :=
  (env.kindOf x = some .local ∧ m x = some u) ∨ ((env.kindOf x = some .cell ∨ env.kindOf x = some .free) ∧ ∃ c, env.cells.lookup x = some c ∧ h.IsCell c (some u))
structure Cx.Ok (X : Cx) : Prop where
  mod : Mod X.K X.mg X.base
  kind : X.env.scope.kind = .function
  glob : X.env.globals = mainGlobals
  blt : X.env.builtins = builtinsNs
  above : X.s₀.heap.objs.size ≤ X.env.locals
  inj : ∀ x y c, X.env.cells.lookup x = some c → X.env.cells.lookup y = some c → x = y
  has : ∀ x, (X.env.kindOf x = some .cell ∨ X.env.kindOf x = some .free) → ∃ c, X.env.cells.lookup x = some c
  cab : ∀ x c, X.fn x = true → X.env.cells.lookup x = some c → X.s₀.heap.objs.size ≤ c
  hd : X.calm = true → X.A.handled = none
  frames : X.A.frames = some X.stack
  stk : X.stack = X.outer ∨ (X.stack = X.env :: X.outer ∧ X.env.frame = some X.env.locals)
  exf : ∀ b ∈ X.ex, b ≠ X.env.locals ∧ ∀ x c, X.env.cells.lookup x = some c → c ≠ b
  bs : ∀ b o, X.base.get? b = some o → X.s₀.heap.get? b = some o ∧ X.H₀ b = none
  bsz : X.base.objs.size ≤ X.s₀.heap.objs.size
  noex : ∀ b o, X.base.get? b = some o → b ∉ X.ex
  exfs : ∀ b ∈ X.ex, b ∉ X.fs
  funs : X.s₀.heap.FunFrames X.base X.outer
  frf : ∀ b ∈ X.fs, X.H₀ b = none
structure Inv (X : Cx) (pins : List (Addr × Obj)) (σ : List (Option V)) (H : Hp) (s : Shared) : Prop where
  ok : X.Ok
  os : s.os = X.s₀.os
  bare : AllBare s.gens
  base : Un X.fs X.ex X.H₀ H X.s₀.heap s.heap
  loc : ∃ m, s.heap.Ns X.env.locals m ∧ ∀ (i : Nat) (x : Str) (v : V), X.N[i]? = some x → σ[i]? = some (some v) → Vis X.env.scope x → ∃ u, RelV v u ∧ Look X.env s.heap m x u
  cell : ∀ x c, X.env.cells.lookup x = some c → ∃ v, s.heap.IsCell c v
  free : H X.env.locals = none
  freeC : ∀ x c, X.env.cells.lookup x = some c → H c = none
  pin : ∀ p ∈ X.pn ++ pins, s.heap.get? p.1 = some p.2 ∧ H p.1 = none ∧ p.1 ≠ X.env.locals ∧ p.1 ∉ X.fs ∧ ∀ v, p.2.data ≠ .cell v
  hok : HOk X.prog X.w H s.heap
  len : σ.length = X.N.length
section
variable {X : Cx} {pins : List (Addr × Obj)} {σ : List (Option V)} {H H' : Hp} {s : Shared} {h' : Heap}
theorem Cx.Ok.nofr (ok : X.Ok) {b : Addr} {o : Obj} (e : X.base.get? b = some o) : b ∉ X.fs := fun hb => by
  have := (ok.funs.mem hb).1
  rw [e] at this; cases this
theorem Inv.bs (I : Inv X pins σ H s) : ∀ b o, X.base.get? b = some o → s.heap.get? b = some o ∧ H b = none := fun b o e =>
  ⟨I.base.keep b o (I.ok.bs b o e).1 (I.ok.bs b o e).2 (I.ok.nofr e) (I.ok.noex b o e), I.base.free b o (I.ok.bs b o e).1 (I.ok.bs b o e).2 (I.ok.noex b o e)⟩
theorem Inv.bk (I : Inv X pins σ H s) : ∀ b o, X.base.get? b = some o → s.heap.get? b = some o := fun b o e => (I.bs b o e).1
theorem Inv.mod (I : Inv X pins σ H s) : Mod X.K X.mg X.base := I.ok.mod
theorem Inv.kIn (I : Inv X pins σ H s) : X.K.In s.heap := I.ok.mod.kin.keeps I.bk
theorem Inv.nolimit (I : Inv X pins σ H s) : s.heap.NoLimit := I.ok.mod.nolimit.keeps I.bk
theorem Inv.fr (I : Inv X pins σ H s) : ∃ m, Fr X.base X.env.locals s.heap m :=
  let ⟨m, hn, _⟩ := I.loc
  ⟨m, hn, I.bk, Nat.le_trans I.ok.bsz I.ok.above⟩
theorem Inv.lt (I : Inv X pins σ H s) : X.env.locals < s.heap.objs.size := let ⟨_, hn, _⟩ := I.loc; hn.lt
theorem Inv.sz (I : Inv X pins σ H s) : X.s₀.heap.objs.size ≤ s.heap.objs.size := Nat.le_trans I.ok.above (Nat.le_of_lt I.lt)
theorem Inv.nofs (I : Inv X pins σ H s) {a : Addr} (h : s.heap.objs.size ≤ a) : a ∉ X.fs := fun hb => by
  obtain ⟨_, o, ho, _⟩ := I.ok.funs.mem hb
  exact absurd (Nat.lt_of_lt_of_le (Heap.lt_size ho) (Nat.le_trans I.sz h)) (Nat.lt_irrefl _)
theorem Inv.cne (I : Inv X pins σ H s) : ∀ x c, X.env.cells.lookup x = some c → c ≠ X.env.locals := fun x c e z => by
  obtain ⟨v, o, ho, hd⟩ := I.cell x c e
  obtain ⟨m, ⟨o', es, ep, ho', hd', _⟩, _⟩ := I.loc
  rw [z, ho'] at ho; cases ho; rw [hd'] at hd; cases hd
theorem Inv.funs (I : Inv X pins σ H s) : s.heap.FunFrames X.base X.outer := by
  have all : ∀ (l : List Env), (∀ b ∈ frs l, b ∈ X.fs) → X.s₀.heap.FunFrames X.base l → s.heap.FunFrames X.base l := by
    intro l
    induction l with
    | nil => intro _ _; trivial
    | cons env r ih =>
      intro hs hl
      obtain ⟨hk, ⟨L, o, hf, hn, ho, hd⟩, hr⟩ := hl
      have hL : L ∈ X.fs := hs L (by unfold frs; rw [List.filterMap_cons, hf]; exact List.mem_cons_self)
      obtain ⟨sl, e⟩ := I.base.slot L o ho (I.ok.frf L hL) hL fun z => I.ok.exfs L z hL
      exact ⟨hk, ⟨L, _, hf, hn, e, hd⟩, ih (fun b hb => hs b (by unfold frs; rw [List.filterMap_cons, hf]; exact List.mem_cons_of_mem _ hb)) hr⟩
  exact all X.outer (fun _ hb => hb) I.ok.funs
theorem Inv.stack (I : Inv X pins σ H s) : s.heap.FunFrames X.base X.stack := by
  rcases I.ok.stk with e | ⟨e, hf⟩
  · rw [e]; exact I.funs
  · rw [e]
    obtain ⟨m, hn, _⟩ := I.loc
    refine .cons (by rw [I.ok.kind]; decide) hf hn ?_ I.funs
    exact Heap.get?_none_of_le (Nat.le_trans I.ok.bsz I.ok.above)
theorem Inv.stkSub (I : Inv X pins σ H s) : ∀ b ∈ frs X.stack, b ∈ X.env.locals :: X.fs := fun b hb => by
  rcases I.ok.stk with e | ⟨e, hf⟩
  · rw [e] at hb; exact List.mem_cons_of_mem _ hb
  · rw [e] at hb
    unfold frs at hb
    rw [List.filterMap_cons, hf] at hb
    exact hb
theorem Inv.stkFree (I : Inv X pins σ H s) : ∀ b ∈ frs X.stack, H b = none := fun b hb => by
  rcases List.mem_cons.mp (I.stkSub b hb) with e | hb
  · rw [e]; exact I.free
  · obtain ⟨_, o, ho, _⟩ := I.ok.funs.mem hb
    exact I.base.free b o ho (I.ok.frf b hb) fun z => I.ok.exfs b z hb
theorem Inv.step {g' : Array GenState} {t' : Nat} {d' : Drawn} {ch : List Addr} (I : Inv X pins σ H s)
    (hch : ∀ b ∈ ch, (b ∈ X.ex ∨ X.s₀.heap.objs.size ≤ b) ∧ b ≠ X.env.locals ∧ (∀ x c, X.env.cells.lookup x = some c → c ≠ b) ∧ ∀ p ∈ X.pn ++ pins, p.1 ≠ b)
    (keep : ∀ b o, b ≠ X.env.locals → b ∉ X.fs → b ∉ ch → s.heap.get? b = some o → H b = none → h'.get? b = some o)
    (slot : ∀ b o, b ≠ X.env.locals → b ∈ X.fs → b ∉ ch → s.heap.get? b = some o → H b = none → ∃ sl, h'.get? b = some { o with slots := sl }) (free : ∀ b o, b ∉ ch → s.heap.get? b = some o → H b = none → H' b = none)
    (there : ∀ b o, b ∉ ch → s.heap.get? b = some o → ∃ o', h'.get? b = some o')
    (tups : ∀ b xs, H b = some (.tup xs) → H' b = some (.tup xs)) (frzs : ∀ b o u, H b = some (.frz o u) → H' b = some (.frz o u)) (tbls : ∀ b ps, H b = some (.tbl ps) → ∃ more, H' b = some (.tbl (ps ++ more)))
    (ns : ∀ m, s.heap.Ns X.env.locals m → h'.Ns X.env.locals m) (hok : HOk X.prog X.w H' h') (hg : AllBare g') :
    Inv X pins σ H' { s with heap := h', gens := g', drawn := d', toks := t' } := by
  have neL : ∀ b o, X.s₀.heap.get? b = some o → b ≠ X.env.locals := fun b o e => Nat.ne_of_lt (Nat.lt_of_lt_of_le (Heap.lt_size e) I.ok.above)
  have neC : ∀ b o, X.s₀.heap.get? b = some o → b ∉ X.ex → b ∉ ch := fun b o e hx hb => by
    rcases (hch b hb).1 with z | z
    · exact hx z
    · exact absurd (Nat.lt_of_lt_of_le (Heap.lt_size e) z) (Nat.lt_irrefl _)
  have cellK : ∀ x c, X.env.cells.lookup x = some c → ∀ v, s.heap.IsCell c v → h'.IsCell c v := fun x c e v ⟨o, ho, hd⟩ => by
    have nch : c ∉ ch := fun z => (hch c z).2.2.1 x c e rfl
    by_cases hc : c ∈ X.fs
    · obtain ⟨sl, q⟩ := slot c o (I.cne x c e) hc nch ho (I.freeC x c e)
      exact ⟨_, q, hd⟩
    · exact ⟨o, keep c o (I.cne x c e) hc nch ho (I.freeC x c e), hd⟩
  refine ⟨I.ok, I.os, hg, ⟨fun b o e n hb hx => ?_, fun b o e n hb hx => ?_, fun b o e n hx => ?_, fun b o e hx => ?_, fun b xs e => tups b xs (I.base.tups b xs e), fun b o xs e => frzs b o xs (I.base.frzs b o xs e), fun b ps e => ?_⟩, ?_, fun x c e => ?_, ?_, fun x c e => ?_, fun p hp => ?_, hok, I.len⟩
  · exact keep b o (neL b o e) hb (neC b o e hx) (I.base.keep b o e n hb hx) (I.base.free b o e n hx)
  · obtain ⟨sl, e1⟩ := I.base.slot b o e n hb hx
    obtain ⟨sl', e2⟩ := slot b _ (neL b o e) hb (neC b o e hx) e1 (I.base.free b o e n hx)
    exact ⟨sl', e2⟩
  · obtain ⟨o', e1⟩ := I.base.there b o e hx
    exact free b o' (neC b o e hx) e1 (I.base.free b o e n hx)
  · obtain ⟨o', e1⟩ := I.base.there b o e hx
    exact there b o' (neC b o e hx) e1
  · obtain ⟨m1, e1⟩ := I.base.tbls b ps e
    obtain ⟨m2, e2⟩ := tbls b _ e1
    exact ⟨m1 ++ m2, by rw [e2, Array.append_assoc]⟩
  · obtain ⟨m, hn, hl⟩ := I.loc
    refine ⟨m, ns m hn, fun i x v e1 e2 e3 => ?_⟩
    obtain ⟨u, r, l⟩ := hl i x v e1 e2 e3
    refine ⟨u, r, ?_⟩
    rcases l with l | ⟨k, c, e, z⟩
    · exact .inl l
    · exact .inr ⟨k, c, e, cellK x c e _ z⟩
  · obtain ⟨v, z⟩ := I.cell x c e
    exact ⟨v, cellK x c e v z⟩
  · obtain ⟨m, ⟨o, _, _, ho, _⟩, _⟩ := I.loc
    exact free _ o (fun z => (hch _ z).2.1 rfl) ho I.free
  · obtain ⟨v, o, ho, hd⟩ := I.cell x c e
    exact free c o (fun z => (hch c z).2.2.1 x c e rfl) ho (I.freeC x c e)
  · obtain ⟨e, n, ne, nf, d⟩ := I.pin p hp
    have nch : p.1 ∉ ch := fun z => (hch p.1 z).2.2.2 p hp rfl
    exact ⟨keep p.1 p.2 ne nf nch e n, free p.1 p.2 nch e n, ne, nf, d⟩
theorem Inv.un {t' : Nat} (I : Inv X pins σ H s) (u : Un X.fs [] H H' s.heap h') (hok : HOk X.prog X.w H' h') : Inv X pins σ H' { s with heap := h', toks := t' } := by
  obtain ⟨m, ⟨o, es, ep, ho, r⟩, _⟩ := id I.loc
  obtain ⟨sl, hL⟩ := u.any ho I.free (by simp)
  exact I.step (g' := s.gens) (d' := s.drawn) (ch := []) (fun _ z => nomatch z) (fun b o _ hb _ e n => u.keep b o e n hb (by simp)) (fun b o _ hb _ e n => u.slot b o e n hb (by simp)) (fun b o _ e n => u.free b o e n (by simp)) (fun b o _ e => u.there b o e (by simp)) u.tups u.frzs u.tbls (fun m' hm => by
    obtain ⟨o', es', ep', ho', r'⟩ := hm
    rw [ho] at ho'; cases ho'
    exact ⟨_, es', ep', hL, r'⟩) hok I.bare
theorem Inv.call {g' : Array GenState} {t' : Nat} {d' : Drawn} {ch : List Addr} (I : Inv X pins σ H s) (u : Un (frs X.stack) ch H H' s.heap h') (hok : HOk X.prog X.w H' h') (hg : AllBare g')
    (hch : ∀ b ∈ ch, (b ∈ X.ex ∨ X.s₀.heap.objs.size ≤ b) ∧ b ≠ X.env.locals ∧ (∀ x c, X.env.cells.lookup x = some c → c ≠ b) ∧ ∀ p ∈ X.pn ++ pins, p.1 ≠ b) :
    Inv X pins σ H' { s with heap := h', gens := g', drawn := d', toks := t' } := by
  obtain ⟨m, ⟨o, es, ep, ho, r⟩, _⟩ := id I.loc
  obtain ⟨sl, hL⟩ := u.any ho I.free fun z => (hch _ z).2.1 rfl
  exact I.step (ch := ch) hch (fun b o hL hb hc e n => u.keep b o e n (fun z => (List.mem_cons.mp (I.stkSub b z)).elim hL hb) hc) (fun b o _ _ hc e n => u.any e n hc) (fun b o hc e n => u.free b o e n hc) (fun b o hc e => u.there b o e hc) u.tups u.frzs u.tbls (fun m' hm => by
    obtain ⟨o', es', ep', ho', r'⟩ := hm
    rw [ho] at ho'; cases ho'
    exact ⟨_, es', ep', hL, r'⟩) hok hg
theorem Inv.turned {t' : Nat} {it : Addr} (I : Inv X pins σ H s) (k : ∀ b o, b ≠ it → s.heap.get? b = some o → h'.get? b = some o) (hn : H it = none) (hL : it ≠ X.env.locals)
    (h1 : it ∈ X.ex ∨ X.s₀.heap.objs.size ≤ it) (h2 : ∀ x c, X.env.cells.lookup x = some c → c ≠ it) (h3 : ∀ p ∈ X.pn ++ pins, p.1 ≠ it) : Inv X pins σ H { s with heap := h', toks := t' } := by
  have nit : ∀ b u, H b = some u → b ≠ it := fun b u e z => by rw [z, hn] at e; cases e
  refine I.step (g' := s.gens) (d' := s.drawn) (ch := [it]) (fun b hb => ?_) (fun b o _ _ hc e _ => k b o (fun z => hc (by simp [z])) e) (fun b o _ _ hc e _ => ⟨o.slots, k b o (fun z => hc (by simp [z])) e⟩) (fun _ _ _ _ n => n)
    (fun b o hc e => ⟨o, k b o (fun z => hc (by simp [z])) e⟩) (fun _ _ e => e) (fun _ _ _ e => e) (fun b ps e => ⟨#[], by rw [e]; simp⟩) (fun m hm => ?_) (fun b u e => ?_) I.bare
  · have e : b = it := by simpa using hb
    subst e
    exact ⟨h1, hL, h2, h3⟩
  · obtain ⟨o, es, ep, ho, r⟩ := hm
    exact ⟨o, es, ep, k _ o (Ne.symm hL) ho, r⟩
  · refine (I.hok b u e).stay (fun c v hc q => k c v ?_ q) (fun _ q => q) fun _ _ q => q
    rcases hc with z | z
    · rw [z]; exact nit b u e
    · exact nit c _ z
theorem Inv.tok (I : Inv X pins σ H s) (t : Nat) : Inv X pins σ H { s with toks := t } := I.un (h' := s.heap) (t' := t) Un.refl I.hok
theorem Inv.kept {t' : Nat} (I : Inv X pins σ H s) (k : ∀ b u, s.heap.get? b = some u → h'.get? b = some u) : Inv X pins σ H { s with heap := h', toks := t' } := I.un (Un.kept k) (I.hok.kept k)
theorem Inv.laid {a : Addr} {o : HO} {t' : Nat} (I : Inv X pins σ H s) (k : ∀ b u, s.heap.get? b = some u → h'.get? b = some u) (hp : s.heap.objs.size ≤ a) (new : ObjOk X.prog X.w (upd H a o) h' a o) :
    Inv X pins σ (upd H a o) { s with heap := h', toks := t' } := I.un (Un.laid k hp (I.hok.fresh hp)) (I.hok.laid k hp new)
theorem Inv.write {x e : Addr} {o : HO} {t' : Nat} (I : Inv X pins σ H s) (mu : Mut (H x)) (he : e = x ∨ H e = some (.own x)) (k : ∀ b u, b ≠ e → s.heap.get? b = some u → h'.get? b = some u) (heo : ∃ u, h'.get? e = some u)
    (new : ObjOk X.prog X.w (upd H x o) h' x o) : Inv X pins σ (upd H x o) { s with heap := h', toks := t' } := I.un (Un.write mu he k heo) (I.hok.write mu he k heo new)
theorem Inv.pins_of {pins' : List (Addr × Obj)} (I : Inv X pins σ H s) (h : ∀ p ∈ pins', s.heap.get? p.1 = some p.2 ∧ H p.1 = none ∧ p.1 ≠ X.env.locals ∧ p.1 ∉ X.fs ∧ ∀ v, p.2.data ≠ .cell v) : Inv X pins' σ H s :=
  ⟨I.ok, I.os, I.bare, I.base, I.loc, I.cell, I.free, I.freeC, fun p hp => (List.mem_append.mp hp).elim (fun z => I.pin p (List.mem_append_left _ z)) (h p), I.hok, I.len⟩
theorem nodup_ix {N : List Str} (hN : N.Nodup) {i j : Nat} {x : Str} (a : N[i]? = some x) (b : N[j]? = some x) : i = j := by
  obtain ⟨h1, e1⟩ := List.getElem?_eq_some_iff.mp a
  obtain ⟨h2, e2⟩ := List.getElem?_eq_some_iff.mp b
  exact (List.getElem_inj hN).mp (e1.trans e2.symm)
theorem store_ok2 {M : Model} {A : Around} {E : Value → Shared → Prop} {i : Nat} {x : Str} {v : V} {u : Value} {Q : Unit → Shared → Prop} (I : Inv X pins σ H s) (hN : X.N.Nodup) (hi : X.N[i]? = some x) (hx : Loc X.env.scope x) (r : RelV v u)
    (h : ∀ s', Inv X pins (σ.set i (some v)) H s' → (∃ a, Heap.SameBut a s.heap s'.heap ∧ (a = X.env.locals ∨ X.env.cells.lookup x = some a)) → Q () s') (hf : X.fn x = true ∨ X.env.scope.names.lookup x = some .local := by first | exact .inl rfl | exact .inr rfl | assumption) : wpAny M A (storeName X.env x u) Q E s := by
  obtain ⟨m, hn, hl⟩ := id I.loc
  have hcls : (X.env.scope.kind == .class || (X.env.scope.kind == .module && X.env.locals != X.env.globals)) = false := by rw [I.ok.kind]; rfl
  have hiσ : i < σ.length := by rw [I.len]; exact (List.getElem?_eq_some_iff.mp hi).1
  have cne := I.cne
  have tracked : ∀ {a : Addr} {h' : Heap}, (∃ o, s.heap.get? a = some o ∧ H a = none) → Heap.SameBut a s.heap h' → HOk X.prog X.w H h' := fun {a h'} ha hs b ob e => by
    obtain ⟨_, _, hfree⟩ := ha
    refine (I.hok b ob e).stay (fun c w' hc q => (hs.2 c ?_).trans q) (fun _ q => q) fun _ _ q => q
    rintro rfl
    rcases hc with rfl | hc
    · rw [hfree] at e; cases e
    · rw [hfree] at hc; cases hc
  rcases hx with hk | hk
  · refine wpAny_storeName_local hk hn (fun h' hn' hs => ?_) hcls
    obtain ⟨oL, _, _, hoL, _⟩ := id hn
    refine h _ ⟨I.ok, I.os, I.bare, ⟨fun b o e n hb hx => ?_, fun b o e n hb hx => ?_, I.base.free, fun b o e hx => ?_, I.base.tups, I.base.frzs, I.base.tbls⟩, ⟨_, hn', fun j y v' e1 e2 e3 => ?_⟩, fun y c e => ?_, I.free, I.freeC, fun p hp => ?_, tracked ⟨oL, hoL, I.free⟩ hs, by simpa using I.len⟩ ⟨_, hs, .inl rfl⟩
    · exact (hs.2 b (Nat.ne_of_lt (Nat.lt_of_lt_of_le (Heap.lt_size e) I.ok.above))).trans (I.base.keep b o e n hb hx)
    · obtain ⟨sl, e1⟩ := I.base.slot b o e n hb hx
      exact ⟨sl, (hs.2 b (Nat.ne_of_lt (Nat.lt_of_lt_of_le (Heap.lt_size e) I.ok.above))).trans e1⟩
    · obtain ⟨o', e1⟩ := I.base.there b o e hx
      exact ⟨o', (hs.2 b (Nat.ne_of_lt (Nat.lt_of_lt_of_le (Heap.lt_size e) I.ok.above))).trans e1⟩
    · by_cases hj : j = i
      · subst hj
        rw [hi] at e1; cases e1
        rw [List.getElem?_set_self hiσ] at e2
        cases e2
        exact ⟨u, r, .inl ⟨hk, by simp⟩⟩
      · rw [List.getElem?_set_ne (Ne.symm hj)] at e2
        obtain ⟨u', r', q⟩ := hl j y v' e1 e2 e3
        refine ⟨u', r', ?_⟩
        rcases q with ⟨k, e⟩ | ⟨k, c, e, z⟩
        · refine .inl ⟨k, ?_⟩
          have : y ≠ x := fun e => hj (nodup_ix hN e1 (e ▸ hi))
          simp [this, e]
        · exact .inr ⟨k, c, e, z.sameBut hs (cne y c e)⟩
    · obtain ⟨w', z⟩ := I.cell y c e
      exact ⟨w', z.sameBut hs (cne y c e)⟩
    · obtain ⟨e, n, ne, nf, d⟩ := I.pin p hp
      exact ⟨(hs.2 p.1 ne).trans e, n, ne, nf, d⟩
  · have hfn : X.fn x = true := by
      rcases hf with z | z
      · exact z
      · rw [z] at hk; cases hk
    obtain ⟨c, hc⟩ := I.ok.has x (.inl hk)
    obtain ⟨w', z⟩ := I.cell x c hc
    refine wpAny_storeName_cell I.ok.kind hk hc z (fun h' hc' hs => ?_)
    obtain ⟨oc, hoc, hocd⟩ := id z
    refine h { s with heap := h' } ⟨I.ok, I.os, I.bare, ⟨fun b o e n hb hx => ?_, fun b o e n hb hx => ?_, I.base.free, fun b o e hx => ?_, I.base.tups, I.base.frzs, I.base.tbls⟩, ⟨m, hn.sameBut hs (Ne.symm (cne x c hc)), fun j y v' e1 e2 e3 => ?_⟩, fun y c' e => ?_, I.free, I.freeC, fun p hp => ?_, tracked ⟨oc, hoc, I.freeC x c hc⟩ hs, by simpa using I.len⟩ ⟨c, hs, .inr hc⟩
    · exact (hs.2 b (Nat.ne_of_lt (Nat.lt_of_lt_of_le (Heap.lt_size e) (I.ok.cab x c hfn hc)))).trans (I.base.keep b o e n hb hx)
    · obtain ⟨sl, e1⟩ := I.base.slot b o e n hb hx
      exact ⟨sl, (hs.2 b (Nat.ne_of_lt (Nat.lt_of_lt_of_le (Heap.lt_size e) (I.ok.cab x c hfn hc)))).trans e1⟩
    · obtain ⟨o', e1⟩ := I.base.there b o e hx
      exact ⟨o', (hs.2 b (Nat.ne_of_lt (Nat.lt_of_lt_of_le (Heap.lt_size e) (I.ok.cab x c hfn hc)))).trans e1⟩
    · by_cases hj : j = i
      · subst hj
        rw [hi] at e1; cases e1
        rw [List.getElem?_set_self hiσ] at e2
        cases e2
        exact ⟨u, r, .inr ⟨.inl hk, c, hc, hc'⟩⟩
      · rw [List.getElem?_set_ne (Ne.symm hj)] at e2
        obtain ⟨u', r', q⟩ := hl j y v' e1 e2 e3
        refine ⟨u', r', ?_⟩
        rcases q with q | ⟨k, c', e, z'⟩
        · exact .inl q
        · refine .inr ⟨k, c', e, z'.sameBut hs ?_⟩
          rintro rfl
          exact hj (nodup_ix hN e1 (I.ok.inj _ _ _ e hc ▸ hi))
    · by_cases hcc : c' = c
      · subst hcc; exact ⟨_, hc'⟩
      · obtain ⟨w2, z2⟩ := I.cell y c' e
        exact ⟨w2, z2.sameBut hs hcc⟩
    · obtain ⟨e, n, ne, nf, d⟩ := I.pin p hp
      refine ⟨(hs.2 p.1 ?_).trans e, n, ne, nf, d⟩
      intro q
      rw [q, hoc] at e
      have q' : oc = p.2 := Option.some.inj e
      exact d w' (by rw [← q']; exact hocd)
theorem store_ok {M : Model} {A : Around} {E : Value → Shared → Prop} {i : Nat} {x : Str} {v : V} {u : Value} {Q : Unit → Shared → Prop} (I : Inv X pins σ H s) (hN : X.N.Nodup) (hi : X.N[i]? = some x) (hx : Loc X.env.scope x) (r : RelV v u)
    (h : ∀ s', Inv X pins (σ.set i (some v)) H s' → Q () s') (hf : X.fn x = true ∨ X.env.scope.names.lookup x = some .local := by first | exact .inl rfl | exact .inr rfl | assumption) : wpAny M A (storeName X.env x u) Q E s :=
  store_ok2 I hN hi hx r (fun s' I' _ => h s' I') hf
theorem Inv.call' {s' : Shared} {ch : List Addr} (I : Inv X pins σ H s) (ho : s'.os = s.os) (u : Un (frs X.stack) ch H H' s.heap s'.heap) (hok : HOk X.prog X.w H' s'.heap) (hg : AllBare s'.gens)
    (hch : ∀ b ∈ ch, (b ∈ X.ex ∨ X.s₀.heap.objs.size ≤ b) ∧ b ≠ X.env.locals ∧ (∀ x c, X.env.cells.lookup x = some c → c ≠ b) ∧ ∀ p ∈ X.pn ++ pins, p.1 ≠ b) : Inv X pins σ H' s' := by
  obtain ⟨h', g', d', t', o'⟩ := s'
  have e : o' = s.os := ho
  subst e
  exact I.call (g' := g') (t' := t') (d' := d') u hok hg hch
end
abbrev XK := Value → Option Addr → Hp → Prop
abbrev St := List (Option V)
abbrev VK := V → Hp → Prop
abbrev TE := St → Hp → VK → Prop
abbrev TT := St → Hp → (Bool → Hp → Prop) → Prop
abbrev TA := St → Hp → (List V → Hp → Prop) → Prop
structure Ends where
  nx : St → Hp → Prop
  rt : VK
  bk : St → Hp → Prop := fun _ _ => False
  ct : St → Hp → Prop := fun _ _ => False
abbrev TS := Ends → St → Hp → Prop
def EP (X : Cx) (pins : List (Addr × Obj)) (σ : St) (Q : VK) (u : Value) (s' : Shared) : Prop := ∃ v H', Inv X pins σ H' s' ∧ RelV v u ∧ Q v H'
def TP (X : Cx) (pins : List (Addr × Obj)) (σ : St) (Q : Bool → Hp → Prop) (b : Bool) (s' : Shared) : Prop := ∃ H', Inv X pins σ H' s' ∧ Q b H'
def AP (X : Cx) (pins : List (Addr × Obj)) (σ : St) (Q : List V → Hp → Prop) (us : List Value) (s' : Shared) : Prop := ∃ vs H', Inv X pins σ H' s' ∧ Vals vs us ∧ Q vs H'
def SP (X : Cx) (pins : List (Addr × Obj)) (D : Ends) (f : Flow) (s' : Shared) : Prop :=
  match f with
  | .next => ∃ σ' H', Inv X pins σ' H' s' ∧ D.nx σ' H'
  | .brk => ∃ σ' H', Inv X pins σ' H' s' ∧ D.bk σ' H'
  | .cont => ∃ σ' H', Inv X pins σ' H' s' ∧ D.ct σ' H'
  | .ret u => ∃ v σ' H', Inv X pins σ' H' s' ∧ RelV v u ∧ D.rt v H'
def PE (X : Cx) (e : Expr) (t : TE) : Prop :=
  ∀ (pins : List (Addr × Obj)) (s : Shared) (σ : St) (H : Hp) (Q : VK), Inv X pins σ H s → t σ H Q → wpAny (model X.prog X.w) X.A (eval e X.env) (EP X pins σ Q) X.xe s
def PT (X : Cx) (e : Expr) (t : TT) : Prop :=
  ∀ (pins : List (Addr × Obj)) (s : Shared) (σ : St) (H : Hp) (Q : Bool → Hp → Prop), Inv X pins σ H s → t σ H Q → wpAny (model X.prog X.w) X.A (isTrue e X.env (eval e X.env)) (TP X pins σ Q) X.xe s
def PW (X : Cx) (e : Expr) (t : TT) : Prop :=
  ∀ (whole : Sem Value) (pins : List (Addr × Obj)) (s : Shared) (σ : St) (H : Hp) (Q : Bool → Hp → Prop), Inv X pins σ H s → t σ H Q → wpAny (model X.prog X.w) X.A (isTrue e X.env whole) (TP X pins σ Q) X.xe s
theorem PW.pt {X : Cx} {e : Expr} {t : TT} (h : PW X e t) : PT X e t := h _
def PA (X : Cx) (es : List Expr) (t : TA) : Prop :=
  ∀ (pos : Pos) (pins : List (Addr × Obj)) (s : Shared) (σ : St) (H : Hp) (Q : List V → Hp → Prop), Inv X pins σ H s → t σ H Q → wpAny (model X.prog X.w) X.A (spliced (backTo pos (starEach es X.env))) (AP X pins σ Q) X.xe s
def PS (X : Cx) (st : Stmt) (t : TS) : Prop :=
  ∀ (pins : List (Addr × Obj)) (s : Shared) (σ : St) (H : Hp) (D : Ends), Inv X pins σ H s → t D σ H → wpAny (model X.prog X.w) X.A (exec st X.env) (SP X pins D) X.xe s
def PSs (X : Cx) (st : List Stmt) (t : TS) : Prop :=
  ∀ (pins : List (Addr × Obj)) (s : Shared) (σ : St) (H : Hp) (D : Ends), Inv X pins σ H s → t D σ H → wpAny (model X.prog X.w) X.A (execs st X.env) (SP X pins D) X.xe s
theorem thn {α : Type} {t : Sem α} {Q Q' : α → Shared → Prop} {M : Model} {A : Around} {E : Value → Shared → Prop} {s : Shared} (h : wpAny M A t Q E s) (hQ : ∀ a s, Q a s → Q' a s) : wpAny M A t Q' E s := wpAny_mono h hQ fun _ _ x => x
end L2
namespace L2
open PySem PySem.Spec PyProof.Rows
section
variable {X : Cx}
def tVar (i : Nat) : TE := fun σ H Q => ∃ v, σ[i]? = some (some v) ∧ Q v H
def tC (v : V) : TE := fun _ H Q => Q v H
theorem pe_var {i : Nat} {x : Str} {pos : Pos} (hN : X.N[i]? = some x) (hv : Vis X.env.scope x) (hd : (x == ("__debug__" : Str)) = false := by decide) (hcd : (x == ("__classdict__" : Str)) = false := by decide) : PE X (.Name x pos) (tVar i) := by
  intro pins s σ H Q I h
  obtain ⟨v, e, h⟩ := h
  obtain ⟨m, hn, hl⟩ := I.loc
  obtain ⟨u, r, l⟩ := hl i x v hN e hv
  have fin : EP X pins σ Q u s := ⟨v, H, I, r, h⟩
  rcases l with ⟨hk, hm⟩ | ⟨hk, c, hc, hcell⟩
  · exact wpAny_Name (wpAny_loadName_local I.ok.kind hk hn hm fin) hd
  · rcases hk with hk | hk
    · exact wpAny_Name (wpAny_loadName_cell I.ok.kind hk hc hcell fin) hd
    · exact wpAny_Name (wpAny_loadName_free I.ok.kind hk hc hcell fin hcd) hd
theorem pe_int {i j pos} : PE X (.Constant (.int i) j pos) (tC (.int i)) := fun _ _ _ H _ I h => wpAny_Constant_int ⟨.int i, H, I.tok _, ⟨_, rfl⟩, h⟩
theorem pe_bl {b j pos} : PE X (.Constant (.bool b) j pos) (tC (.bl b)) := fun _ _ _ H _ I h => Constant_bool ⟨.bl b, H, I, rfl, h⟩
theorem pe_non {j pos} : PE X (.Constant .none j pos) (tC .non) := fun _ _ _ H _ I h => Constant_none ⟨.non, H, I, rfl, h⟩
theorem pe_str {x j pos} : PE X (.Constant (.str x) j pos) (tC (.str x)) := fun _ _ _ H _ I h => Calls.Constant_str ⟨.str x, H, I.tok _, ⟨_, rfl⟩, h⟩
def Gl (X : Cx) (x : Str) : Prop := X.env.kindOf x = some .globalImplicit
theorem ld_glob {E : Value → Shared → Prop} {pins : List (Addr × Obj)} {s : Shared} {σ : St} {H : Hp} {x : Str} {u : Value} {pos : Pos} {Q : Value → Shared → Prop} (I : Inv X pins σ H s) (hg : Gl X x) (hm : X.mg x = some u) (h : Q u s)
    (hd : (x == ("__debug__" : Str)) = false := by decide) : wpAny (model X.prog X.w) X.A (eval (.Name x pos) X.env) Q E s :=
  Calls.Name_function_global I.ok.kind hg (Calls.loadGlobal_global (by rw [I.ok.glob]; exact I.mod.glob.keeps I.bk) hm h) hd
theorem ld_blt {E : Value → Shared → Prop} {pins : List (Addr × Obj)} {s : Shared} {σ : St} {H : Hp} {x : Str} {u : Value} {pos : Pos} {Q : Value → Shared → Prop} (I : Inv X pins σ H s) (hg : Gl X x) (hm : X.mg x = none) (hv : bootBuiltins x = some u) (h : Q u s)
    (hn : x ≠ "__name__" := by decide) (hd : (x == ("__debug__" : Str)) = false := by decide) : wpAny (model X.prog X.w) X.A (eval (.Name x pos) X.env) Q E s := by
  obtain ⟨mb, h1, h2⟩ := I.mod.blt
  exact Calls.Name_function_global I.ok.kind hg (Calls.loadGlobal_builtin (by rw [I.ok.glob]; exact I.mod.glob.keeps I.bk) hm (by rw [I.ok.blt]; exact h1.keeps I.bk) ((h2 x hn).trans hv) h) hd
theorem pe_glob {x : Str} {v : V} {u : Value} {pos : Pos} (hg : Gl X x) (hm : X.mg x = some u) (r : RelV v u) (hd : (x == ("__debug__" : Str)) = false := by decide) : PE X (.Name x pos) (tC v) :=
  fun _ _ _ H _ I h => ld_glob I hg hm ⟨v, H, I, r, h⟩ hd
variable {a b : Expr} {ta tb : TE} {pos : Pos}
def tB (t : TE) : TT := fun σ H Q => t σ H fun x H1 => ∃ c, x = .bl c ∧ Q c H1
variable {tA tB' : TT} {rest : List Expr}
def tAnd (t u : TT) : TT := fun σ H Q => t σ H fun c H1 => if c = true then u σ H1 Q else Q false H1
def tOr (t u : TT) : TT := fun σ H Q => t σ H fun c H1 => if c = true then Q true H1 else u σ H1 Q
def tNot (t : TT) : TT := fun σ H Q => t σ H fun c H1 => Q (!c) H1
theorem pw_and1 (ha : PT X a tA) : PW X (.BoolOp .And [a] pos) tA := by
  intro wh pins s σ H Q I h
  refine isTrue_and (thn (ha pins s σ H Q I h) fun c s1 e => ?_)
  cases c with
  | true => exact isTrue_and_nil e
  | false => exact e
theorem pw_or1 (ha : PT X a tA) : PW X (.BoolOp .Or [a] pos) tA := by
  intro wh pins s σ H Q I h
  refine isTrue_or (thn (ha pins s σ H Q I h) fun c s1 e => ?_)
  cases c with
  | false => exact isTrue_or_nil e
  | true => exact e
theorem pw_and (ha : PT X a tA) (hb : PW X (.BoolOp .And (b :: rest) pos) tB') : PW X (.BoolOp .And (a :: b :: rest) pos) (tAnd tA tB') := by
  intro wh pins s σ H Q I h
  refine isTrue_and (thn (ha pins s σ H _ I h) fun c s1 ⟨H1, I1, q1⟩ => ?_)
  cases c with
  | true => exact hb wh pins s1 σ H1 Q I1 q1
  | false => exact ⟨H1, I1, q1⟩
theorem pw_or (ha : PT X a tA) (hb : PW X (.BoolOp .Or (b :: rest) pos) tB') : PW X (.BoolOp .Or (a :: b :: rest) pos) (tOr tA tB') := by
  intro wh pins s σ H Q I h
  refine isTrue_or (thn (ha pins s σ H _ I h) fun c s1 ⟨H1, I1, q1⟩ => ?_)
  cases c with
  | true => exact ⟨H1, I1, q1⟩
  | false => exact hb wh pins s1 σ H1 Q I1 q1
theorem pt_not (ha : PT X a tA) : PT X (.UnaryOp .Not a pos) (tNot tA) := by
  intro pins s σ H Q I h
  exact isTrue_not (ha pins s σ H (fun c H1 => Q (!c) H1) I h)
theorem pe_one {op} {t : TE} (h : PE X a t) : PE X (.BoolOp op [a] pos) t := fun pins s σ H Q I hw => BoolOp_one (h pins s σ H Q I hw)
def tIf (t : TT) (ta tb : TE) : TE := fun σ H Q => t σ H fun c H1 => if c = true then ta σ H1 Q else tb σ H1 Q
theorem pe_ifExp {c : Expr} (hc : PT X c tA) (ha : PE X a ta) (hb : PE X b tb) : PE X (.IfExp c a b pos) (tIf tA ta tb) := by
  intro pins s σ H Q I h
  refine wpAny_IfExp (thn (hc pins s σ H _ I h) fun d s1 ⟨H1, I1, q1⟩ => ?_)
  cases d with
  | true => exact ha pins s1 σ H1 Q I1 q1
  | false => exact hb pins s1 σ H1 Q I1 q1
end
end L2
namespace L2
open PySem PySem.Spec PyProof.Rows
def SqL (K : PySem.W.Frag) (H : Hp) (a : Addr) (xs : List V) : Prop :=
  Rd H a (.lst xs) ∨
    ∃ (o : Obj) (its : Array Value) (n : Nat), K.lookup a = some o ∧ o.cls = .type "list" ∧ o.dict = none ∧ o.data = .seq its n ∧ its.size ≤ sizeLine ∧ Vals xs its.toList
def SqT (K : PySem.W.Frag) (H : Hp) (a : Addr) (xs : List V) : Prop :=
  Rd H a (.tup xs) ∨
    ∃ (o : Obj) (its : Array Value) (n : Nat), K.lookup a = some o ∧ o.cls = .type "tuple" ∧ o.data = .seq its n ∧ its.size ≤ sizeLine ∧ Vals xs its.toList
def absV : Value → Option V
  | .none => some .non
  | .bool b => some (.bl b)
  | .int i _ => some (.int i)
  | .str x _ => some (.str x)
  | .bytes b _ => some (.byt b)
  | .float b _ => some (.flt b)
  | .ref a => some (.ref a)
  | .type n => some (.ty n)
  | _ => none
theorem RelV.abs {x : V} {u : Value} (r : RelV x u) : absV u = some x := by
  cases x with
  | non => cases r; rfl
  | bl _ => cases r; rfl
  | int _ => obtain ⟨t, rfl⟩ := r; rfl
  | str _ => obtain ⟨t, rfl⟩ := r; rfl
  | byt _ => obtain ⟨t, rfl⟩ := r; rfl
  | flt _ => obtain ⟨t, rfl⟩ := r; rfl
  | ref _ => cases r; rfl
  | ty _ => cases r; rfl
theorem RelV.inj {x y : V} {u : Value} (r : RelV x u) (q : RelV y u) : x = y := Option.some.inj (r.abs.symm.trans q.abs)
theorem Vals.inj : ∀ {xs ys : List V} {us : List Value}, Vals xs us → Vals ys us → xs = ys
  | _, _, _, .nil, .nil => rfl
  | _, _, _, .cons r t, .cons r' t' => by rw [r.inj r', Vals.inj t t']
section
variable {X : Cx} {pins : List (Addr × Obj)} {σ : St} {H : Hp} {s : Shared} {a : Addr} {xs ys : List V}
theorem SqL.of {K : PySem.W.Frag} (h : H a = some (.lst xs)) : SqL K H a xs := .inl (.inl h)
theorem SqT.of {K : PySem.W.Frag} (h : H a = some (.tup xs)) : SqT K H a xs := .inl (.inl h)
theorem Inv.list (I : Inv X pins σ H s) (h : SqL X.K H a xs) : ∃ its : List Value, Vals xs its ∧ PlainL s.heap a its.toArray ∧ xs.length ≤ sizeLine := by
  rcases h with h | ⟨o, its, n, hk, hc, hd, hs, hz, r⟩
  · obtain ⟨z, its, n, r, e⟩ := h.ok I.hok
    exact ⟨its, r, ⟨_, n, e, rfl, rfl, rfl⟩, z⟩
  · refine ⟨its.toList, r, ⟨o, n, I.kIn a o hk, hc, hd, by simpa using hs⟩, ?_⟩
    have e := r.length
    simp only [Array.length_toList] at e
    omega
theorem Inv.tuple (I : Inv X pins σ H s) (h : SqT X.K H a xs) : ∃ its : List Value, Vals xs its ∧ IsTup s.heap a its.toArray ∧ xs.length ≤ sizeLine := by
  rcases h with h | ⟨o, its, n, hk, hc, hs, hz, r⟩
  · obtain ⟨z, its, r, p⟩ := h.ok I.hok
    exact ⟨its, r, p, z⟩
  · refine ⟨its.toList, r, ⟨o, I.kIn a o hk, hc, n, by simpa using hs⟩, ?_⟩
    have e := r.length
    simp only [Array.length_toList] at e
    omega
theorem Inv.list_inj (I : Inv X pins σ H s) (h : SqL X.K H a xs) (h' : SqL X.K H a ys) : xs = ys := by
  obtain ⟨its, r, ⟨o, n, e, _, _, d⟩, _⟩ := I.list h
  obtain ⟨its', r', ⟨o', n', e', _, _, d'⟩, _⟩ := I.list h'
  rw [e] at e'; cases e'
  rw [d] at d'
  injection d' with d1 _
  have : its = its' := by simpa using congrArg Array.toList d1
  subst this
  exact r.inj r'
theorem Inv.tuple_inj (I : Inv X pins σ H s) (h : SqT X.K H a xs) (h' : SqT X.K H a ys) : xs = ys := by
  obtain ⟨its, r, ⟨o, e, _, n, d⟩, _⟩ := I.tuple h
  obtain ⟨its', r', ⟨o', e', _, n', d'⟩, _⟩ := I.tuple h'
  rw [e] at e'; cases e'
  rw [d] at d'
  injection d' with d1 _
  have : its = its' := by simpa using congrArg Array.toList d1
  subst this
  exact r.inj r'
end
abbrev Cx.wish (X : Cx) (E : Value → Shared → Prop) : Cx := { X with xe := E }
abbrev Cx.nox (X : Cx) : Cx := X.wish fun _ _ => False
theorem Cx.Ok.wish {X : Cx} (ok : X.Ok) (E : Value → Shared → Prop) : (X.wish E).Ok :=
  ⟨ok.mod, ok.kind, ok.glob, ok.blt, ok.above, ok.inj, ok.has, ok.cab, ok.hd, ok.frames, ok.stk, ok.exf, ok.bs, ok.bsz, ok.noex, ok.exfs, ok.funs, ok.frf⟩
theorem Cx.Ok.unwish {X : Cx} {E : Value → Shared → Prop} (ok : (X.wish E).Ok) : X.Ok :=
  ⟨ok.mod, ok.kind, ok.glob, ok.blt, ok.above, ok.inj, ok.has, ok.cab, ok.hd, ok.frames, ok.stk, ok.exf, ok.bs, ok.bsz, ok.noex, ok.exfs, ok.funs, ok.frf⟩
section
variable {X : Cx} {pins : List (Addr × Obj)} {σ : St} {H : Hp} {s : Shared} {E : Value → Shared → Prop}
theorem Inv.wish (I : Inv X pins σ H s) (E : Value → Shared → Prop) : Inv (X.wish E) pins σ H s := ⟨I.ok.wish E, I.os, I.bare, I.base, I.loc, I.cell, I.free, I.freeC, I.pin, I.hok, I.len⟩
theorem Inv.unwish (I : Inv (X.wish E) pins σ H s) : Inv X pins σ H s := ⟨I.ok.unwish, I.os, I.bare, I.base, I.loc, I.cell, I.free, I.freeC, I.pin, I.hok, I.len⟩
theorem SP.unwish {D : Ends} {f : Flow} {s' : Shared} (h : SP (X.wish E) pins D f s') : SP X pins D f s' := by
  cases f with
  | next => obtain ⟨σ', H', I, q⟩ := h; exact ⟨σ', H', I.unwish, q⟩
  | brk => obtain ⟨σ', H', I, q⟩ := h; exact ⟨σ', H', I.unwish, q⟩
  | cont => obtain ⟨σ', H', I, q⟩ := h; exact ⟨σ', H', I.unwish, q⟩
  | ret u => obtain ⟨v, σ', H', I, r, q⟩ := h; exact ⟨v, σ', H', I.unwish, r, q⟩
theorem PE.nox {e : Expr} {t : TE} (h : PE X.nox e t) : PE X e t := fun pins s σ H Q I hw =>
  wpAny_mono (h pins s σ H Q (I.wish _) hw) (fun _ _ ⟨v, H', I', r, q⟩ => ⟨v, H', I'.unwish, r, q⟩) fun _ _ z => False.elim z
theorem PT.nox {e : Expr} {t : TT} (h : PT X.nox e t) : PT X e t := fun pins s σ H Q I hw =>
  wpAny_mono (h pins s σ H Q (I.wish _) hw) (fun _ _ ⟨H', I', q⟩ => ⟨H', I'.unwish, q⟩) fun _ _ z => False.elim z
theorem PSs.nox {st : List Stmt} {t : TS} (h : PSs X.nox st t) : PSs X st t := fun pins s σ H D I hw =>
  wpAny_mono (h pins s σ H D (I.wish _) hw) (fun _ _ q => q.unwish) fun _ _ z => False.elim z
end
section
variable {X : Cx} {st : Stmt} {rest : List Stmt} {t u : TS} {e : Expr} {te : TE} {pos : Pos}
def tNext : TS := fun D σ H => D.nx σ H
def tSeq (t u : TS) : TS := fun D σ H => t { D with nx := u D } σ H
theorem pss_nil : PSs X [] tNext := fun _ _ σ H _ I h => wpAny_execs_nil ⟨σ, H, I, h⟩
theorem pss_cons (h1 : PS X st t) (h2 : PSs X rest u) : PSs X (st :: rest) (tSeq t u) := by
  intro pins s σ H D I h
  refine wpAny_execs_cons (thn (h1 pins s σ H { D with nx := u D } I h) fun f s1 q => ?_)
  cases f with
  | next =>
    obtain ⟨σ', H', I', q⟩ := q
    exact h2 pins s1 σ' H' D I' q
  | ret v => exact q
  | brk => exact q
  | cont => exact q
theorem pss_one (h1 : PS X st t) : PSs X [st] t := by
  intro pins s σ H D I h
  refine wpAny_execs_cons (thn (h1 pins s σ H D I h) fun f s1 q => ?_)
  cases f with
  | next => exact wpAny_execs_nil q
  | ret v => exact q
  | brk => exact q
  | cont => exact q
def tBreak : TS := fun D σ H => D.bk σ H
theorem ps_break : PS X (.Break pos) tBreak := fun _ _ σ H _ I h => wpAny_Break ⟨σ, H, I, h⟩
theorem Inv.quiet {pins : List (Addr × Obj)} {σ : St} {H : Hp} {s : Shared} (I : Inv X pins σ H s) : interactive X.env = false := by simp [interactive, I.ok.kind]
def tDrop (te : TE) : TS := fun D σ H => te σ H fun _ H1 => D.nx σ H1
theorem ps_expr (he : PE X e te) (hs : swapsWith e none pos.line X.env = pure false := by rfl) : PS X (.Expr e pos) (tDrop te) := by
  intro pins s σ H D I h
  exact wpAny_Expr_any (thn (he pins s σ H _ I h) fun v s1 ⟨x, H1, I1, r1, q1⟩ => ⟨σ, H1, I1, q1⟩) I.quiet hs
def tRet (te : TE) : TS := fun D σ H => te σ H D.rt
theorem ps_ret (he : PE X e te) : PS X (.Return (some e) pos) (tRet te) := by
  intro pins s σ H D I h
  exact wpAny_Return_some (thn (he pins s σ H _ I h) fun v s1 ⟨x, H1, I1, r1, q1⟩ => ⟨x, σ, H1, I1, r1, q1⟩)
def tIfS (c : TT) (t u : TS) : TS := fun D σ H => c σ H fun b H1 => if b = true then t D σ H1 else u D σ H1
theorem ps_if {c : Expr} {a b : List Stmt} {tc : TT} (hc : PT X c tc) (ha : PSs X a t) (hb : PSs X b u) : PS X (.If c a b pos) (tIfS tc t u) := by
  intro pins s σ H D I h
  refine wpAny_If (thn (hc pins s σ H _ I h) fun d s1 ⟨H1, I1, q1⟩ => ?_)
  cases d with
  | true => exact ha pins s1 σ H1 D I1 q1
  | false => exact hb pins s1 σ H1 D I1 q1
end
abbrev TG := V → St → Hp → (St → Hp → Prop) → Prop
abbrev TGs := List V → St → Hp → (St → Hp → Prop) → Prop
def PG (X : Cx) (target : Expr) (t : TG) : Prop :=
  ∀ (pins : List (Addr × Obj)) (s : Shared) (σ : St) (H : Hp) (v : V) (u : Value) (Q : St → Hp → Prop), Inv X pins σ H s → RelV v u → t v σ H Q →
    wpAny (model X.prog X.w) X.A (assign target X.env u) (fun _ s' => ∃ σ' H', Inv X pins σ' H' s' ∧ Q σ' H') X.xe s
def PGs (X : Cx) (ts : List Expr) (t : TGs) : Prop :=
  ∀ (pins : List (Addr × Obj)) (s : Shared) (σ : St) (H : Hp) (vs : List V) (us : List Value) (Q : St → Hp → Prop), Inv X pins σ H s → Vals vs us → t vs σ H Q →
    wpAny (model X.prog X.w) X.A (assignInOrder ((assignEach ts X.env).map (·.2)) us) (fun _ s' => ∃ σ' H', Inv X pins σ' H' s' ∧ Q σ' H') X.xe s
abbrev TSet := V → V → V → Hp → (Hp → Prop) → Prop
def PSet (X : Cx) (t : TSet) : Prop :=
  ∀ (pins : List (Addr × Obj)) (s : Shared) (σ : St) (H : Hp) (o i v : V) (ov iv u : Value) (Q : Hp → Prop), Inv X pins σ H s → RelV o ov → RelV i iv → RelV v u → t o i v H Q →
    wpAny (model X.prog X.w) X.A (setItem ov iv u) (fun _ s' => ∃ H', Inv X pins σ H' s' ∧ Q H') X.xe s
abbrev TIp := V → V → Hp → VK → Prop
def PIp (X : Cx) (op : Operator) (t : TIp) : Prop :=
  ∀ (pins : List (Addr × Obj)) (s : Shared) (σ : St) (H : Hp) (x y : V) (v u : Value) (Q : VK), Inv X pins σ H s → RelV x v → RelV y u → t x y H Q →
    wpAny (model X.prog X.w) X.A (inplaceOp op v u) (EP X pins σ Q) X.xe s
section
variable {X : Cx} {pos : Pos}
def gName (i : Nat) : TG := fun v σ H Q => Q (σ.set i (some v)) H
theorem pg_name {i : Nat} {x : Str} (hN : X.N.Nodup) (hi : X.N[i]? = some x) (hx : Loc X.env.scope x) (hf : X.fn x = true ∨ X.env.scope.names.lookup x = some .local := by first | exact .inl rfl | exact .inr rfl | assumption) : PG X (.Name x pos) (gName i) := by
  intro pins s σ H v u Q I r h
  exact wpAny_assign_Name (store_ok I hN hi hx r (fun s' I' => ⟨_, H, I', h⟩) hf)
def gNil : TGs := fun vs σ H Q => vs = [] ∧ Q σ H
def gCons (t : TG) (u : TGs) : TGs := fun vs σ H Q => ∃ v r, vs = v :: r ∧ t v σ H fun σ' H' => u r σ' H' Q
theorem pgs_nil : PGs X [] gNil := by
  intro pins s σ H vs us Q I r h
  obtain ⟨e, h⟩ := h
  subst e
  cases r
  exact assignInOrder_nil ⟨σ, H, I, h⟩
theorem pgs_cons {e : Expr} {es : List Expr} {t : TG} {u : TGs} (h1 : PG X e t) (h2 : PGs X es u)
    (hs : (assignEach (e :: es) X.env).map (·.2) = assign e X.env :: (assignEach es X.env).map (·.2) := by rfl) : PGs X (e :: es) (gCons t u) := by
  intro pins s σ H vs us Q I r h
  obtain ⟨v, vr, e1, h⟩ := h
  subst e1
  cases r with
  | cons r rr =>
    rw [hs]
    refine assignInOrder_cons (thn (h1 pins s σ H _ _ _ I r h) fun _ s1 ⟨σ1, H1, I1, q1⟩ => ?_)
    exact h2 pins s1 σ1 H1 _ _ Q I1 rr q1
def gTup (K : PySem.W.Frag) (n : Nat) (t : TGs) : TG := fun v σ H Q => ∃ a xs, v = .ref a ∧ SqT K H a xs ∧ xs.length = n ∧ t xs σ H Q
theorem pg_tup {es : List Expr} {k : Nat} {t : TGs} {n : Nat} (hc : X.calm = true) (h : PGs X es t)
    (hn : (assignEach es X.env).length = n := by rfl) (hst : (assignEach es X.env).findIdx? (·.1) = none := by rfl) : PG X (.Tuple es k pos) (gTup X.K n t) := by
  intro pins s σ H v u Q I r hw
  obtain ⟨a, xs, e1, hq, hl, hw⟩ := hw
  subst e1
  cases r
  obtain ⟨its, rv, ht, hz⟩ := I.tuple hq
  refine assign_Tuple_tuple (I.ok.hd hc) ht (by simp [hn, ← hl, rv.length]) hst fun h' hx => ?_
  have I1 : Inv X pins σ H { s with heap := h' } := I.kept (t' := s.toks) fun b o e => hx b o (Nat.ne_of_lt (Heap.lt_size e)) e
  exact h pins _ σ H xs _ Q I1 (by simpa using rv) hw
def gSub (to ti : TE) (t : TSet) : TG := fun v σ H Q => to σ H fun o H1 => ti σ H1 fun i H2 => t o i v H2 fun H3 => Q σ H3
theorem pg_sub {o i : Expr} {to ti : TE} {t : TSet} (ho : PE X o to) (hi : PE X i ti) (hs : PSet X t)
    (ha : ∀ v, assign (.Subscript o i pos) X.env v = (do
      let ov ← holding [v] (eval o X.env)
      let iv ← holding [v, ov] (eval i X.env)
      standAt pos
      holding [v, ov, iv] (setItem ov iv v)
      release [v, ov, iv] []) := by intro _; rfl) : PG X (.Subscript o i pos) (gSub to ti t) := by
  intro pins s σ H v u Q I r h
  rw [ha]
  refine wpAny_bind (wpAny_holding (thn (ho pins s σ H _ I h) fun ov s1 ⟨x, H1, I1, r1, q1⟩ => ?_))
  refine wpAny_bind (wpAny_holding (thn (hi pins s1 σ H1 _ I1 q1) fun iv s2 ⟨y, H2, I2, r2, q2⟩ => ?_))
  refine wpAny_bind (wpAny_standAt (wpAny_bind (wpAny_holding (thn (hs pins s2 σ H2 x y v ov iv u _ I2 r1 r2 r q2) fun _ s3 ⟨H3, I3, q3⟩ => ?_))))
  exact wpAny_release ⟨σ, H3, I3, q3⟩
def tAsg (te : TE) (g : TG) : TS := fun D σ H => te σ H fun x H1 => g x σ H1 D.nx
theorem ps_asg {tg e : Expr} {te : TE} {g : TG} (he : PE X e te) (hg : PG X tg g) (hs : swapsWithSole [tg] e pos.line X.env = pure false := by rfl) (hw : swappedStores [tg] e X.env = pure none := by rfl)
    (h1 : (assignEach [tg] X.env).map (·.2) = [assign tg X.env] := by rfl) : PS X (.Assign [tg] e pos) (tAsg te g) := by
  intro pins s σ H D I h
  refine wpAny_Assign_stores (thn (he pins s σ H _ I h) fun v s1 ⟨x, H1, I1, r1, q1⟩ => ?_) hs hw
  rw [h1]
  exact thn (hg pins s1 σ H1 x v _ I1 r1 q1) fun _ s2 q => q
theorem ps_set {i : Nat} {x : Str} {e : Expr} {te : TE} {pos' : Pos} (hN : X.N.Nodup) (hi : X.N[i]? = some x) (hx : Loc X.env.scope x) (he : PE X e te) (hs : swapsWith e (some (.Name x pos')) pos.line X.env = pure false := by rfl) (hf : X.fn x = true ∨ X.env.scope.names.lookup x = some .local := by first | exact .inl rfl | exact .inr rfl | assumption) :
    PS X (.Assign [.Name x pos'] e pos) (tAsg te (gName i)) := by
  intro pins s σ H D I h
  refine wpAny_Assign_Name (thn (he pins s σ H _ I h) fun v s1 ⟨y, H1, I1, r1, q1⟩ => ?_) hs
  exact store_ok I1 hN hi hx r1 (fun s2 I2 => ⟨_, H1, I2, q1⟩) hf
def tAug (i : Nat) (te : TE) (ti : TIp) : TS := fun D σ H => ∃ x, σ[i]? = some (some x) ∧ te σ H fun y H1 => ti x y H1 fun z H2 => D.nx (σ.set i (some z)) H2
theorem ps_aug {i : Nat} {x : Str} {e : Expr} {te : TE} {op : Operator} {ti : TIp} {pos' : Pos} (hN : X.N.Nodup) (hi : X.N[i]? = some x) (hx : Loc X.env.scope x) (he : PE X e te) (ho : PIp X op ti) (hf : X.fn x = true ∨ X.env.scope.names.lookup x = some .local := by first | exact .inl rfl | exact .inr rfl | assumption) :
    PS X (.AugAssign (.Name x pos') op e pos) (tAug i te ti) := by
  intro pins s σ H D I h
  obtain ⟨v, e1, h⟩ := h
  obtain ⟨m, hn, hl⟩ := I.loc
  have vis : Vis X.env.scope x := by rcases hx with k | k; exact .inl k; exact .inr (.inl k)
  obtain ⟨u, r, l⟩ := hl i x v hi e1 vis
  refine wpAny_AugAssign_Name ?_
  have go : wpAny (model X.prog X.w) X.A (eval e X.env) (fun w s₂ => wpAny (model X.prog X.w) X.A (inplaceOp op u w) (fun r s₃ => wpAny (model X.prog X.w) X.A (storeName X.env x r) (fun _ => SP X pins D .next) X.xe s₃) X.xe s₂) X.xe s := by
    refine thn (he pins s σ H _ I h) fun w s1 ⟨y, H1, I1, r1, q1⟩ => ?_
    refine thn (ho pins s1 σ H1 v y u w _ I1 r r1 q1) fun z s2 ⟨zv, H2, I2, r2, q2⟩ => ?_
    exact store_ok I2 hN hi hx r2 (fun s3 I3 => ⟨_, H2, I3, q2⟩) hf
  rcases l with ⟨hk, hm⟩ | ⟨hk, c, hc, hcell⟩
  · exact wpAny_loadName_local I.ok.kind hk hn hm go
  · rcases hk with hk | hk
    · exact wpAny_loadName_cell I.ok.kind hk hc hcell go
    · rcases hx with k | k
      · have : X.env.scope.names.lookup x = some .free := hk
        rw [k] at this; cases this
      · have : X.env.scope.names.lookup x = some .free := hk
        rw [k] at this; cases this
def ipI (f : Int → Int → Int) : TIp := fun x y H Q => ∃ i j, x = .int i ∧ y = .int j ∧ Q (.int (f i j)) H
theorem ip_add : PIp X .Add (ipI fun i j => i + j) := by
  intro pins s σ H x y v u Q I r1 r2 h
  obtain ⟨i, j, e1, e2, q⟩ := h
  subst e1; subst e2
  obtain ⟨t, rfl⟩ := r1
  obtain ⟨t', rfl⟩ := r2
  exact iadd_int ⟨.int _, H, I.tok _, ⟨_, rfl⟩, q⟩
end
section
variable {X : Cx} {pos : Pos}
end
structure It where
  go : Nat → Hp → Prop
  yld : Nat → Hp → V → Hp → Prop
  stop : Nat → Hp → Prop
def FpOk (X : Cx) (pins : List (Addr × Obj)) (H : Hp) (b : Addr) : Prop :=
  H b = none ∧ b ≠ X.env.locals ∧ b ∉ X.fs ∧ (b ∈ X.ex ∨ X.s₀.heap.objs.size ≤ b) ∧ (∀ x c, X.env.cells.lookup x = some c → c ≠ b) ∧ ∀ p ∈ X.pn ++ pins, p.1 ≠ b
theorem Inv.fpOk {X : Cx} {pins : List (Addr × Obj)} {σ : St} {H H' : Hp} {s : Shared} {b : Addr} (I : Inv X pins σ H s) (hb : s.heap.objs.size ≤ b) (hn : H' b = none) : FpOk X pins H' b := by
  refine ⟨hn, Nat.ne_of_gt (Nat.lt_of_lt_of_le I.lt hb), I.nofs hb, .inr (Nat.le_trans I.sz hb), fun x c e z => ?_, fun p hp z => ?_⟩
  · obtain ⟨v, q⟩ := I.cell x c e
    exact absurd (Nat.lt_of_lt_of_le q.lt (by rw [z]; exact hb)) (Nat.lt_irrefl _)
  · exact absurd (Nat.lt_of_lt_of_le (Heap.lt_size (I.pin p hp).1) (by rw [z]; exact hb)) (Nat.lt_irrefl _)
structure Turn (P : Program) (w : World) (K : PySem.W.Frag) (tg : Expr) (J : It) (fp : List Addr) (it : Addr) (tn : Nat → Heap → Prop) : Prop where
  mem : it ∈ fp
  obj : ∀ i h, tn i h → ∀ b ∈ fp, ∃ o, h.get? b = some o ∧ ∀ v, o.data ≠ .cell v
  keep : ∀ i h h', tn i h → (∀ b ∈ fp, ∀ o, h.get? b = some o → h'.get? b = some o) → tn i h'
  item : ∀ (X : Cx), X.prog = P → X.w = w → X.K = K → X.calm = true → ∀ (i : Nat) (pins : List (Addr × Obj)) (s : Shared) (σ : St) (H : Hp) (E : Value → Shared → Prop), Inv X pins σ H s → (∀ b ∈ fp, FpOk X pins H b) → tn i s.heap → J.go i H →
    wpAny (model P w) X.A (pyNext (.ref it)) (fun r s1 => ∃ u, r = some u ∧
      wpAny (model P w) X.A (letOwnedTupleGo tg (.ref it) u) (fun _ s2 => ∃ x H', Inv X pins σ H' s2 ∧ RelV x u ∧ J.yld i H x H' ∧ tn (i + 1) s2.heap ∧ ∀ b ∈ fp, H' b = none) E s1) E s
  done : ∀ (X : Cx), X.prog = P → X.w = w → X.K = K → X.calm = true → ∀ (i : Nat) (pins : List (Addr × Obj)) (s : Shared) (σ : St) (H : Hp) (E : Value → Shared → Prop), Inv X pins σ H s → (∀ b ∈ fp, FpOk X pins H b) → tn i s.heap → J.stop i H →
    wpAny (model P w) X.A (pyNext (.ref it)) (fun r s1 => r = none ∧ Inv X pins σ H s1) E s
  self : ∀ (A : Around) (i : Nat) (s : Shared) (Q : Value → Shared → Prop) (E : Value → Shared → Prop), tn i s.heap → Q (.ref it) s → wpAny (model P w) A (pyIter (.ref it)) Q E s
abbrev TI := St → Hp → (It → Hp → Prop) → Prop
def PIE (X : Cx) (pins : List (Addr × Obj)) (σ : St) (tg : Expr) (R : It → Hp → Prop) (itv : Value) (s2 : Shared) : Prop :=
  ∃ (it : Addr) (fp : List Addr) (tn : Nat → Heap → Prop) (J : It) (H' : Hp), itv = .ref it ∧ Inv X pins σ H' s2 ∧ Turn X.prog X.w X.K tg J fp it tn ∧ tn 0 s2.heap ∧ (∀ b ∈ fp, FpOk X pins H' b) ∧ R J H'
def PI (X : Cx) (tg iter : Expr) (wi : TI) : Prop :=
  ∀ (pins : List (Addr × Obj)) (s : Shared) (σ : St) (H : Hp) (R : It → Hp → Prop), Inv X pins σ H s → wi σ H R →
    wpAny (model X.prog X.w) X.A (eval iter X.env) (fun v s1 => wpAny (model X.prog X.w) X.A (pyIter v) (PIE X pins σ tg R) X.xe s1) X.xe s
theorem go_of {M : Model} {A : Around} {E : Value → Shared → Prop} {s : Shared} {tg : Expr} {it : Addr} {u : Value} {o : Obj} {n : String} {vs : Array Value} {Q : Unit → Shared → Prop} (ho : s.heap.get? it = some o) (hc : o.cls = .type n) (hd : o.data = .fields vs)
    (hn : ["enumerate", "zip", "dict_itemiterator", "dict_reverseitemiterator", "odict_iterator", "itertools.zip_longest", "itertools.pairwise"].contains n = false) (hQ : Q () s) : wpAny M A (letOwnedTupleGo tg (.ref it) u) Q E s := by
  unfold letOwnedTupleGo
  cases tg <;> first
    | exact wpAny_pure hQ
    | (cases u <;> first
        | exact wpAny_pure hQ
        | (refine wpAny_bind (wpAny_load ho ?_)
           rw [hc, hd]
           show wpAny M A (if (["enumerate", "zip", "dict_itemiterator", "dict_reverseitemiterator", "odict_iterator", "itertools.zip_longest", "itertools.pairwise"].contains n && vs[0]? == some (rawInt _)) = true then _ else _) Q E s
           rw [if_neg (by intro h; rw [hn, Bool.false_and] at h; cases h)]
           exact wpAny_pure hQ))
def Itl (K : PySem.W.Frag) (a : Addr) : It :=
  ⟨fun i H => ∃ xs x, SqL K H a xs ∧ xs[i]? = some x, fun i H x H' => H' = H ∧ ∀ xs, SqL K H a xs → xs[i]? = some x, fun i H => ∃ xs, SqL K H a xs ∧ xs.length ≤ i⟩
def Itt (K : PySem.W.Frag) (a : Addr) : It :=
  ⟨fun i H => ∃ xs x, SqT K H a xs ∧ xs[i]? = some x, fun i H x H' => H' = H ∧ ∀ xs, SqT K H a xs → xs[i]? = some x, fun i H => ∃ xs, SqT K H a xs ∧ xs.length ≤ i⟩
def Itr (lo : Int) (n : Nat) : It := ⟨fun i _ => i < n, fun i H x H' => H' = H ∧ x = .int (lo + i), fun i _ => n ≤ i⟩
theorem turn_list {P : Program} {w : World} {K : PySem.W.Frag} {tg : Expr} (a it : Addr) : Turn P w K tg (Itl K a) [it] it (fun i h => h.IsListIter it a i) where
  mem := by simp
  obj := fun i h st b hb => by
    have e : b = it := by simpa using hb
    subst e
    obtain ⟨o, e, c, d⟩ := st
    exact ⟨o, e, fun v z => by rw [d] at z; cases z⟩
  keep := fun i h h' st k => st.at fun o e => k it (by simp) o e
  item := by
    intro X hP hw hK hc i pins s σ H E I hf st hg
    subst hP hw hK
    obtain ⟨xs, x, hq, hx⟩ := hg
    obtain ⟨its, rv, p, hz⟩ := I.list hq
    obtain ⟨u, hu, ru⟩ := rv.get hx
    obtain ⟨f0, f1, f2, f3, f4, f5⟩ := hf it (by simp)
    refine wpAny_pyNext_list_item st p.isList (x := u) (by simpa using hu) fun h' st' sb => ?_
    have I1 : Inv X pins σ H { s with heap := h' } := I.turned (t' := s.toks) (fun b o hb e => (sb.2 b hb).trans e) f0 f1 f3 f4 f5
    obtain ⟨o, e, c, d⟩ := id st'
    exact ⟨u, rfl, go_of (s := { s with heap := h' }) e c d (by decide) ⟨x, H, I1, ru, ⟨rfl, fun ys hy => by rw [I.list_inj hy hq]; exact hx⟩, st', fun b hb => (hf b hb).1⟩⟩
  done := by
    intro X hP hw hK hc i pins s σ H E I hf st hg
    subst hP hw hK
    obtain ⟨xs, hq, hx⟩ := hg
    obtain ⟨its, rv, p, hz⟩ := I.list hq
    obtain ⟨f0, f1, f2, f3, f4, f5⟩ := hf it (by simp)
    have hl := rv.length
    exact wpAny_pyNext_list_end (I.ok.hd hc) st p.isList (by simp; omega) fun h' eb => ⟨rfl, I.turned (t' := s.toks) (fun b o hb e => eb b o hb e) f0 f1 f3 f4 f5⟩
  self := fun _ _ _ _ _ st h => wpAny_pyIter_listiter st h
theorem turn_tuple {P : Program} {w : World} {K : PySem.W.Frag} {tg : Expr} (a it : Addr) : Turn P w K tg (Itt K a) [it] it (fun i h => h.IsTupleIter it a i) where
  mem := by simp
  obj := fun i h st b hb => by
    have e : b = it := by simpa using hb
    subst e
    obtain ⟨o, e, c, d⟩ := st
    exact ⟨o, e, fun v z => by rw [d] at z; cases z⟩
  keep := fun i h h' st k => st.at fun o e => k it (by simp) o e
  item := by
    intro X hP hw hK hc i pins s σ H E I hf st hg
    subst hP hw hK
    obtain ⟨xs, x, hq, hx⟩ := hg
    obtain ⟨its, rv, p, hz⟩ := I.tuple hq
    obtain ⟨u, hu, ru⟩ := rv.get hx
    obtain ⟨f0, f1, f2, f3, f4, f5⟩ := hf it (by simp)
    refine wpAny_pyNext_tuple_item st (show s.heap.IsTuple a its.toArray from p) (x := u) (by simpa using hu) fun h' st' sb => ?_
    have I1 : Inv X pins σ H { s with heap := h' } := I.turned (t' := s.toks) (fun b o hb e => (sb.2 b hb).trans e) f0 f1 f3 f4 f5
    obtain ⟨o, e, c, d⟩ := id st'
    exact ⟨u, rfl, go_of (s := { s with heap := h' }) e c d (by decide) ⟨x, H, I1, ru, ⟨rfl, fun ys hy => by rw [I.tuple_inj hy hq]; exact hx⟩, st', fun b hb => (hf b hb).1⟩⟩
  done := by
    intro X hP hw hK hc i pins s σ H E I hf st hg
    subst hP hw hK
    obtain ⟨xs, hq, hx⟩ := hg
    obtain ⟨its, rv, p, hz⟩ := I.tuple hq
    obtain ⟨f0, f1, f2, f3, f4, f5⟩ := hf it (by simp)
    have hl := rv.length
    exact wpAny_pyNext_tuple_end (I.ok.hd hc) st (show s.heap.IsTuple a its.toArray from p) (by simp; omega) fun h' eb => ⟨rfl, I.turned (t' := s.toks) (fun b o hb e => eb b o hb e) f0 f1 f3 f4 f5⟩
  self := fun _ _ _ _ _ st h => wpAny_pyIter_tupleiter st h
theorem turn_range {P : Program} {w : World} {K : PySem.W.Frag} {tg : Expr} (it : Addr) (lo : Int) (n : Nat) : Turn P w K tg (Itr lo n) [it] it (fun i h => IsRangeIter h it (lo + (i : Nat) * 1) ((n : Int) - (i : Nat)) 1) where
  mem := by simp
  obj := fun i h st b hb => by
    have e : b = it := by simpa using hb
    subst e
    exact ⟨_, st, fun v z => by
      have z' : Data.fields _ = Data.cell v := z
      cases z'⟩
  keep := fun i h h' st k => k it (by simp) _ st
  item := by
    intro X hP hw hK hc i pins s σ H E I hf st hg
    subst hP hw hK
    obtain ⟨f0, f1, f2, f3, f4, f5⟩ := hf it (by simp)
    have W := Walks.range (prog := X.prog) (w := X.w) (I.ok.hd hc) it lo 1 n
    refine W.item i s _ _ hg st fun v h' tk hv st' kk => ?_
    obtain ⟨t, rfl⟩ := hv
    have I1 : Inv X pins σ H { s with heap := h', toks := tk } := I.turned (fun b o hb e => kk b o (by simpa using hb) e) f0 f1 f3 f4 f5
    refine ⟨_, rfl, go_of (s := { s with heap := h', toks := tk }) (n := "range_iterator") st' rfl rfl (by decide) ⟨.int (lo + i), H, I1, ⟨t, ?_⟩, ⟨rfl, rfl⟩, st', fun b hb => (hf b hb).1⟩⟩
    rw [Int.mul_one]
  done := by
    intro X hP hw hK hc i pins s σ H E I hf st hg
    subst hP hw hK
    obtain ⟨f0, f1, f2, f3, f4, f5⟩ := hf it (by simp)
    exact wpAny_pyNext_range_end (I.ok.hd hc) st (by have : n ≤ i := hg; omega) fun h' eb => ⟨rfl, I.turned (t' := s.toks) (fun b o hb e => eb b o hb e) f0 f1 f3 f4 f5⟩
  self := fun _ _ _ _ _ st h => wpAny_pyIter_rangeiter st h
end L2
namespace L2
open PySem PySem.Spec PyProof.Rows
section
variable {X : Cx} {tg : Expr}
theorem range_it {pins : List (Addr × Obj)} {σ : St} {H : Hp} {s : Shared} {R : It → Hp → Prop} {E : Value → Shared → Prop} {lo hi : Int} {t u v : Tok} {tk : Nat} (I : Inv X pins σ H s) (h1 : -(2 ^ 62) ≤ lo) (h2 : lo < 2 ^ 62) (h3 : -(2 ^ 62) ≤ hi) (h4 : hi < 2 ^ 62)
    (q : R (Itr lo (hi - lo).toNat) H) : wpAny (model X.prog X.w) X.A (pyIter (.ref s.heap.objs.size)) (PIE X pins σ tg R) E { s with heap := s.heap.push { cls := .type "range", data := .fields #[.int lo t, .int hi u, .int 1 v] }, toks := tk } := by
  refine wpAny_pyIter_range (IsRange.new ..) (small_one h1 h2 h3 h4) ?_
  have I1 : Inv X pins σ H { s with heap := s.heap.push { cls := .type "range", data := .fields #[.int lo t, .int hi u, .int 1 v] }, toks := tk } := I.kept fun b o e => Heap.get?_push_of_some _ e
  refine ⟨(s.heap.push { cls := .type "range", data := .fields #[.int lo t, .int hi u, .int 1 v] }).objs.size, [(s.heap.push { cls := .type "range", data := .fields #[.int lo t, .int hi u, .int 1 v] }).objs.size], _, _, H, rfl,
    I1.kept (t' := tk) fun b o e => Heap.get?_push_of_some _ e, turn_range _ lo (hi - lo).toNat, ?_, fun b hb => ?_, q⟩
  · have e1 : lo + ((0 : Nat) : Int) * 1 = lo := by simp
    have e2 : (((hi - lo).toNat : Nat) : Int) - ((0 : Nat) : Int) = Builtin.Range.rangeSize lo hi 1 := by rw [rangeSize_one]; split <;> omega
    show IsRangeIter _ _ (lo + ((0 : Nat) : Int) * 1) ((((hi - lo).toNat : Nat) : Int) - ((0 : Nat) : Int)) 1
    rw [e1, e2]
    exact Heap.get?_push_size _ rfl
  · have e : b = (s.heap.push { cls := .type "range", data := .fields #[.int lo t, .int hi u, .int 1 v] }).objs.size := by simpa using hb
    subst e
    exact I1.fpOk (Nat.le_refl _) (I1.hok.fresh (Nat.le_refl _))
def iRng1 (ta : TA) : TI := fun σ H R => ta σ H fun vs H1 => ∃ j : Int, vs = [.int j] ∧ -(2 ^ 62) ≤ j ∧ j < 2 ^ 62 ∧ R (Itr 0 j.toNat) H1
theorem pi_range1 {a : Expr} {ta : TA} {p pos : Pos} (hg : Gl X "range") (hm : X.mg "range" = none) (ha : PA X [a] ta) (hs : starEach [a] X.env = [(false, eval a X.env)] := by rfl) : PI X tg (.Call (.Name "range" p) [a] [] pos) (iRng1 ta) := by
  intro pins s σ H R I h
  refine Call_ (ld_blt I hg hm boot_range (PyProof.Rows.callWith_type1 (thn (ha pos pins s σ H _ I h) fun us s1 ⟨vs, H1, I1, r1, q1⟩ => ?_) hs rfl))
  obtain ⟨j, e, q1, q2, q⟩ := q1
  subst e
  cases r1 with
  | cons r rr =>
    cases rr
    obtain ⟨t, rfl⟩ := r
    exact call_range_1 (range_it I1 (by omega) (by omega) q1 q2 (by simpa using q))
def tFor (wi : TI) (g : TG) (tb : TS) : TS := fun D σ H => wi σ H fun J H1 => ∃ W : Nat → Nat → St → Hp → Prop, (∃ m, W 0 m σ H1) ∧ ∀ i m σ H, W i m σ H →
  (J.stop i H ∧ D.nx σ H) ∨ (J.go i H ∧ ∃ N : St → Hp → Prop, (∀ σ' H', N σ' H' → ∃ m', m' < m ∧ W (i + 1) m' σ' H') ∧ ∀ x H', J.yld i H x H' → g x σ H' fun σ2 H2 => tb { D with nx := N, ct := N, bk := D.nx } σ2 H2)
def pinsAt (fp : List Addr) (h : Heap) : List (Addr × Obj) := fp.filterMap fun b => (h.get? b).map fun o => (b, o)
theorem mem_pinsAt {fp : List Addr} {h : Heap} {b : Addr} {o : Obj} (hb : b ∈ fp) (e : h.get? b = some o) : (b, o) ∈ pinsAt fp h := List.mem_filterMap.mpr ⟨b, hb, by rw [e]; rfl⟩
theorem of_pinsAt {fp : List Addr} {h : Heap} {p : Addr × Obj} (hp : p ∈ pinsAt fp h) : p.1 ∈ fp ∧ h.get? p.1 = some p.2 := by
  obtain ⟨b, hb, e⟩ := List.mem_filterMap.mp hp
  cases q : h.get? b with
  | none => rw [q] at e; cases e
  | some o =>
    rw [q] at e
    have e' : (b, o) = p := Option.some.inj e
    subst e'
    exact ⟨hb, q⟩
theorem Inv.pinned {pins : List (Addr × Obj)} {σ : St} {H : Hp} {s : Shared} {fp : List Addr} (I : Inv X pins σ H s) (hf : ∀ b ∈ fp, FpOk X pins H b) (ho : ∀ b ∈ fp, ∃ o, s.heap.get? b = some o ∧ ∀ v, o.data ≠ .cell v) : Inv X (pins ++ pinsAt fp s.heap) σ H s :=
  I.pins_of fun p hp => (List.mem_append.mp hp).elim (fun z => I.pin p (List.mem_append_right _ z)) fun z => by
    obtain ⟨hb, e⟩ := of_pinsAt z
    obtain ⟨f0, f1, f2, _⟩ := hf p.1 hb
    obtain ⟨o, e', d⟩ := ho p.1 hb
    rw [e] at e'; cases e'
    exact ⟨e, f0, f1, f2, d⟩
theorem Inv.unpinned {pins pl : List (Addr × Obj)} {σ : St} {H : Hp} {s : Shared} (I : Inv X (pins ++ pl) σ H s) : Inv X pins σ H s := I.pins_of fun p hp => I.pin p (List.mem_append_right _ (List.mem_append_left _ hp))
theorem ps_for {iter : Expr} {body : List Stmt} {wi : TI} {g : TG} {tb : TS} {pos : Pos} (hp : PassesOwn (model X.prog X.w) X.A X.env X.xe) (hc : X.calm = true) (hi : PI X tg iter wi) (hg : PG X tg g) (hb : PSs X body tb)
    (hs : ∀ x, foldedSetIterable iter X.env x = pure x := by intro _; rfl) : PS X (.For tg iter body [] pos) (tFor wi g tb) := by
  intro pins s σ H D I h
  refine wpAny_For (thn (hi pins s σ H _ I h) fun v s1 h1 => thn h1 fun itv s2 h2 => ?_) hs
  obtain ⟨it, fp, tn, J, H2, e, I2, T, st2, f2, W, ⟨m0, w0⟩, turn⟩ := h2
  subst e
  have stat : ∀ {H' : Hp}, (∀ b ∈ fp, H' b = none) → ∀ b ∈ fp, FpOk X pins H' b := fun hn b hb => ⟨hn b hb, (f2 b hb).2⟩
  refine codeAny_forLoop_any (fun n s' => ∃ i σ' H', Inv X pins σ' H' s' ∧ tn i s'.heap ∧ (∀ b ∈ fp, H' b = none) ∧ W i n σ' H') ?_ m0 ⟨0, σ, H2, I2, st2, fun b hb => (f2 b hb).1, w0⟩
  rintro n s3 ⟨i, σ3, H3, I3, st3, fr3, w3⟩
  rcases turn i n σ3 H3 w3 with ⟨stop, qn⟩ | ⟨go, N, hN, step⟩
  · refine wpAny_passesOwn hp (thn (T.done X rfl rfl rfl hc i pins s3 σ3 H3 X.xe I3 (stat fr3) st3 stop) fun r s4 ⟨hr, I4⟩ => ?_)
    subst hr
    exact wpAny_execs_nil ⟨σ3, H3, I4, qn⟩
  · refine wpAny_passesOwn hp (thn (T.item X rfl rfl rfl hc i pins s3 σ3 H3 X.xe I3 (stat fr3) st3 go) fun r s4 ⟨u, hr, h4⟩ => ?_)
    subst hr
    refine wpAny_passesOwn hp (thn h4 fun _ s5 ⟨x, H5, I5, r5, y5, st5, fr5⟩ => ?_)
    have I5' := I5.pinned (stat fr5) (T.obj _ _ st5)
    refine wpAny_passesOwn hp (thn (hg _ s5 σ3 H5 x u _ I5' r5 (step x H5 y5)) fun _ s6 ⟨σ6, H6, I6, q6⟩ => ?_)
    refine wpAny_passesOwn hp (thn (hb _ s6 σ6 H6 _ I6 q6) fun f s7 q7 => ?_)
    have again : ∀ {σ7 : St} {H7 : Hp}, Inv X (pins ++ pinsAt fp s5.heap) σ7 H7 s7 → N σ7 H7 → ∃ m, m < n ∧ ∃ i σ' H', Inv X pins σ' H' s7 ∧ tn i s7.heap ∧ (∀ b ∈ fp, H' b = none) ∧ W i m σ' H' := fun {σ7 H7} I7 n7 => by
      obtain ⟨m', hm, w7⟩ := hN σ7 H7 n7
      refine ⟨m', hm, i + 1, σ7, H7, I7.unpinned, T.keep _ _ _ st5 fun b hb o e => (I7.pin (b, o) (List.mem_append_right _ (List.mem_append_right _ (mem_pinsAt hb e)))).1, fun b hb => ?_, w7⟩
      obtain ⟨o, e, d⟩ := T.obj _ _ st5 b hb
      exact (I7.pin (b, o) (List.mem_append_right _ (List.mem_append_right _ (mem_pinsAt hb e)))).2.1
    cases f with
    | next => obtain ⟨σ7, H7, I7, n7⟩ := q7; exact again I7 n7
    | cont => obtain ⟨σ7, H7, I7, n7⟩ := q7; exact again I7 n7
    | brk => obtain ⟨σ7, H7, I7, q7⟩ := q7; exact ⟨σ7, H7, I7.unpinned, q7⟩
    | ret v => obtain ⟨x7, σ7, H7, I7, r7, q7⟩ := q7; exact ⟨x7, σ7, H7, I7.unpinned, r7, q7⟩
end
end L2
namespace L2
open PySem PySem.Spec PyProof.Rows
abbrev R2 := V → V → Hp → VK → Prop
def OpR (X : Cx) (f : Value → Value → Sem Value) (r : R2) : Prop :=
  ∀ (pins : List (Addr × Obj)) (s : Shared) (σ : St) (H : Hp) (x y : V) (v u : Value) (Q : VK), Inv X pins σ H s → RelV x v → RelV y u → r x y H Q →
    wpAny (model X.prog X.w) X.A (f v u) (EP X pins σ Q) X.xe s
def UnR (X : Cx) (f : Value → Sem Value) (r : V → Hp → VK → Prop) : Prop :=
  ∀ (pins : List (Addr × Obj)) (s : Shared) (σ : St) (H : Hp) (x : V) (v : Value) (Q : VK), Inv X pins σ H s → RelV x v → r x H Q →
    wpAny (model X.prog X.w) X.A (f v) (EP X pins σ Q) X.xe s
def CallR (X : Cx) (f : Value) (r : List V → Hp → VK → Prop) : Prop :=
  ∀ (pins : List (Addr × Obj)) (s : Shared) (σ : St) (H : Hp) (xs : List V) (us : List Value) (Q : VK), Inv X pins σ H s → Vals xs us → r xs H Q →
    wpAny (model X.prog X.w) X.A (call f us) (EP X pins σ Q) X.xe s
def TruR (X : Cx) (r : V → Hp → (Bool → Hp → Prop) → Prop) : Prop :=
  ∀ (pins : List (Addr × Obj)) (s : Shared) (σ : St) (H : Hp) (x : V) (v : Value) (Q : Bool → Hp → Prop), Inv X pins σ H s → RelV x v → r x H Q →
    wpAny (model X.prog X.w) X.A (truthy v) (TP X pins σ Q) X.xe s
def tOp (r : R2) (ta tb : TE) : TE := fun σ H Q => ta σ H fun x H1 => tb σ H1 fun y H2 => r x y H2 Q
def tUn (r : V → Hp → VK → Prop) (ta : TE) : TE := fun σ H Q => ta σ H fun x H1 => r x H1 Q
def rI (C : Int → Int → Prop) (g : Int → Int → V) : R2 := fun x y H Q => ∃ i j, x = .int i ∧ y = .int j ∧ C i j ∧ Q (g i j) H
def rI0 (g : Int → Int → V) : R2 := fun x y H Q => ∃ i j, x = .int i ∧ y = .int j ∧ Q (g i j) H
def rU (g : Int → V) : V → Hp → VK → Prop := fun x H Q => ∃ i, x = .int i ∧ Q (g i) H
section
variable {X : Cx} {a b c : Expr} {ta tb tc : TE} {pos : Pos}
theorem binT (ha : PE X a ta) (hb : PE X b tb) {pins : List (Addr × Obj)} {s : Shared} {σ : St} {H : Hp} {R : V → V → Hp → Prop} (I : Inv X pins σ H s)
    (h : ta σ H fun x H1 => tb σ H1 fun y H2 => R x y H2) {Q : Value → Shared → Prop} {f : Value → Value → Sem Value}
    (hf : ∀ v u s2 x y H2, Inv X pins σ H2 s2 → RelV x v → RelV y u → R x y H2 → wpAny (model X.prog X.w) X.A (f v u) Q X.xe s2) :
    wpAny (model X.prog X.w) X.A (eval a X.env) (fun v s₁ => wpAny (model X.prog X.w) X.A (eval b X.env) (fun u s₂ => wpAny (model X.prog X.w) X.A (f v u) Q X.xe s₂) X.xe s₁) X.xe s := by
  refine thn (ha pins s σ H _ I h) fun v s1 ⟨x, H1, I1, r1, q1⟩ => ?_
  refine thn (hb pins s1 σ H1 _ I1 q1) fun u s2 ⟨y, H2, I2, r2, q2⟩ => ?_
  exact hf v u s2 x y H2 I2 r1 r2 q2
theorem pe_op {op : Operator} {r : R2} (ho : OpR X (binaryOp op) r) (ha : PE X a ta) (hb : PE X b tb) : PE X (.BinOp a op b pos) (tOp r ta tb) := by
  intro pins s σ H Q I h
  exact wpAny_BinOp (binT ha hb I h fun v u s2 x y H2 I2 rx ry q => ho pins s2 σ H2 x y v u Q I2 rx ry q)
theorem pe_un {op : UnaryOp} {r : V → Hp → VK → Prop} (ho : UnR X (unaryOp op) r) (ha : PE X a ta) : PE X (.UnaryOp op a pos) (tUn r ta) := by
  intro pins s σ H Q I h
  exact UnaryOp_ (thn (ha pins s σ H _ I h) fun v s1 ⟨x, H1, I1, r1, q1⟩ => ho pins s1 σ H1 x v Q I1 r1 q1)
theorem opI {f : Value → Value → Sem Value} {C : Int → Int → Prop} {g : Int → Int → Int}
    (rule : ∀ (i j : Int) (t u : Tok) (s : Shared) (Q : Value → Shared → Prop) (E : Value → Shared → Prop), C i j → Q (.int (g i j) s.toks) { s with toks := s.toks + 1 } → wpAny (model X.prog X.w) X.A (f (.int i t) (.int j u)) Q E s) :
    OpR X f (rI C fun i j => .int (g i j)) := by
  intro pins s σ H x y v u Q I rx ry h
  obtain ⟨i, j, rfl, rfl, hc, q⟩ := h
  obtain ⟨t, rfl⟩ := rx
  obtain ⟨t', rfl⟩ := ry
  exact rule i j t t' s _ _ hc ⟨.int (g i j), H, I.tok _, ⟨_, rfl⟩, q⟩
theorem opI0 {f : Value → Value → Sem Value} {g : Int → Int → Int}
    (rule : ∀ (i j : Int) (t u : Tok) (s : Shared) (Q : Value → Shared → Prop) (E : Value → Shared → Prop), Q (.int (g i j) s.toks) { s with toks := s.toks + 1 } → wpAny (model X.prog X.w) X.A (f (.int i t) (.int j u)) Q E s) :
    OpR X f (rI0 fun i j => .int (g i j)) := by
  intro pins s σ H x y v u Q I rx ry h
  obtain ⟨i, j, rfl, rfl, q⟩ := h
  obtain ⟨t, rfl⟩ := rx
  obtain ⟨t', rfl⟩ := ry
  exact rule i j t t' s _ _ ⟨.int (g i j), H, I.tok _, ⟨_, rfl⟩, q⟩
theorem opB0 {f : Value → Value → Sem Value} {g : Int → Int → Bool}
    (rule : ∀ (i j : Int) (t u : Tok) (s : Shared) (Q : Value → Shared → Prop) (E : Value → Shared → Prop), Q (.bool (g i j)) s → wpAny (model X.prog X.w) X.A (f (.int i t) (.int j u)) Q E s) :
    OpR X f (rI0 fun i j => .bl (g i j)) := by
  intro pins s σ H x y v u Q I rx ry h
  obtain ⟨i, j, rfl, rfl, q⟩ := h
  obtain ⟨t, rfl⟩ := rx
  obtain ⟨t', rfl⟩ := ry
  exact rule i j t t' s _ _ ⟨.bl (g i j), H, I, rfl, q⟩
def CDiv (i j : Int) : Prop := 0 < j ∧ j < 1073741824
def CMul (i j : Int) : Prop := (-(2 ^ 64) < i ∧ i < 2 ^ 64) ∨ (-(2 ^ 64) < j ∧ j < 2 ^ 64)
theorem CMul.ok {i j : Int} (h : CMul i j) : IntMulOk i j := by
  rcases h with ⟨h1, h2⟩ | ⟨h1, h2⟩
  · exact .of_left (intBits_le_64 h1 h2)
  · exact .of_right (intBits_le_64 h1 h2)
theorem op_add : OpR X (binaryOp .Add) (rI0 fun i j => .int (i + j)) := opI0 fun _ _ _ _ _ _ _ q => add_int q
theorem op_sub : OpR X (binaryOp .Sub) (rI0 fun i j => .int (i - j)) := opI0 fun _ _ _ _ _ _ _ q => sub_int q
theorem op_mul : OpR X (binaryOp .Mult) (rI CMul fun i j => .int (i * j)) := opI fun _ _ _ _ _ _ _ hc q => mul_int q hc.ok
theorem op_fdiv : OpR X (binaryOp .FloorDiv) (rI CDiv fun i j => .int (i / j)) := opI fun i j _ _ _ _ _ hc q => by
  have h1 : (0 : Int) < j := hc.1
  have h2 : j < 1073741824 := hc.2
  exact floordiv_int (by omega) (by rw [Int.fdiv_eq_ediv_of_nonneg i (by omega)]; exact q) (.inl (PyProof.noPylong_small (by omega)))
theorem op_mod : OpR X (binaryOp .Mod) (rI (fun _ j => 0 < j) fun i j => .int (i % j)) := opI fun i j _ _ _ _ _ hc q => by
  have h1 : (0 : Int) < j := hc
  exact mod_int' (by omega) (by rw [Int.fmod_eq_emod_of_nonneg i (by omega)]; exact q)
theorem unI {f : Value → Sem Value} {g : Int → Int}
    (rule : ∀ (i : Int) (t : Tok) (s : Shared) (Q : Value → Shared → Prop) (E : Value → Shared → Prop), Q (.int (g i) s.toks) { s with toks := s.toks + 1 } → wpAny (model X.prog X.w) X.A (f (.int i t)) Q E s) :
    UnR X f (rU fun i => .int (g i)) := by
  intro pins s σ H x v Q I rx h
  obtain ⟨i, rfl, q⟩ := h
  obtain ⟨t, rfl⟩ := rx
  exact rule i t s _ _ ⟨.int (g i), H, I.tok _, ⟨_, rfl⟩, q⟩
theorem un_neg : UnR X (unaryOp .USub) (rU fun i => .int (-i)) := unI fun _ _ _ _ _ q => neg_int q
end
def scal : V → V → Bool
  | .non, .non => true | .non, .int _ => true | .int _, .non => true | .non, .bl _ => true | .bl _, .non => true | .non, .str _ => true | .str _, .non => true
  | .int _, .int _ => true | .bl _, .bl _ => true | .str _, .str _ => true | .byt _, .byt _ => true
  | .int _, .str _ => true | .str _, .int _ => true | .bl _, .str _ => true | .str _, .bl _ => true
  | _, _ => false
def rEq : R2 := fun x y H Q => scal x y = true ∧ Q (.bl (decide (x = y))) H
def rNe : R2 := fun x y H Q => scal x y = true ∧ Q (.bl (!decide (x = y))) H
theorem dec_int {i j : Int} : decide (V.int i = V.int j) = (i == j) := by
  rw [Bool.eq_iff_iff]
  simp
theorem dec_bl {i j : Bool} : decide (V.bl i = V.bl j) = (i == j) := by
  rw [Bool.eq_iff_iff]
  simp
theorem dec_str {i j : Str} : decide (V.str i = V.str j) = (i == j) := by
  rw [Bool.eq_iff_iff]
  simp
theorem dec_byt {i j : Array UInt8} : decide (V.byt i = V.byt j) = (i.toList == j.toList) := by
  rw [Bool.eq_iff_iff]
  cases i
  cases j
  simp
section
variable {X : Cx} {a b c : Expr} {ta tb tc : TE} {pos : Pos}
theorem fin_bl {pins : List (Addr × Obj)} {σ : St} {H : Hp} {s : Shared} {Q : VK} {k k' : Bool} (I : Inv X pins σ H s) (q : Q (.bl k) H) (e : k = k') : EP X pins σ Q (.bool k') s := by
  subst e
  exact ⟨.bl k, H, I, rfl, q⟩
theorem op_eq : OpR X (compareOp .Eq) rEq := by
  intro pins s σ H x y v u Q I rx ry h
  obtain ⟨hs, q⟩ := h
  cases x with
  | non =>
    cases rx
    cases y with
    | non => cases ry; exact PySem.EqNone.eq_none_none (fin_bl I q (by simp))
    | bl j => cases ry; exact PySem.EqNone.eq_none_bool (fin_bl I q (by simp))
    | int j => obtain ⟨t', rfl⟩ := ry; exact PySem.EqNone.eq_none_int (fin_bl I q (by simp))
    | str j => obtain ⟨t', rfl⟩ := ry; exact PySem.EqNone.eq_none_str (fin_bl I q (by simp))
    | _ => exact absurd (show false = true from hs) Bool.false_ne_true
  | bl i =>
    cases rx
    cases y with
    | non => cases ry; exact PySem.EqNone.eq_bool_none (fin_bl I q (by simp))
    | bl j => cases ry; exact eq_bool (fin_bl I q dec_bl)
    | str j => obtain ⟨t', rfl⟩ := ry; exact PySem.EqMixed.eq_bool_str (fin_bl I q (by simp))
    | _ => exact absurd (show false = true from hs) Bool.false_ne_true
  | int i =>
    obtain ⟨t, rfl⟩ := rx
    cases y with
    | non => cases ry; exact PySem.EqNone.eq_int_none (fin_bl I q (by simp))
    | int j => obtain ⟨t', rfl⟩ := ry; exact eq_int (fin_bl I q dec_int)
    | str j => obtain ⟨t', rfl⟩ := ry; exact PySem.EqMixed.eq_int_str (fin_bl I q (by simp))
    | _ => exact absurd (show false = true from hs) Bool.false_ne_true
  | str i =>
    obtain ⟨t, rfl⟩ := rx
    cases y with
    | non => cases ry; exact PySem.EqNone.eq_str_none (fin_bl I q (by simp))
    | bl j => cases ry; exact PySem.EqMixed.eq_str_bool (fin_bl I q (by simp))
    | int j => obtain ⟨t', rfl⟩ := ry; exact PySem.EqMixed.eq_str_int (fin_bl I q (by simp))
    | str j => obtain ⟨t', rfl⟩ := ry; exact eq_str (fin_bl I q dec_str)
    | _ => exact absurd (show false = true from hs) Bool.false_ne_true
  | byt i =>
    obtain ⟨t, rfl⟩ := rx
    cases y with
    | byt j => obtain ⟨t', rfl⟩ := ry; exact PySem.W.eq_bytes (fin_bl I q dec_byt)
    | _ => exact absurd (show false = true from hs) Bool.false_ne_true
  | _ => cases y <;> exact absurd (show false = true from hs) Bool.false_ne_true
theorem op_ne : OpR X (compareOp .NotEq) rNe := by
  intro pins s σ H x y v u Q I rx ry h
  obtain ⟨hs, q⟩ := h
  cases x with
  | non =>
    cases rx
    cases y with
    | non => cases ry; exact PySem.EqNone.ne_none_none (fin_bl I q (by simp))
    | bl j => cases ry; exact PySem.EqNone.ne_none_bool (fin_bl I q (by simp))
    | int j => obtain ⟨t', rfl⟩ := ry; exact PySem.EqNone.ne_none_int (fin_bl I q (by simp))
    | str j => obtain ⟨t', rfl⟩ := ry; exact PySem.EqNone.ne_none_str (fin_bl I q (by simp))
    | _ => exact absurd (show false = true from hs) Bool.false_ne_true
  | bl i =>
    cases rx
    cases y with
    | non => cases ry; exact PySem.EqNone.ne_bool_none (fin_bl I q (by simp))
    | bl j => cases ry; exact ne_bool (fin_bl I q (congrArg not dec_bl))
    | str j => obtain ⟨t', rfl⟩ := ry; exact PySem.EqMixed.ne_bool_str (fin_bl I q (by simp))
    | _ => exact absurd (show false = true from hs) Bool.false_ne_true
  | int i =>
    obtain ⟨t, rfl⟩ := rx
    cases y with
    | non => cases ry; exact PySem.EqNone.ne_int_none (fin_bl I q (by simp))
    | int j => obtain ⟨t', rfl⟩ := ry; exact ne_int (fin_bl I q (congrArg not dec_int))
    | str j => obtain ⟨t', rfl⟩ := ry; exact PySem.EqMixed.ne_int_str (fin_bl I q (by simp))
    | _ => exact absurd (show false = true from hs) Bool.false_ne_true
  | str i =>
    obtain ⟨t, rfl⟩ := rx
    cases y with
    | non => cases ry; exact PySem.EqNone.ne_str_none (fin_bl I q (by simp))
    | bl j => cases ry; exact PySem.EqMixed.ne_str_bool (fin_bl I q (by simp))
    | int j => obtain ⟨t', rfl⟩ := ry; exact PySem.EqMixed.ne_str_int (fin_bl I q (by simp))
    | str j => obtain ⟨t', rfl⟩ := ry; exact ne_str (fin_bl I q (congrArg not dec_str))
    | _ => exact absurd (show false = true from hs) Bool.false_ne_true
  | byt i =>
    obtain ⟨t, rfl⟩ := rx
    cases y with
    | byt j => obtain ⟨t', rfl⟩ := ry; exact PySem.W.ne_bytes (fin_bl I q (congrArg not dec_byt))
    | _ => exact absurd (show false = true from hs) Bool.false_ne_true
  | _ => cases y <;> exact absurd (show false = true from hs) Bool.false_ne_true
theorem op_lt : OpR X (compareOp .Lt) (rI0 fun i j => .bl (decide (i < j))) := opB0 fun _ _ _ _ _ _ _ q => lt_int q
theorem op_le : OpR X (compareOp .LtE) (rI0 fun i j => .bl (decide (i ≤ j))) := opB0 fun _ _ _ _ _ _ _ q => le_int q
theorem op_gt : OpR X (compareOp .Gt) (rI0 fun i j => .bl (decide (j < i))) := opB0 fun _ _ _ _ _ _ _ q => gt_int q
theorem op_ge : OpR X (compareOp .GtE) (rI0 fun i j => .bl (decide (j ≤ i))) := opB0 fun _ _ _ _ _ _ _ q => ge_int q
theorem op_in_str : OpR X (compareOp .In) (fun x y H Q => ∃ i j, x = .str i ∧ y = .str j ∧ Q (.bl (!(Builtin.Str.occurrences j i 0 j.length 1).isEmpty)) H) := by
  intro pins s σ H x y v u Q I rx ry h
  obtain ⟨i, j, rfl, rfl, q⟩ := h
  obtain ⟨t, rfl⟩ := rx
  obtain ⟨t', rfl⟩ := ry
  exact in_str (fin_bl I q rfl)
theorem op_isN : OpR X (compareOp .Is) (fun x y H Q => y = .non ∧ Q (.bl (decide (x = .non))) H) := by
  intro pins s σ H x y v u Q I rx ry h
  obtain ⟨rfl, q⟩ := h
  cases ry
  refine is_none_gen (fin_bl I q ?_)
  cases x <;> first
    | (cases rx; rfl)
    | (obtain ⟨t, rfl⟩ := rx; rfl)
theorem op_notN : OpR X (compareOp .IsNot) (fun x y H Q => y = .non ∧ Q (.bl (!decide (x = .non))) H) := by
  intro pins s σ H x y v u Q I rx ry h
  obtain ⟨rfl, q⟩ := h
  cases ry
  refine isnot_none_gen (fin_bl I q ?_)
  cases x <;> first
    | (cases rx; rfl)
    | (obtain ⟨t, rfl⟩ := rx; rfl)
theorem OpR.or {f : Value → Value → Sem Value} {r r' : R2} (h : OpR X f r) (h' : OpR X f r') : OpR X f (fun x y H Q => r x y H Q ∨ r' x y H Q) := by
  intro pins s σ H x y v u Q I rx ry q
  rcases q with q | q
  · exact h pins s σ H x y v u Q I rx ry q
  · exact h' pins s σ H x y v u Q I rx ry q
theorem nomark (b : Expr) {op : CmpOp} (h : op ≠ .In := by decide) (h2 : op ≠ .NotIn := by decide) : behindInMarks op b = false := by
  have e1 : (op == CmpOp.In) = false := by cases op <;> first | rfl | exact absurd rfl h
  have e2 : (op == CmpOp.NotIn) = false := by cases op <;> first | rfl | exact absurd rfl h2
  cases b <;> simp [behindInMarks, e1, e2]
theorem pe_cmpR {op : CmpOp} {r : R2} (ho : OpR X (compareOp op) r) (ha : PE X a ta) (hb : PE X b tb) (hm : behindInMarks op b = false) : PE X (.Compare a [op] [b] pos) (tOp r ta tb) := by
  intro pins s σ H Q I h
  exact wpAny_Compare1 (binT ha hb I h fun v u s2 x y H2 I2 rx ry q => ho pins s2 σ H2 x y v u Q I2 rx ry q) hm
def tTest (t : TE) : TT := fun σ H Q => t σ H fun x H' => ∃ k, x = .bl k ∧ Q k H'
theorem pt_cmpR {op : CmpOp} {r : R2} (ho : OpR X (compareOp op) r) (ha : PE X a ta) (hb : PE X b tb) (hm : behindInMarks op b = false) : PT X (.Compare a [op] [b] pos) (tTest (tOp r ta tb)) := by
  intro pins s σ H Q I h
  refine wpAny_isTrue_Compare1 (thn (ha pins s σ H _ I h) fun v s1 ⟨x, H1, I1, r1, q1⟩ => thn (hb pins s1 σ H1 _ I1 q1) fun u s2 ⟨y, H2, I2, r2, q2⟩ =>
    thn (ho pins s2 σ H2 x y v u _ I2 r1 r2 q2) fun c s3 ⟨z, H3, I3, r3, k, e, q3⟩ => ?_) hm
  subst e
  cases r3
  exact wpAny_truthy_bool ⟨H3, I3, q3⟩
def tChain (r r' : R2) (ta tb tc : TE) : TE := fun σ H Q => ta σ H fun x H1 => tb σ H1 fun y H2 => r x y H2 fun z H3 => ∃ k, z = .bl k ∧
  (if k = true then tc σ H3 fun w' H4 => r' y w' H4 Q else Q (.bl false) H3)
theorem pt_chain {op op' : CmpOp} {r r' : R2} (ho : OpR X (compareOp op) r) (ho' : OpR X (compareOp op') r') (ha : PE X a ta) (hb : PE X b tb) (hc : PE X c tc)
    (hm : lastMarks [op, op'] [b, c] = false := by with_unfolding_all rfl) : PT X (.Compare a [op, op'] [b, c] pos) (tTest (tChain r r' ta tb tc)) := by
  intro pins s σ H Q I h
  refine isTrue_chain (thn (ha pins s σ H _ I h) fun v s1 ⟨x, H1, I1, r1, q1⟩ => test_link (thn (hb pins s1 σ H1 _ I1 q1) fun u s2 ⟨y, H2, I2, r2, q2⟩ =>
    thn (ho pins s2 σ H2 x y v u _ I2 r1 r2 q2) fun d s3 ⟨z, H3, I3, r3, k, e, q3⟩ => ?_)) hm
  subst e
  cases r3
  refine wpAny_truthy_bool ?_
  cases k with
  | false =>
    obtain ⟨k', e', q'⟩ := q3
    cases e'
    exact ite_ff ⟨H3, I3, q'⟩
  | true =>
    refine ite_tt (test_last (thn (hc pins s3 σ H3 _ I3 q3) fun w' s4 ⟨z', H4, I4, r4, q4⟩ => thn (ho' pins s4 σ H4 y z' u w' _ I4 r2 r4 q4) fun d' s5 ⟨z2, H5, I5, r5, k2, e2, q5⟩ => ?_))
    subst e2
    cases r5
    exact wpAny_truthy_bool ⟨H5, I5, q5⟩
def TruV (K : PySem.W.Frag) (x : V) (H : Hp) (k : Bool) : Prop :=
  match x with
  | .non => k = false
  | .bl b => k = b
  | .int i => k = (i != 0)
  | .str y => y.length ≤ sizeLine ∧ k = ((y.length : Int) != 0)
  | .byt y => y.size ≤ sizeLine ∧ k = ((y.size : Int) != 0)
  | .ref p => (∃ xs, SqL K H p xs ∧ k = !xs.isEmpty) ∨ (∃ xs, SqT K H p xs ∧ k = !xs.isEmpty) ∨ ∃ kvs, H p = some (.dK kvs) ∧ k = !kvs.isEmpty
  | _ => False
theorem isEmpty_kv {κ : Type} {kvs : List (κ × V)} {vs : List (κ × Value)} (r : KV kvs vs) : (!vs.isEmpty) = !kvs.isEmpty := by
  cases r <;> rfl
theorem isEmpty_of {xs : List V} {its : List Value} (r : Vals xs its) : (!its.toArray.isEmpty) = !xs.isEmpty := by
  cases r <;> simp
theorem line63 : (sizeLine : Nat) < 2 ^ 63 := by rw [sizeLine_eq]; decide
theorem tru_ok : TruR X (fun x H Q => ∃ k, TruV X.K x H k ∧ Q k H) := by
  intro pins s σ H x v Q I rx h
  obtain ⟨k, e, q⟩ := h
  have hl := line63
  have hs : sizeLine = 16777216 := sizeLine_eq
  cases x with
  | non =>
    cases rx
    have e' : k = false := e
    subst e'
    exact truthy_none ⟨H, I, q⟩
  | bl b =>
    cases rx
    have e' : k = b := e
    subst e'
    exact wpAny_truthy_bool ⟨H, I, q⟩
  | int i =>
    obtain ⟨t, rfl⟩ := rx
    have e' : k = (i != 0) := e
    subst e'
    exact PySem.P.truthy_int ⟨H, I, q⟩
  | str y =>
    obtain ⟨t, rfl⟩ := rx
    obtain ⟨hy, e'⟩ : y.length ≤ sizeLine ∧ k = ((y.length : Int) != 0) := e
    subst e'
    exact PySem.P.truthy_str (by omega) ⟨H, I.tok _, q⟩
  | byt y =>
    obtain ⟨t, rfl⟩ := rx
    obtain ⟨hy, e'⟩ : y.size ≤ sizeLine ∧ k = ((y.size : Int) != 0) := e
    subst e'
    exact PySem.W.truthy_bytes (by omega) ⟨H, I.tok _, q⟩
  | ref p =>
    cases rx
    have e' : (∃ xs, SqL X.K H p xs ∧ k = !xs.isEmpty) ∨ (∃ xs, SqT X.K H p xs ∧ k = !xs.isEmpty) ∨ ∃ kvs, H p = some (.dK kvs) ∧ k = !kvs.isEmpty := e
    rcases e' with ⟨xs, hx, e'⟩ | ⟨xs, hx, e'⟩ | ⟨kvs, hx, e'⟩
    · subst e'
      obtain ⟨its, r, pl, hz⟩ := I.list hx
      have hlen := r.length
      exact wpAny_truthy_list pl.isList (by simp only [List.size_toArray]; omega) ⟨H, I.tok _, by rw [isEmpty_of r]; exact q⟩
    · subst e'
      obtain ⟨its, r, pl, hz⟩ := I.tuple hx
      have hlen := r.length
      exact truthy_tuple pl (by simp only [List.size_toArray]; omega) ⟨H, I.tok _, by rw [isEmpty_of r]; exact q⟩
    · subst e'
      obtain ⟨hz, hS, vs, r, m⟩ : kvs.length ≤ sizeLine ∧ (p == sysModules) = false ∧ ∃ vs, KV kvs vs ∧ s.heap.DictOf (mixKind X.prog X.w) p vs := I.hok p _ hx
      have hlen : kvs.length = vs.length := Paired.length r
      exact wpAny_truthy_dict hS m (by omega) ⟨H, I.tok _, by rw [isEmpty_kv r]; exact q⟩
  | _ => exact (show False from e).elim
theorem pt_truth (ha : PE X a ta) (he : ∀ whole, isTrue a X.env whole = (do let v ← whole; standAt a.pos; holding [v] (truthy v))) :
    PT X a (fun σ H Q => ta σ H fun x H' => ∃ k, TruV X.K x H' k ∧ Q k H') := by
  intro pins s σ H Q I h
  exact isTrue_plain (thn (ha pins s σ H _ I h) fun v s1 ⟨x, H1, I1, r1, q1⟩ => tru_ok pins s1 σ H1 x v Q I1 r1 q1) (he _)
theorem op_add_str : OpR X (binaryOp .Add) (fun x y H Q => ∃ i j, x = .str i ∧ y = .str j ∧ i.length + j.length ≤ sizeLine ∧ Q (.str (i ++ j)) H) := by
  intro pins s σ H x y v u Q I rx ry h
  obtain ⟨i, j, rfl, rfl, hz, q⟩ := h
  obtain ⟨t, rfl⟩ := rx
  obtain ⟨t', rfl⟩ := ry
  exact add_str (fun t' tk => ⟨.str (i ++ j), H, I.tok _, ⟨_, rfl⟩, q⟩) hz
theorem vals1 {x : V} {us : List Value} (r : Vals [x] us) : ∃ u, us = [u] ∧ RelV x u := by
  cases r with
  | cons r1 r2 => cases r2; exact ⟨_, rfl, r1⟩
theorem vals2 {x y : V} {us : List Value} (r : Vals [x, y] us) : ∃ u w', us = [u, w'] ∧ RelV x u ∧ RelV y w' := by
  cases r with
  | cons r1 r2 =>
    cases r2 with
    | cons r3 r4 => cases r4; exact ⟨_, _, rfl, r1, r3⟩
theorem call_max2 (hc : X.calm = true) : CallR X (.builtin "max") (fun xs H Q => ∃ i j, xs = [.int i, .int j] ∧ Q (.int (if j > i then j else i)) H) := by
  intro pins s σ H xs us Q I r h
  obtain ⟨i, j, rfl, q⟩ := h
  obtain ⟨u, w', rfl, ⟨t, rfl⟩, ⟨t', rfl⟩⟩ := vals2 r
  refine max_two_ints (I.ok.hd hc) fun h' tk k => ⟨_, H, I.kept k, ?_, q⟩
  by_cases hj : j > i
  · rw [if_pos hj, if_pos hj]; exact ⟨_, rfl⟩
  · rw [if_neg hj, if_neg hj]; exact ⟨_, rfl⟩
theorem call_min2 (hc : X.calm = true) : CallR X (.builtin "min") (fun xs H Q => ∃ i j, xs = [.int i, .int j] ∧ Q (.int (if j < i then j else i)) H) := by
  intro pins s σ H xs us Q I r h
  obtain ⟨i, j, rfl, q⟩ := h
  obtain ⟨u, w', rfl, ⟨t, rfl⟩, ⟨t', rfl⟩⟩ := vals2 r
  refine min_two_ints (I.ok.hd hc) fun h' tk k => ⟨_, H, I.kept k, ?_, q⟩
  by_cases hj : j < i
  · rw [if_pos hj, if_pos hj]; exact ⟨_, rfl⟩
  · rw [if_neg hj, if_neg hj]; exact ⟨_, rfl⟩
end
end L2
namespace L2
open PySem PySem.Spec PyProof.Rows
section
variable {prog : Program} {w : World} {A : Around} {E : Value → Shared → Prop} {s : Shared} {K : PySem.W.Frag} {x dx C f : Addr} {mA : Str → Option Value} {name : Str} {v : Value}
end
section
variable {P : Program} {w : World} {H H' : Hp} {h h' : Heap} {a C dx : Addr} {fs fs' : List (Str × V)}
end
structure Cls (K : PySem.W.Frag) (C : Addr) : Prop where
  pg : PySem.W.plainGet K C Str.empty = true
  hd : PySem.W.hasDictIn K C = true
theorem Cls.get {K : PySem.W.Frag} {C : Addr} (c : Cls K C) (f : Str) : PySem.W.plainGet K C f = true := c.pg
section
variable {X : Cx} {pins : List (Addr × Obj)} {σ : St} {H : Hp} {s : Shared} {a C dx : Addr} {fs : List (Str × V)} {f : Str} {v : V} {A : Around} {E : Value → Shared → Prop}
theorem Inv.made (I : Inv X pins σ H s) : Inv X pins σ (upd (upd H s.heap.objs.size (.own (s.heap.objs.size + 1))) (s.heap.objs.size + 1) (.ins C s.heap.objs.size []))
    { s with heap := (s.heap.push PySem.W.emptyDict).push (PySem.W.instObj C s.heap.objs.size) } := by
  have e1 : (s.heap.push PySem.W.emptyDict).get? s.heap.objs.size = some PySem.W.emptyDict := Heap.get?_push_size s.heap rfl
  have e2 : ((s.heap.push PySem.W.emptyDict).push (PySem.W.instObj C s.heap.objs.size)).get? (s.heap.objs.size + 1) = some (PySem.W.instObj C s.heap.objs.size) := by
    have := Heap.get?_push_size (s.heap.push PySem.W.emptyDict) (o := PySem.W.instObj C s.heap.objs.size) rfl
    rwa [Heap.size_push] at this
  have e3 : (s.heap.push PySem.W.emptyDict).Ns s.heap.objs.size (fun _ => none) := ⟨PySem.W.emptyDict, #[], _, e1, rfl, (fun e he => absurd he (by simp)), fun _ => rfl⟩
  have I1 := I.laid (a := s.heap.objs.size) (o := .own (s.heap.objs.size + 1)) (h' := s.heap.push PySem.W.emptyDict) (t' := s.toks) (fun b u q => Heap.get?_push_of_some _ q) (Nat.le_refl _) ⟨_, e1⟩
  refine I1.laid (a := s.heap.objs.size + 1) (o := .ins C s.heap.objs.size []) (t' := s.toks) (fun b u q => Heap.get?_push_of_some _ q) (Nat.le_of_eq (Heap.size_push _ _)) ?_
  have ne : s.heap.objs.size ≠ s.heap.objs.size + 1 := Nat.ne_of_lt (Nat.lt_succ_self _)
  refine ⟨by rw [upd_ne ne, upd_same], Nat.zero_le _, ne, e2, fun _ => none, (Heap.Ns1.of_empty e3).at fun o q => Heap.get?_push_of_some _ q, fun _ => True.intro, fun y hy => absurd rfl hy⟩
end
section
variable {X : Cx} {o e value : Expr} {f : Str} {pos pos' tpos : Pos} {ta tv : TE}
end
section
variable {X : Cx} {pins : List (Addr × Obj)} {σ : St} {H : Hp} {s : Shared} {A : Around} {E : Value → Shared → Prop} {Q : Value → Shared → Prop} {c : Value} {b : Bool}
end
end L2
namespace L2
open PySem PySem.Spec PyProof.Rows
structure Room (k : Nat) (A : Around) : Prop where
  hd : A.handled = none
  dp : A.depth + 3 * k + 5 < recursionLimit
  un : A.units + 16 * k + 200 < cLine
theorem Room.mono {j k : Nat} {A : Around} (r : Room k A) (h : j ≤ k) : Room j A := ⟨r.hd, by have := r.dp; omega, by have := r.un; omega⟩
theorem Room.deeper {k : Nat} {A : Around} (r : Room (k + 1) A) (env : Env) : Room k (A.deeper env) :=
  ⟨r.hd, by have := r.dp; show A.depth + 1 + 3 * k + 5 < _; omega, by have := r.un; show A.units + 3 + 16 * k + 200 < _; omega⟩
theorem Room.in1 {k : Nat} {A : Around} (r : Room (k + 1) A) : Room k A.in1 :=
  ⟨r.hd, by have := r.dp; show A.depth + 3 * k + 5 < _; omega, by have := r.un; show A.units + 1 + 16 * k + 200 < _; omega⟩
theorem make_depth {A : Around} {C : Addr} {us : List Value} {kw : List (Str × Value)} : (A.under (.builtin "type.__call__" ⟨.ref C :: us, kw⟩)).depth = A.depth + 1 := by
  first | rfl | simp [Around.under, Code.weight, Code.isCreation, Code.isGuard, Code.isCaller, Code.frames, Code.isFrame, guardIds]
theorem make_units {A : Around} {C : Addr} {us : List Value} {kw : List (Str × Value)} : (A.under (.builtin "type.__call__" ⟨.ref C :: us, kw⟩)).units = A.units + 1 := by
  first | rfl | simp [Around.under, Code.cUnits, Code.frames, Code.isFrame]
theorem Room.make {k : Nat} {A : Around} (r : Room (k + 1) A) (C : Addr) (us : List Value) (kw : List (Str × Value)) : Room k (A.under (.builtin "type.__call__" ⟨.ref C :: us, kw⟩)) :=
  ⟨r.hd, by have := r.dp; rw [make_depth]; omega, by have := r.un; rw [make_units]; omega⟩
theorem Room.depth {k : Nat} {A : Around} (r : Room k A) : A.depth < recursionLimit := by have := r.dp; omega
theorem Room.units {k : Nat} {A : Around} (r : Room k A) : A.units + 64 < cLine := by have := r.un; omega
def tNil : TA := fun _ H Q => Q [] H
def tCons (ta : TE) (tr : TA) : TA := fun σ H Q => ta σ H fun x H1 => tr σ H1 fun xs H2 => Q (x :: xs) H2
section
variable {X : Cx} {e : Expr} {es : List Expr} {te : TE} {t : TA} {pos : Pos}
theorem pa_nil : PA X [] tNil := fun _ _ _ _ H Q I h => Calls.spliced_nil ⟨[], H, I, .nil, h⟩
theorem pa_cons (ha : PE X e te) (hr : PA X es t) (hs : starEach (e :: es) X.env = (false, eval e X.env) :: starEach es X.env := by rfl) : PA X (e :: es) (tCons te t) := by
  intro pos pins s σ H Q I h
  rw [hs]
  show wpAny _ _ (spliced ((false, eval e X.env) :: backTo pos (starEach es X.env))) _ _ s
  refine Calls.spliced_cons (thn (ha pins s σ H _ I h) fun u s1 ⟨x, H1, I1, r1, q1⟩ => ?_)
  exact thn (hr pos pins s1 σ H1 _ I1 q1) fun us s2 ⟨xs, H2, I2, r2, q2⟩ => ⟨x :: xs, H2, I2, .cons r1 r2, q2⟩
def tTup (t : TA) : TE := fun σ H Q => t σ H fun xs H1 => xs.length ≤ sizeLine ∧ ∀ p, H1 p = none → Q (.ref p) (upd H1 p (.tup xs))
def tLst (t : TA) : TE := fun σ H Q => t σ H fun xs H1 => xs.length ≤ sizeLine ∧ ∀ p, H1 p = none → Q (.ref p) (upd H1 p (.lst xs))
theorem pe_tup {x1} (h : PA X es t) : PE X (.Tuple es x1 pos) (tTup t) := by
  intro pins s σ H Q I hq
  refine wpAny_Tuple_spliced (thn (h pos pins s σ H _ I hq) fun us s1 ⟨xs, H1, I1, r, z, q⟩ => ⟨by rw [← r.length]; exact z, ?_⟩)
  have hf : H1 s1.heap.objs.size = none := I1.hok.fresh (Nat.le_refl _)
  refine ⟨.ref s1.heap.objs.size, upd H1 s1.heap.objs.size (.tup xs), I1.laid (t' := s1.toks) (fun b u e => Heap.get?_push_of_some _ e) (Nat.le_refl _) ?_, rfl, q _ hf⟩
  exact ⟨z, us, r, ⟨_, Heap.get?_push_size _ rfl, rfl, _, rfl⟩⟩
theorem pe_lst (h : PA X es t) : PE X (.List es pos) (tLst t) := by
  intro pins s σ H Q I hq
  refine wpAny_List_spliced (thn (h pos pins s σ H _ I hq) fun us s1 ⟨xs, H1, I1, r, z, q⟩ => ⟨by rw [← r.length]; exact z, ?_⟩)
  have hf : H1 s1.heap.objs.size = none := I1.hok.fresh (Nat.le_refl _)
  refine ⟨.ref s1.heap.objs.size, upd H1 s1.heap.objs.size (.lst xs), I1.laid (t' := s1.toks) (fun b u e => Heap.get?_push_of_some _ e) (Nat.le_refl _) ?_, rfl, q _ hf⟩
  exact ⟨z, us, 0, r, Heap.get?_push_size _ rfl⟩
end
abbrev Sp := List V → Hp → VK → XK → Prop
abbrev CXT := List Env → Hp → Shared → XK → Value → Shared → Prop
structure Env0 (P : Program) (w : World) (K : PySem.W.Frag) (mg : Str → Option Value) (base : Heap) (A : Around) (outer : List Env) (s : Shared) (H : Hp) : Prop where
  frames : A.frames = some outer
  mod : Mod K mg base
  bs : ∀ b o, base.get? b = some o → s.heap.get? b = some o ∧ H b = none
  bsz : base.objs.size ≤ s.heap.objs.size
  funs : s.heap.FunFrames base outer
  frf : ∀ b ∈ frs outer, H b = none
  hok : HOk P w H s.heap
  bare : AllBare s.gens
def CE (outer : List Env) (P : Program) (w : World) (H : Hp) (s : Shared) (Q : VK) (u : Value) (s' : Shared) : Prop :=
  ∃ v H', s'.os = s.os ∧ AllBare s'.gens ∧ Un (frs outer) [] H H' s.heap s'.heap ∧ HOk P w H' s'.heap ∧ RelV v u ∧ Q v H'
def CR (CX : CXT) (outer : List Env) (P : Program) (w : World) (H : Hp) (s : Shared) (Q : VK) (E : XK) (r : Result) (s' : Shared) : Prop :=
  match r with
  | .ok (.ret u) => CE outer P w H s Q u s'
  | .ok _ => False
  | .error e => CX outer H s E e s'
structure FnOk (P : Program) (w : World) (K : PySem.W.Frag) (mg : Str → Option Value) (base : Heap) (CX : CXT) (k : Nat) (f : Addr) (fd : FuncData) (ps : List Str) (sp : Sp) : Prop where
  len : ∀ vs H Q E, sp vs H Q E → vs.length = ps.length
  run : ∀ (A : Around) (outer : List Env) (s : Shared) (H : Hp) (args : Args) (us : List Value) (vs : List V) (Q : VK) (E : XK), Room k A → Env0 P w K mg base A outer s H → BindsTo s fd args (ps.zip us) → Vals vs us → sp vs H Q E →
    codeAny (model P w) A (.call (.ref f) args) (CR CX outer P w H s Q E) s
theorem FnOk.mono {P : Program} {w : World} {K : PySem.W.Frag} {mg : Str → Option Value} {base : Heap} {CX : CXT} {j k : Nat} {f : Addr} {fd : FuncData} {ps : List Str} {sp : Sp} (F : FnOk P w K mg base CX j f fd ps sp) (h : j ≤ k) :
    FnOk P w K mg base CX k f fd ps sp := ⟨F.len, fun A outer s H args us vs Q E hr => F.run A outer s H args us vs Q E (hr.mono h)⟩
theorem FnOk.imp {P : Program} {w : World} {K : PySem.W.Frag} {mg : Str → Option Value} {base : Heap} {CX : CXT} {k : Nat} {f : Addr} {fd : FuncData} {ps : List Str} {sp sp' : Sp} (F : FnOk P w K mg base CX k f fd ps sp)
    (h : ∀ vs H Q E, sp' vs H Q E → sp vs H Q E) : FnOk P w K mg base CX k f fd ps sp' :=
  ⟨fun vs H Q E q => F.len vs H Q E (h _ _ _ _ q), fun A outer s H args us vs Q E hr he hb hv hs => F.run A outer s H args us vs Q E hr he hb hv (h _ _ _ _ hs)⟩
theorem Env0.make {P : Program} {w : World} {K : PySem.W.Frag} {mg : Str → Option Value} {base : Heap} {A : Around} {outer : List Env} {s : Shared} {H : Hp} (e : Env0 P w K mg base A outer s H) (C : Addr) (us : List Value) (kw : List (Str × Value)) :
    Env0 P w K mg base (A.under (.builtin "type.__call__" ⟨.ref C :: us, kw⟩)) outer s H := ⟨by first | exact e.frames | (simpa [Around.under, Code.envs, Code.isFrame, pushEnvs] using e.frames), e.mod, e.bs, e.bsz, e.funs, e.frf, e.hok, e.bare⟩
theorem Env0.in1 {P : Program} {w : World} {K : PySem.W.Frag} {mg : Str → Option Value} {base : Heap} {A : Around} {outer : List Env} {s : Shared} {H : Hp} (e : Env0 P w K mg base A outer s H) :
    Env0 P w K mg base A.in1 outer s H := ⟨e.frames, e.mod, e.bs, e.bsz, e.funs, e.frf, e.hok, e.bare⟩
section
variable {X : Cx} {pins : List (Addr × Obj)} {σ : St} {H : Hp} {s s' : Shared}
theorem Inv.env0 (I : Inv X pins σ H s) : Env0 X.prog X.w X.K X.mg X.base X.A X.stack s H :=
  ⟨I.ok.frames, I.ok.mod, I.bs, Nat.le_trans I.ok.bsz I.sz, I.stack, I.stkFree, I.hok, I.bare⟩
theorem Inv.after {Q : VK} {u : Value} (I : Inv X pins σ H s) (h : CE X.stack X.prog X.w H s Q u s') : EP X pins σ Q u s' := by
  obtain ⟨v, H', os, bare, un, hok, r, q⟩ := h
  obtain ⟨hh, g, d, t, os'⟩ := s'
  obtain rfl : os' = s.os := os
  exact ⟨v, H', I.call (h' := hh) (g' := g) (d' := d) (t' := t) (ch := []) un hok bare (fun b z => absurd z (by simp)), r, q⟩
end
def tCall (sp : Sp) (dvs : List V) (E : XK) (t : TA) : TE := fun σ H Q => t σ H fun vs H1 => sp (vs ++ dvs) H1 Q E
def Binds (K : PySem.W.Frag) (fd : FuncData) (ps : List Str) (ds : List Value) : Prop :=
  ∀ (s : Shared) (us : List Value), K.In s.heap → (us ++ ds).length = ps.length → BindsTo s fd ⟨us, []⟩ (ps.zip (us ++ ds))
theorem Binds.all {K : PySem.W.Frag} {fd : FuncData} {ps : List Str} (h : ∀ us : List Value, us.length = ps.length → bindArgs fd ⟨us, []⟩ = pure (ps.zip us)) : Binds K fd ps [] := fun s us _ hl => by
  rw [List.append_nil] at hl ⊢
  exact .of_eq (h us hl)
def Passes (CX : CXT) (X : Cx) (E : XK) : Prop := ∀ (pins : List (Addr × Obj)) (σ : St) (H : Hp) (s : Shared) (e : Value) (s' : Shared), Inv X pins σ H s → CX X.stack H s E e s' → X.xe e s'
section
variable {X : Cx} {CX : CXT} {k : Nat} {f C : Addr} {fd : FuncData} {ps : List Str} {sp : Sp} {dvs : List V} {ds : List Value} {E : XK} {x m : Str} {p pos apos : Pos} {e o : Expr} {es : List Expr} {ta : TE} {t : TA}
theorem run_fn {pins : List (Addr × Obj)} {σ : St} {H : Hp} {s : Shared} {Q : VK} {us : List Value} {vs : List V} (F : FnOk X.prog X.w X.K X.mg X.base CX k f fd ps sp) (hr : Room k X.A) (hb : Binds X.K fd ps ds) (hd : Vals dvs ds) (hx : Passes CX X E)
    (I : Inv X pins σ H s) (r : Vals vs us) (h : sp (vs ++ dvs) H Q E) : wpAny (model X.prog X.w) X.A (call (.ref f) us) (EP X pins σ Q) X.xe s := by
  have r2 : Vals (vs ++ dvs) (us ++ ds) := r.append hd
  have hl : (us ++ ds).length = ps.length := by rw [← r2.length]; exact F.len _ _ _ _ h
  refine wpAny_call (codeAny_mono (F.run X.A X.stack s H ⟨us, []⟩ (us ++ ds) (vs ++ dvs) Q E hr I.env0 (hb s us I.kIn hl) r2 h) fun r s' hq => ?_)
  cases r with
  | error e => exact hx pins σ H s e s' I hq
  | ok fl =>
    cases fl with
    | ret u => exact I.after hq
    | next => exact False.elim hq
    | brk => exact False.elim hq
    | cont => exact False.elim hq
theorem pe_call (F : FnOk X.prog X.w X.K X.mg X.base CX k f fd ps sp) (hr : Room k X.A) (hg : Gl X x) (hm : X.mg x = some (.ref f)) (hk : PySem.W.keepIn X.K (.ref f) = true) (hb : Binds X.K fd ps ds) (hd : Vals dvs ds) (hx : Passes CX X E)
    (ha : PA X (e :: es) t) (hdb : (x == ("__debug__" : Str)) = false := by decide) (he : starEach (e :: es) X.env = (false, eval e X.env) :: starEach es X.env := by rfl) (hpl : (backTo pos (starEach es X.env)).any (·.1) = false := by rfl) :
    PE X (.Call (.Name x p) (e :: es) [] pos) (tCall sp dvs E t) := by
  intro pins s σ H Q I h
  refine wpAny_Call_Name_kw (ld_glob I hg hm ?_ hdb)
  refine PySem.W.callWith_K (h₀ := X.base) I.ok.mod.kin hk (thn (ha pos pins s σ H _ I h) fun us s1 ⟨vs, H1, I1, r, q⟩ => ⟨I1.kIn, ?_⟩) he hpl
  exact run_fn F hr hb hd hx I1 r q
end
section
variable {X : Cx} {CX : CXT} {k : Nat} {f C : Addr} {fd : FuncData} {ps ks : List Str} {sp : Sp} {E : XK} {x m : Str} {p pos apos kpos : Pos} {e o : Expr} {es : List Expr} {kws : List Keyword} {te ta : TE} {t tk : TA} {nm : Option Str}
variable {g : List Value → List Value → List Value} {gV : List V → List V → List V}
end
structure FnScope (N P : List Str) (sc : Scope) : Prop where
  kind : sc.kind = .function
  co : sc.isCoroutine = false
  gen : sc.isGenerator = false
  nd : N.Nodup
  pre : N.take P.length = P
  par : ∀ x ∈ P, sc.names.lookup x = some .local ∨ sc.names.lookup x = some .cell
  nofree : ∀ y ∈ sc.names, y.2 ≠ .free
theorem bindL_out {kindOf : Str → Option NameKind} {x : Str} : ∀ {binds : List (Str × Value)} {m : Str → Option Value}, (∀ v, (x, v) ∉ binds) → bindL kindOf binds m x = m x
  | [], _, _ => rfl
  | (n, v) :: r, m, h => by
    unfold bindL
    rw [bindL_out fun w hw => h w (List.mem_cons_of_mem _ hw)]
    split
    · have : x ≠ n := by rintro rfl; exact h v List.mem_cons_self
      simp [this]
    · rfl
theorem bindC_out {kindOf : Str → Option NameKind} {x : Str} : ∀ {binds : List (Str × Value)} {m : Str → Option Value}, (∀ v, (x, v) ∉ binds) → bindC kindOf binds m x = m x
  | [], _, _ => rfl
  | (n, v) :: r, m, h => by
    unfold bindC
    rw [bindC_out fun w hw => h w (List.mem_cons_of_mem _ hw)]
    split
    · rfl
    · have : x ≠ n := by rintro rfl; exact h v List.mem_cons_self
      simp [this]
theorem bindL_get {kindOf : Str → Option NameKind} {x : Str} {v : Value} : ∀ {P : List Str} {vs : List Value} {i : Nat} {m : Str → Option Value}, P.Nodup → P[i]? = some x → vs[i]? = some v → kindOf x = some .local →
    bindL kindOf (P.zip vs) m x = some v
  | [], _, _, _, _, h, _, _ => by simp at h
  | _ :: _, [], _, _, _, _, h, _ => by simp at h
  | p :: P, w :: vs, 0, m, nd, h1, h2, hk => by
    simp at h1 h2; subst h1; subst h2
    show bindL kindOf ((p, w) :: P.zip vs) m p = _
    unfold bindL
    rw [bindL_out fun v hv => (List.nodup_cons.mp nd).1 (List.of_mem_zip hv).1, if_pos hk]
    simp
  | p :: P, w :: vs, i + 1, m, nd, h1, h2, hk => by
    show bindL kindOf ((p, w) :: P.zip vs) m x = _
    unfold bindL
    exact bindL_get (i := i) (List.nodup_cons.mp nd).2 (by simpa using h1) (by simpa using h2) hk
theorem bindC_get {kindOf : Str → Option NameKind} {x : Str} {v : Value} : ∀ {P : List Str} {vs : List Value} {i : Nat} {m : Str → Option Value}, P.Nodup → P[i]? = some x → vs[i]? = some v → kindOf x ≠ some .local →
    bindC kindOf (P.zip vs) m x = some v
  | [], _, _, _, _, h, _, _ => by simp at h
  | _ :: _, [], _, _, _, _, h, _ => by simp at h
  | p :: P, w :: vs, 0, m, nd, h1, h2, hk => by
    simp at h1 h2; subst h1; subst h2
    show bindC kindOf ((p, w) :: P.zip vs) m p = _
    unfold bindC
    rw [bindC_out fun v hv => (List.nodup_cons.mp nd).1 (List.of_mem_zip hv).1, if_neg hk]
    simp
  | p :: P, w :: vs, i + 1, m, nd, h1, h2, hk => by
    show bindC kindOf ((p, w) :: P.zip vs) m x = _
    unfold bindC
    exact bindC_get (i := i) (List.nodup_cons.mp nd).2 (by simpa using h1) (by simpa using h2) hk
def start (N : List Str) (vs : List V) : St := vs.map some ++ List.replicate (N.length - vs.length) none
def cxOf (CX : CXT) (P : Program) (w : World) (K : PySem.W.Frag) (mg : Str → Option Value) (base : Heap) (N : List Str) (qual : Str) (scope : Scope) (f : Addr) (cd : Value) (A : Around) (outer : List Env) (s : Shared) (H : Hp) (E : XK) : Cx where
  prog := P
  w := w
  K := K
  mg := mg
  base := base
  A := A.deeper (envOfC qual scope s.heap.objs.size f cd)
  N := N
  s₀ := s
  H₀ := H
  env := envOfC qual scope s.heap.objs.size f cd
  outer := outer
  stack := envOfC qual scope s.heap.objs.size f cd :: outer
  ex := []
  calm := true
  fn := fun _ => true
  pn := []
  xe := fun e s' => wpAny (model P w) (A.deeper (envOfC qual scope s.heap.objs.size f cd)) (leaving (envOfC qual scope s.heap.objs.size f cd) e) (fun _ s'' => CX outer H s E e s'') (fun e' s'' => CX outer H s E e' s'') s'
theorem cell_has {sc : Scope} {n : Nat} {x : Str} (h : sc.names.lookup x = some .cell) : ∃ c, (cellsFrom n sc.names []).lookup x = some c := by
  have q := PySem.W.cellsFrom_some sc.names n [] (.inl h)
  exact Option.isSome_iff_exists.mp q
theorem inv_start {CX : CXT} {P : Program} {w : World} {K : PySem.W.Frag} {mg : Str → Option Value} {base : Heap} {N ps : List Str} {qual : Str} {scope : Scope} {f : Addr} {cd : Value} {A : Around} {outer : List Env} {s s1 : Shared} {H : Hp} {E : XK} {us : List Value} {vs : List V}
    (S : FnScope N ps scope) (hd : A.handled = none) (e0 : Env0 P w K mg base A outer s H) (hl : vs.length = ps.length) (r : Vals vs us)
    (x : InCallC s s.heap.objs.size (bindL (envOfC qual scope s.heap.objs.size f cd).kindOf (ps.zip us) fun _ => none) (cellsFrom (s.heap.objs.size + 1) scope.names []) (bindC (envOfC qual scope s.heap.objs.size f cd).kindOf (ps.zip us) fun _ => none) s1) :
    Inv (cxOf CX P w K mg base N qual scope f cd A outer s H E) [] (start N vs) H s1 := by
  have hpl : ps.length ≤ N.length := by have := congrArg List.length S.pre; rw [List.length_take] at this; omega
  obtain ⟨h1, tk, rfl, hk⟩ := x.done
  have noA : ∀ b : Addr, b ∉ (cxOf CX P w K mg base N qual scope f cd A outer s H E).ex := fun b z => absurd (show b ∈ ([] : List Addr) from z) (by simp)
  refine ⟨⟨e0.mod, S.kind, rfl, rfl, Nat.le_refl _, fun y z c h1 h2 => ?_, fun y hy => ?_, fun y c _ h => ?_, fun _ => hd, Around.frames_deeper e0.frames, .inr ⟨rfl, rfl⟩, fun b z => absurd z (noA b), e0.bs, e0.bsz, fun b _ _ => noA b, fun b z => absurd z (noA b), e0.funs, e0.frf⟩,
    rfl, e0.bare, Un.kept hk, ⟨_, x.toInCall.ns, fun i y v h1 h2 h3 => ?_⟩, fun y c h => ⟨_, x.cell y c h⟩, e0.hok.fresh (Nat.le_refl _), fun y c h => ?_, fun p hp => absurd (show p ∈ ([] : List (Addr × Obj)) from hp) (by simp), e0.hok.kept hk, ?_⟩
  · exact name_of_addr x.apart (PySem.mem_of_lookup h1) (PySem.mem_of_lookup h2)
  · have hy : scope.names.lookup y = some .cell ∨ scope.names.lookup y = some .free := hy
    rcases hy with hy | hy
    · exact cell_has hy
    · exact absurd rfl (S.nofree _ (PySem.mem_of_lookup hy))
  · exact Nat.le_of_lt (x.above y c (PySem.mem_of_lookup h))
  · have hi : i < vs.length := by
      unfold start at h2
      by_cases hi : i < vs.length
      · exact hi
      · rw [List.getElem?_append_right (by simpa using hi)] at h2
        rw [List.getElem?_replicate] at h2
        split at h2 <;> cases h2
    have ha : vs[i]? = some v := by
      unfold start at h2
      rw [List.getElem?_append_left (by simpa using hi), List.getElem?_map] at h2
      cases e : vs[i]? with
      | none => rw [e] at h2; cases h2
      | some a => rw [e] at h2; cases h2; rfl
    obtain ⟨u, hu, rv⟩ := r.get ha
    have hp : ps[i]? = some y := by
      rw [← S.pre, List.getElem?_take_of_lt (by omega)]; exact h1
    have ndP : ps.Nodup := by rw [← S.pre]; exact S.nd.sublist (List.take_sublist _ _)
    refine ⟨u, rv, ?_⟩
    rcases S.par y (List.mem_of_getElem? hp) with k | k
    · exact .inl ⟨k, bindL_get ndP hp hu k⟩
    · obtain ⟨c, e⟩ := cell_has (n := s.heap.objs.size + 1) k
      refine .inr ⟨.inl k, c, e, ?_⟩
      have q := x.cell y c e
      rw [bindC_get ndP hp hu (by show scope.names.lookup y ≠ _; rw [k]; decide)] at q
      exact q
  · exact e0.hok.fresh (Nat.le_of_lt (x.above y c (PySem.mem_of_lookup h)))
  · unfold start
    show _ = N.length
    rw [List.length_append, List.length_map, List.length_replicate]
    omega
theorem fn_of {CX : CXT} {P : Program} {w : World} {K : PySem.W.Frag} {mg : Str → Option Value} {base : Heap} {k : Nat} {f : Addr} {name qual : Str} {params : Arguments} {body : List Stmt} {scope : Scope} {dV kV doc pm cdv ct oc : Value} {an od : Option Addr}
    {osl : Array (Option Value)} {N ps : List Str} {sp : Sp} (lk : K.lookup f = some ⟨oc, od, .func (PySem.W.fnOf name qual params body scope dV kV doc pm an cdv ct), osl⟩) (hcd : PySem.W.codeIn K cdv qual = true) (S : FnScope N ps scope)
    (len : ∀ vs H Q E, sp vs H Q E → vs.length = ps.length)
    (hbody : ∀ (A : Around) (outer : List Env) (s : Shared) (H : Hp) (vs : List V) (Q : VK) (E : XK), Room k (A.deeper (envOfC qual scope s.heap.objs.size f cdv)) → sp vs H Q E →
      ∃ t, PSs (cxOf CX P w K mg base N qual scope f cdv A outer s H E) body t ∧ t { nx := fun _ H' => Q .non H', rt := Q } (start N vs) H) :
    FnOk P w K mg base CX (k + 1) f (PySem.W.fnOf name qual params body scope dV kV doc pm an cdv ct) ps sp := by
  refine ⟨len, fun A outer s H args us vs Q E hr e0 hb r hsp => ?_⟩
  have hl := len _ _ _ _ hsp
  have KX : K.In s.heap := e0.mod.kin.keeps fun b o e => (e0.bs b o e).1
  have lim : s.heap.NoLimit := e0.mod.nolimit.keeps fun b o e => (e0.bs b o e).1
  have hkind : ∀ y ∈ ps.zip us, scope.names.lookup y.1 = some .local ∨ (scope.names.lookup y.1 = some .cell ∧ ((cellsFrom (s.heap.objs.size + 1) scope.names []).lookup y.1).isSome = true) := fun ⟨n, v⟩ hy => by
    rcases S.par n (List.of_mem_zip hy).1 with q | q
    · exact .inl q
    · exact .inr ⟨q, PySem.W.cellsFrom_some _ _ _ (.inl q)⟩
  refine codeAny_call_function hr.depth (KX _ _ lk) rfl S.co S.gen rfl (PySem.W.codeRec_of KX hcd) (hb _ _ _ _ ?_)
  refine wpAny_newFunctionEnv_cells S.kind hkind fun env he s1 x => ?_
  subst he
  refine ⟨lim.keeps x.toInCall.keep, codeAny_func ?_⟩
  obtain ⟨t, ht, hq⟩ := hbody A outer s H vs Q E (hr.deeper _) hsp
  have I : Inv (cxOf CX P w K mg base N qual scope f cdv A outer s H E) [] (start N vs) H s1 := inv_start S hr.hd e0 hl r x
  refine wpAny_mono (ht [] s1 (start N vs) H _ I hq) (fun fl s' hs => ?_) fun e s' hs => hs
  have fin : ∀ {σ' : St} {H' : Hp} {v : V} {u : Value}, Inv (cxOf CX P w K mg base N qual scope f cdv A outer s H E) [] σ' H' s' → RelV v u → Q v H' → CE outer P w H s Q u s' :=
    fun {σ' H' v u} J rv q => ⟨v, H', J.os, J.bare, J.base, J.hok, rv, q⟩
  cases fl with
  | ret u =>
    obtain ⟨v, σ', H', J, rv, q⟩ := hs
    exact fin J rv q
  | next =>
    obtain ⟨σ', H', J, q⟩ := hs
    exact fin (v := V.non) (u := Value.none) J rfl q
  | brk =>
    obtain ⟨_, _, _, q⟩ := hs
    exact False.elim q
  | cont =>
    obtain ⟨_, _, _, q⟩ := hs
    exact False.elim q
end L2
namespace L2
open PySem PySem.Spec PyProof.Rows
section
variable {X : Cx} {x : Str} {p pos : Pos} {e : Expr} {es : List Expr} {t : TA} {id T : String} {r : List V → Hp → VK → Prop}
def tCB (r : List V → Hp → VK → Prop) (t : TA) : TE := fun σ H Q => t σ H fun vs H1 => r vs H1 Q
theorem pe_callB (hc : CallR X (.builtin id) r) (hg : Gl X x) (hm : X.mg x = none) (hv : bootBuiltins x = some (.builtin id)) (ha : PA X (e :: es) t) (hn : x ≠ "__name__" := by decide) (hdb : (x == ("__debug__" : Str)) = false := by decide)
    (he : starEach (e :: es) X.env = (false, eval e X.env) :: starEach es X.env := by rfl) (hpl : (backTo pos (starEach es X.env)).any (·.1) = false := by rfl) : PE X (.Call (.Name x p) (e :: es) [] pos) (tCB r t) := by
  intro pins s σ H Q I h
  refine wpAny_Call_Name_kw (ld_blt I hg hm hv ?_ hn hdb)
  exact PyProof.Rows.callWith_builtin1 (thn (ha pos pins s σ H _ I h) fun us s1 ⟨vs, H1, I1, r1, q1⟩ => hc pins s1 σ H1 vs us Q I1 r1 q1) he hpl
end
end L2
namespace HT
open PySem PyProof.Rows
section
open PySem.SeqAt
open PySem.AutoSeq1 (wpAny_loadPart')
open PySem.MeetsSeq PySem.MeetsSeq2 PySem.MeetsSeq3
end
section
variable {prog : Program} {w : World} {A : Around} {E : Value → Shared → Prop} {s : Shared}
def sIx (n d : Nat) : Option Int → Nat
  | none => d
  | some v => if v < 0 then (v + (n : Int)).toNat else min v.toNat n
end
end HT
namespace L2
open PySem PySem.Spec PyProof.Rows
abbrev TO := St → Hp → (Option Int → Hp → Prop) → Prop
def PO (X : Cx) (e : Option Expr) (t : TO) : Prop :=
  ∀ (pins : List (Addr × Obj)) (s : Shared) (σ : St) (H : Hp) (Q : Option Int → Hp → Prop), Inv X pins σ H s → t σ H Q →
    wpAny (model X.prog X.w) X.A (evalPart e X.env) (fun u s' => ∃ o H', Inv X pins σ H' s' ∧ IsPart u o ∧ Q o H') X.xe s
def tNoPart : TO := fun _ H Q => Q none H
def tPart (t : TE) : TO := fun σ H Q => t σ H fun x H1 => ∃ i, x = .int i ∧ Q (some i) H1
section
variable {X : Cx} {e : Expr} {te : TE} {lo hi : Option Expr} {tl th : TO} {pos p2 : Pos}
theorem po_none : PO X none tNoPart := by
  intro pins s σ H Q I h
  rw [evalPart_none]
  exact wpAny_pure ⟨none, H, I, .none, h⟩
theorem po_some (h : PE X e te) : PO X (some e) (tPart te) := by
  intro pins s σ H Q I hw
  rw [evalPart_some]
  refine thn (h pins s σ H _ I hw) fun u s1 ⟨x, H1, I1, r1, q1⟩ => ?_
  obtain ⟨i, rfl, q⟩ := q1
  obtain ⟨t, rfl⟩ := r1
  exact ⟨some i, H1, I1, .int i t, q⟩
def SlR (X : Cx) (r : V → Option Int → Option Int → Hp → VK → Prop) : Prop :=
  ∀ (pins : List (Addr × Obj)) (s : Shared) (σ : St) (H : Hp) (x : V) (v vl vu : Value) (lo hi : Option Int) (sl : Addr) (Q : VK), Inv X pins σ H s → RelV x v → s.heap.IsSliceOf sl vl vu .none → IsPart vl lo → IsPart vu hi → r x lo hi H Q →
    ∃ T id, typeLookup (.type T) "__getitem__" = pure (some (.builtin id)) ∧ s.TypeIs v T ∧ wpAny (model X.prog X.w) X.A (getItem v (.ref sl)) (EP X pins σ Q) X.xe s
theorem SlR.or {r r' : V → Option Int → Option Int → Hp → VK → Prop} (h : SlR X r) (h' : SlR X r') : SlR X (fun x lo hi H Q => r x lo hi H Q ∨ r' x lo hi H Q) := by
  intro pins s σ H x v vl vu lo hi sl Q I rx hs pl pu q
  rcases q with q | q
  · exact h pins s σ H x v vl vu lo hi sl Q I rx hs pl pu q
  · exact h' pins s σ H x v vl vu lo hi sl Q I rx hs pl pu q
def tSl (r : V → Option Int → Option Int → Hp → VK → Prop) (te : TE) (tl th : TO) : TE := fun σ H Q => te σ H fun x H1 => tl σ H1 fun l H2 => th σ H2 fun u H3 => r x l u H3 Q
theorem pe_slice {r : V → Option Int → Option Int → Hp → VK → Prop} (hr : SlR X r) (he : PE X e te) (hl : PO X lo tl) (hu : PO X hi th) : PE X (.Subscript e (.Slice lo hi none p2) pos) (tSl r te tl th) := by
  intro pins s σ H Q I h
  refine Subscript_ (thn (he pins s σ H _ I h) fun v s1 ⟨x, H1, I1, r1, q1⟩ => ?_)
  refine wpAny_Slice (thn (hl pins s1 σ H1 _ I1 q1) fun vl s2 ⟨l, H2, I2, pl, q2⟩ => thn (hu pins s2 σ H2 _ I2 q2) fun vu s3 ⟨u, H3, I3, pu, q3⟩ => ?_)
  rw [evalPart_none]
  refine wpAny_pure ?_
  have I4 : Inv X pins σ H3 { s3 with heap := s3.heap.push { cls := .type "slice", data := .fields #[vl, vu, .none] } } := I3.kept (t' := s3.toks) fun b ob q => Heap.get?_push_of_some _ q
  obtain ⟨T, id, hT, ht, hg⟩ := hr pins { s3 with heap := s3.heap.push { cls := .type "slice", data := .fields #[vl, vu, .none] } } σ H3 x v vl vu l u s3.heap.objs.size Q I4 r1 (Heap.IsSliceOf.new ..) pl pu q3
  show wpAny (model X.prog X.w) X.A (subscriptTail e (.Slice lo hi none p2) v (.ref s3.heap.objs.size)) (EP X pins σ Q) X.xe { s3 with heap := s3.heap.push { cls := .type "slice", data := .fields #[vl, vu, .none] } }
  exact tail_any (ops := [.ref s3.heap.objs.size, v]) ht hT hg (by with_unfolding_all rfl)
def cutV (xs : List V) (lo hi : Option Int) : List V := (xs.drop (HT.sIx xs.length 0 lo)).take (HT.sIx xs.length xs.length hi - HT.sIx xs.length 0 lo)
theorem cutV_length (xs : List V) (lo hi : Option Int) : (cutV xs lo hi).length ≤ xs.length := by
  unfold cutV
  rw [List.length_take, List.length_drop]
  omega
end
end L2
namespace L2
open PySem PySem.Spec PyProof.Rows
def ixN (n : Nat) (i : Int) : Option Nat := if 0 ≤ i then (if i < n then some i.toNat else none) else if -(n : Int) ≤ i then some (i + n).toNat else none
def atI {α : Type} (xs : List α) (i : Int) : Option α := (ixN xs.length i).bind fun j => xs[j]?
theorem ixN_seq {n : Nat} {i : Int} {j : Nat} (h : ixN n i = some j) : seqIndex? i n = some j ∧ j < n ∧ -(n : Int) ≤ i ∧ i < n := by
  unfold ixN at h
  by_cases h0 : 0 ≤ i
  · rw [if_pos h0] at h
    by_cases h1 : i < n
    · rw [if_pos h1] at h
      have e : i.toNat = j := Option.some.inj h
      exact ⟨by rw [seqIndex_of h0 h1, e], by omega, by omega, h1⟩
    · rw [if_neg h1] at h; cases h
  · rw [if_neg h0] at h
    by_cases h1 : -(n : Int) ≤ i
    · rw [if_pos h1] at h
      have e : (i + n).toNat = j := Option.some.inj h
      exact ⟨by rw [seqIndex_neg (by omega) h1, e], by omega, h1, by omega⟩
    · rw [if_neg h1] at h; cases h
theorem atI_get {α : Type} {xs : List α} {i : Int} {v : α} (h : atI xs i = some v) : ∃ j, seqIndex? i xs.length = some j ∧ xs[j]? = some v ∧ j < xs.length ∧ -(xs.length : Int) ≤ i ∧ i < xs.length := by
  unfold atI at h
  cases e : ixN xs.length i with
  | none => rw [e] at h; cases h
  | some j =>
    rw [e] at h
    obtain ⟨h1, h2, h3, h4⟩ := ixN_seq e
    exact ⟨j, h1, h, h2, h3, h4⟩
theorem atI_nat {α : Type} {xs : List α} {j : Nat} {v : α} (h : xs[j]? = some v) : atI xs (j : Int) = some v := by
  have hj : j < xs.length := (List.getElem?_eq_some_iff.mp h).1
  have e : ixN xs.length (j : Int) = some j := by
    unfold ixN
    rw [if_pos (by omega), if_pos (by omega)]; simp
  unfold atI; rw [e]; exact h
def PlainIx (b : Expr) : Prop := ∀ o i, subscripted b false o i = operate [o, i] (getItem o i)
def IxR (X : Cx) (r : R2) : Prop :=
  ∀ (value slice : Expr) (pins : List (Addr × Obj)) (s : Shared) (σ : St) (H : Hp) (x y : V) (v u : Value) (Q : VK), Inv X pins σ H s → RelV x v → RelV y u → r x y H Q →
    subscripted slice false v u = operate [v, u] (getItem v u) → wpAny (model X.prog X.w) X.A (subscriptTail value slice v u) (EP X pins σ Q) X.xe s
def MtR (X : Cx) (id : String) (r : V → List V → Hp → VK → Prop) : Prop :=
  ∀ (pins : List (Addr × Obj)) (s : Shared) (σ : St) (H : Hp) (x : V) (xs : List V) (v : Value) (us : List Value) (Q : VK), Inv X pins σ H s → RelV x v → Vals xs us → r x xs H Q →
    wpAny (model X.prog X.w) X.A (call (.builtin id) (v :: us)) (EP X pins σ Q) X.xe s
section
variable {X : Cx} {a b : Expr} {ta tb : TE} {pos : Pos}
theorem IxR.or {r r' : R2} (h : IxR X r) (h' : IxR X r') : IxR X (fun x y H Q => r x y H Q ∨ r' x y H Q) := by
  intro value slice pins s σ H x y v u Q I rx ry q hs
  rcases q with q | q
  · exact h value slice pins s σ H x y v u Q I rx ry q hs
  · exact h' value slice pins s σ H x y v u Q I rx ry q hs
theorem MtR.or {id : String} {r r' : V → List V → Hp → VK → Prop} (h : MtR X id r) (h' : MtR X id r') : MtR X id (fun x xs H Q => r x xs H Q ∨ r' x xs H Q) := by
  intro pins s σ H x xs v us Q I rx rs q
  rcases q with q | q
  · exact h pins s σ H x xs v us Q I rx rs q
  · exact h' pins s σ H x xs v us Q I rx rs q
theorem pe_ix {r : R2} (hr : IxR X r) (ha : PE X a ta) (hb : PE X b tb) (hs : PlainIx b) : PE X (.Subscript a b pos) (tOp r ta tb) := by
  intro pins s σ H Q I h
  exact Subscript_ (binT ha hb I h fun v u s2 x y H2 I2 rx ry q => hr a b pins s2 σ H2 x y v u Q I2 rx ry q (hs _ _))
def rIxL (K : PySem.W.Frag) : R2 := fun x y H Q => ∃ p xs i v, x = .ref p ∧ y = .int i ∧ SqL K H p xs ∧ atI xs i = some v ∧ Q v H
def rIxT (K : PySem.W.Frag) : R2 := fun x y H Q => ∃ p xs i v, x = .ref p ∧ y = .int i ∧ SqT K H p xs ∧ atI xs i = some v ∧ Q v H
def rIxS : R2 := fun x y H Q => ∃ z i c, x = .str z ∧ y = .int i ∧ z.length ≤ sizeLine ∧ atI z.cps.toList i = some c ∧ Q (.str ⟨#[c]⟩) H
theorem ix_list : IxR X (rIxL X.K) := by
  intro value slice pins s σ H x y v u Q I rx ry h hs
  obtain ⟨p, xs, i, z, rfl, rfl, hq, he, q⟩ := h
  cases rx
  obtain ⟨t, rfl⟩ := ry
  obtain ⟨its, r, pl, hz⟩ := I.list hq
  obtain ⟨j, h1, h2, h3, h4, h5⟩ := atI_get he
  obtain ⟨w, ew, rw'⟩ := r.get h2
  have hl := r.length
  have hn := line63
  have fin : EP X pins σ Q w s := ⟨z, H, I, rw', q⟩
  by_cases h0 : 0 ≤ i
  · have hj : i.toNat = j := by
      rw [seqIndex_of h0 h5] at h1
      exact Option.some.inj h1
    exact item_listR pl.isList h0 (by omega) (by rw [hj]; simpa using ew) fin hs
  · have hj : (i + (its.toArray.size : Int)).toNat = j := by
      rw [seqIndex_neg (by omega) h4] at h1
      rw [List.size_toArray, ← hl]
      exact Option.some.inj h1
    exact subscriptTail_builtinR (x := w) pl.isList.typeIs slot_list_getitem.lookup
      (wpAny_getItem_list_neg (Q := fun r s' => r = w ∧ EP X pins σ Q r s') pl.isList (by omega) (by rw [List.size_toArray] <;> omega) (by omega) (by rw [hj]; simpa using ew) ⟨rfl, fin⟩) hs
theorem ix_tup : IxR X (rIxT X.K) := by
  intro value slice pins s σ H x y v u Q I rx ry h hs
  obtain ⟨p, xs, i, z, rfl, rfl, hq, he, q⟩ := h
  cases rx
  obtain ⟨t, rfl⟩ := ry
  obtain ⟨its, r, pl, hz⟩ := I.tuple hq
  obtain ⟨j, h1, h2, h3, h4, h5⟩ := atI_get he
  obtain ⟨w, ew, rw'⟩ := r.get h2
  have hl := r.length
  have hn := line63
  have fin : EP X pins σ Q w s := ⟨z, H, I, rw', q⟩
  exact subscriptTail_builtinR (x := w) pl.typeIs slot_tuple_getitem.lookup
    (getItem_tuple (j := j) (Q := fun r s' => r = w ∧ EP X pins σ Q r s') pl (by omega) (by omega) (by rw [List.size_toArray, ← hl]; exact h1) (by simpa using ew) ⟨rfl, fin⟩) hs
theorem ix_str : IxR X rIxS := by
  intro value slice pins s σ H x y v u Q I rx ry h hs
  obtain ⟨z, i, c, rfl, rfl, hz, he, q⟩ := h
  obtain ⟨t, rfl⟩ := rx
  obtain ⟨t', rfl⟩ := ry
  obtain ⟨j, h1, h2, h3, h4, h5⟩ := atI_get he
  have hl : z.cps.toList.length = z.length := by simp [Str.length]
  rw [hl] at h1 h4 h5
  have hn := line63
  exact tail_any (typeIs_str s z t) slot_str_getitem.lookup (getItem_str (c := c) (by
    have e1 : decide (i < -(2 ^ 63 : Int)) = false := decide_eq_false (by omega)
    have e2 : decide (i ≥ 2 ^ 63) = false := decide_eq_false (by omega)
    rw [e1, e2, Bool.or_false]) (by rw [h1]; simpa using h2) ⟨.str ⟨#[c]⟩, H, I.tok _, ⟨_, rfl⟩, q⟩) hs
def rIx (K : PySem.W.Frag) : R2 := fun x y H Q => rIxL K x y H Q ∨ rIxT K x y H Q ∨ rIxS x y H Q
theorem ix_seq : IxR X (rIx X.K) := ix_list.or (ix_tup.or ix_str)
theorem mapSeq_set (its : List Value) (n j : Nat) (u : Value) : Obj.mapSeq (·.setIfInBounds j u) { cls := .type "list", data := .seq its.toArray n } = { cls := .type "list", data := .seq (its.set j u).toArray n } := by
  simp [Obj.mapSeq]
theorem Inv.lst {pins : List (Addr × Obj)} {σ : St} {H : Hp} {s : Shared} {p : Addr} {xs : List V} (I : Inv X pins σ H s) (h : H p = some (.lst xs)) :
    ∃ (its : List Value) (n : Nat), Vals xs its ∧ s.heap.get? p = some { cls := .type "list", data := .seq its.toArray n } ∧ xs.length ≤ sizeLine := by
  obtain ⟨z, its, n, r, e⟩ := I.hok p _ h
  exact ⟨its, n, r, e, z⟩
theorem Inv.lstUpd {pins : List (Addr × Obj)} {σ : St} {H : Hp} {s : Shared} {p : Addr} {xs ys : List V} {its its' : List Value} {n n' : Nat} {f : Obj → Obj} (I : Inv X pins σ H s) (h : H p = some (.lst xs))
    (ho : s.heap.get? p = some { cls := .type "list", data := .seq its.toArray n }) (hf : f { cls := .type "list", data := .seq its.toArray n } = { cls := .type "list", data := .seq its'.toArray n' }) (r : Vals ys its') (hz : ys.length ≤ sizeLine) (t : Nat) :
    Inv X pins σ (upd H p (.lst ys)) { s with heap := s.heap.update p f, toks := t } := by
  have e : (s.heap.update p f).get? p = some { cls := .type "list", data := .seq its'.toArray n' } := by
    rw [Heap.get?_update_self f ho (by rw [hf] <;> rfl), hf]
  refine I.write (x := p) (e := p) (by rw [h]; trivial) (.inl rfl) (fun b u hb q => (Heap.get?_update_other _ _ (Ne.symm hb)).trans q) ⟨_, e⟩ ?_
  exact ⟨hz, its', n', r, e⟩
def rSetL : V → V → V → Hp → (Hp → Prop) → Prop := fun o i v H Q => ∃ p xs k j, o = .ref p ∧ i = .int k ∧ H p = some (.lst xs) ∧ ixN xs.length k = some j ∧ Q (upd H p (.lst (xs.set j v)))
theorem set_list : PSet X rSetL := by
  intro pins s σ H o i v ov iv u Q I ro ri rv h
  obtain ⟨p, xs, k, j, rfl, rfl, hp, hj, q⟩ := h
  cases ro
  obtain ⟨t, rfl⟩ := ri
  obtain ⟨its, n, r, ho, hz⟩ := I.lst hp
  obtain ⟨h1, h2, h3, h4⟩ := ixN_seq hj
  have hl := r.length
  have hn := line63
  have I' : Inv X pins σ (upd H p (.lst (xs.set j v))) { s with heap := s.heap.update p (Obj.mapSeq (·.setIfInBounds j u)) } :=
    I.lstUpd hp ho (mapSeq_set its n j u) (r.set rv j) (by rw [List.length_set]; exact hz) s.toks
  by_cases h0 : 0 ≤ k
  · have hk : k.toNat = j := by
      rw [seqIndex_of h0 h4] at h1
      exact Option.some.inj h1
    exact PySem.W.ki_setAt ho h0 (by omega) (by rw [List.size_toArray, ← hl]; exact h4) (by rw [hk]; exact ⟨_, I', q⟩)
  · have hk : (k + (its.toArray.size : Int)).toNat = j := by
      rw [seqIndex_neg (by omega) h3] at h1
      rw [List.size_toArray, ← hl]
      exact Option.some.inj h1
    exact PySem.W.ki_setBack ho (by omega) (by rw [List.size_toArray, ← hl]; exact h3) (by omega) (by rw [hk]; exact ⟨_, I', q⟩)
theorem slice_bounds (lo hi : Option Int) (n : Nat) : (sliceBounds lo hi none n).1 = ((HT.sIx n 0 lo : Nat) : Int) ∧ (sliceBounds lo hi none n).2.1 = ((HT.sIx n n hi : Nat) : Int) ∧ (sliceBounds lo hi none n).2.2 = 1 := by
  refine ⟨?_, ?_, rfl⟩
  · cases lo with
    | none => simp [sliceBounds, HT.sIx]
    | some i =>
      simp only [sliceBounds, HT.sIx, Option.getD_none, show (1 : Int) > 0 by decide, if_true]
      by_cases h : i < 0
      · simp only [h, if_true] <;> omega
      · simp only [h, if_false] <;> omega
  · cases hi with
    | none => simp [sliceBounds, HT.sIx]
    | some i =>
      simp only [sliceBounds, HT.sIx, Option.getD_none, show (1 : Int) > 0 by decide, if_true]
      by_cases h : i < 0
      · simp only [h, if_true] <;> omega
      · simp only [h, if_false] <;> omega
theorem slicePick_cut (its : List Value) (lo hi : Option Int) : slicePick its.toArray lo hi none = ((its.drop (HT.sIx its.length 0 lo)).take (HT.sIx its.length its.length hi - HT.sIx its.length 0 lo)).toArray := by
  obtain ⟨h1, h2, h3⟩ := slice_bounds lo hi its.toArray.size
  unfold slicePick
  rw [h1, h2, h3]
  simp only [sliceRange_one, pick_run, List.size_toArray] <;> rfl
def rSlL (K : PySem.W.Frag) : V → Option Int → Option Int → Hp → VK → Prop := fun x lo hi H Q => ∃ a xs, x = .ref a ∧ SqL K H a xs ∧ ∀ p, H p = none → Q (.ref p) (upd H p (.lst (cutV xs lo hi)))
theorem sl_list : SlR X (rSlL X.K) := by
  intro pins s σ H x v vl vu lo hi sl Q I rx hs pl pu h
  obtain ⟨a, xs, rfl, hx, q⟩ := h
  cases rx
  obtain ⟨its, r, ht, hz⟩ := I.list hx
  have hlen := r.length
  refine ⟨"list", _, slot_list_getitem.lookup, ht.isList.typeIs, ?_⟩
  refine wpAny_getItem_list_slice ht.isList hs pl pu .none (by simp) ?_ (by rw [List.size_toArray] <;> omega)
  rw [slicePick_cut, ← hlen]
  refine ⟨.ref s.heap.objs.size, _, I.laid (t' := s.toks) (o := .lst (cutV xs lo hi)) (fun b ob q => Heap.get?_push_of_some _ q) (Nat.le_refl _) ?_, rfl, q _ (I.hok.fresh (Nat.le_refl _))⟩
  exact ⟨Nat.le_trans (cutV_length xs lo hi) hz, _, 0, (r.drop (HT.sIx xs.length 0 lo)).take (HT.sIx xs.length xs.length hi - HT.sIx xs.length 0 lo), Heap.get?_push_size _ rfl⟩
theorem call_len_seq : CallR X (.builtin "len") (fun xs H Q => ∃ p ys, xs = [.ref p] ∧ (SqL X.K H p ys ∨ SqT X.K H p ys) ∧ Q (.int ys.length) H) := by
  intro pins s σ H xs us Q I r h
  obtain ⟨p, ys, rfl, hq, q⟩ := h
  obtain ⟨u, rfl, rx⟩ := vals1 r
  cases rx
  have hn := line63
  rcases hq with hq | hq
  · obtain ⟨its, r', pl, hz⟩ := I.list hq
    have hlen := r'.length
    exact Calls.call_len_list pl.isList (by simp only [List.size_toArray] <;> omega) ⟨.int ys.length, H, I.tok _, ⟨s.toks + 1, by rw [List.size_toArray, hlen]⟩, q⟩
  · obtain ⟨its, r', pl, hz⟩ := I.tuple hq
    have hlen := r'.length
    exact len_tuple pl (by simp only [List.size_toArray] <;> omega) ⟨.int ys.length, H, I.tok _, ⟨s.toks + 1, by rw [List.size_toArray, hlen]⟩, q⟩
theorem call_len_str : CallR X (.builtin "len") (fun xs H Q => ∃ z, xs = [.str z] ∧ z.length ≤ sizeLine ∧ Q (.int z.length) H) := by
  intro pins s σ H xs us Q I r h
  obtain ⟨z, rfl, hz, q⟩ := h
  obtain ⟨u, rfl, t, rfl⟩ := vals1 r
  have hn := line63
  exact len_str (by omega) ⟨.int z.length, H, I.tok _, ⟨_, rfl⟩, q⟩
theorem CallR.or {f : Value} {r r' : List V → Hp → VK → Prop} (h : CallR X f r) (h' : CallR X f r') : CallR X f (fun xs H Q => r xs H Q ∨ r' xs H Q) := by
  intro pins s σ H xs us Q I rs q
  rcases q with q | q
  · exact h pins s σ H xs us Q I rs q
  · exact h' pins s σ H xs us Q I rs q
def tyV (K : PySem.W.Frag) (T : String) (x : V) (H : Hp) : Prop := match x with
  | .str _ => T = "str"
  | .int _ => T = "int"
  | .ref p => (T = "list" ∧ ∃ xs, SqL K H p xs) ∨ (T = "tuple" ∧ ∃ o, K.lookup p = some o ∧ o.cls = .type "tuple" ∧ o.dict = none) ∨
      (T = "dict" ∧ ((∃ kvs, H p = some (.dK kvs)) ∨ ∃ kvs, H p = some (.dT kvs))) ∨ (T = "set" ∧ ∃ S n, H p = some (.set S n))
  | _ => False
theorem tyV_is {pins : List (Addr × Obj)} {σ : St} {H : Hp} {s : Shared} {T : String} {x : V} {v : Value} (I : Inv X pins σ H s) (r : RelV x v) (ty : tyV X.K T x H) :
    s.TypeIs v T ∧ ∀ a, v = .ref a → ∃ ob, s.heap.get? a = some ob ∧ ob.dict = none := by
  cases x with
  | str z =>
    obtain ⟨t, rfl⟩ := r
    cases (show T = "str" from ty)
    exact ⟨typeIs_str s z t, fun _ e => nomatch e⟩
  | int i =>
    obtain ⟨t, rfl⟩ := r
    cases (show T = "int" from ty)
    exact ⟨typeIs_int s i t, fun _ e => nomatch e⟩
  | ref p =>
    cases r
    rcases ty with ⟨rfl, xs, hq⟩ | ⟨rfl, o, hk, hc, hd⟩ | ⟨rfl, hk⟩ | ⟨rfl, S, n, hk⟩
    · obtain ⟨its, _, pl, _⟩ := I.list hq
      refine ⟨pl.isList.typeIs, fun a e => ?_⟩
      cases e
      obtain ⟨o, n, e, c, hd, _⟩ := pl
      exact ⟨o, e, hd⟩
    · refine ⟨⟨o, I.kIn p o hk, hc⟩, fun a e => ?_⟩
      cases e
      exact ⟨o, I.kIn _ o hk, hd⟩
    · have z : ∃ o, s.heap.get? p = some o ∧ o.ExactDict := by
        rcases hk with ⟨kvs, hk⟩ | ⟨kvs, hk⟩
        · obtain ⟨_, _, _, _, o, _, _, e, ex, _⟩ := I.hok p _ hk
          exact ⟨o, e, ex⟩
        · obtain ⟨_, _, _, _, o, _, _, e, ex, _⟩ := I.hok p _ hk
          exact ⟨o, e, ex⟩
      obtain ⟨o, e, ex⟩ := z
      refine ⟨⟨o, e, ex.1⟩, fun a e2 => ?_⟩
      cases e2
      exact ⟨o, e, ex.2.1⟩
    · obtain ⟨o, _, _, _, e, ex, _⟩ := I.hok p _ hk
      refine ⟨⟨o, e, ex.1⟩, fun a e2 => ?_⟩
      cases e2
      exact ⟨o, e, ex.2.1⟩
  | _ => exact False.elim ty
def tBM0 (K : PySem.W.Frag) (T : String) (r : V → List V → Hp → VK → Prop) (to : TE) : TE := fun σ H Q => to σ H fun x H1 => tyV K T x H1 ∧ r x [] H1 Q
def tBM (K : PySem.W.Frag) (T : String) (r : V → List V → Hp → VK → Prop) (to : TE) (t : TA) : TE := fun σ H Q => to σ H fun x H1 => tyV K T x H1 ∧ t σ H1 fun xs H2 => r x xs H2 Q
variable {o e : Expr} {es : List Expr} {to : TE} {t : TA} {name : Str} {apos cpos : Pos} {T id : String} {r : V → List V → Hp → VK → Prop}
theorem pe_bm0 (pa : PlainAttrs T) (slot : Slot T name id) (hty : typeOf (.builtin id) = pure (.type "method_descriptor")) (hm : MtR X id r) (ho : PE X o to)
    (hbase : attributeBase o name X.env (eval o X.env) = eval o X.env := by rfl) (hline : (apos.endLine == cpos.line) = true := by rfl) : PE X (.Call (.Attribute o name apos) [] [] cpos) (tBM0 X.K T r to) := by
  intro pins s σ H Q I h
  refine wpAny_Call_method0_late hbase hline (thn (ho pins s σ H _ I h) fun v s1 ⟨x, H1, I1, r1, ty, q1⟩ => ?_)
  obtain ⟨h1, h2⟩ := tyV_is I1 r1 ty
  exact ⟨T, id, pa, slot, hty, h1, h2, Calls.callWith_builtin rfl (PySem.evalArgs_none (hm pins s1 σ H1 x [] v [] Q I1 r1 .nil q1))⟩
theorem pe_bm (pa : PlainAttrs T) (slot : Slot T name id) (hty : typeOf (.builtin id) = pure (.type "method_descriptor")) (hm : MtR X id r) (ho : PE X o to) (ha : PA X (e :: es) t)
    (hbase : attributeBase o name X.env (eval o X.env) = eval o X.env := by rfl)
    (hfew : ((backTo cpos (starEach (e :: es) X.env)).all (fun x => !x.1) && (backToKw cpos (keywordEach [] X.env)).all (fun x => x.1.isSome)
      && decide ((e :: es).length + ([] : List Keyword).length + (if ([] : List Keyword).isEmpty then 0 else 1) < 30)) = true := by rfl)
    (hline : (apos.endLine == cpos.line) = true := by rfl) (hs : starEach (e :: es) X.env = (false, eval e X.env) :: starEach es X.env := by rfl) (hplain : (backTo cpos (starEach es X.env)).any (·.1) = false := by rfl) :
    PE X (.Call (.Attribute o name apos) (e :: es) [] cpos) (tBM X.K T r to t) := by
  intro pins s σ H Q I h
  refine wpAny_Call_method_late hbase hfew hline rfl (thn (ho pins s σ H _ I h) fun v s1 ⟨x, H1, I1, r1, ty, q1⟩ => ?_)
  obtain ⟨h1, h2⟩ := tyV_is I1 r1 ty
  refine ⟨T, id, pa, slot, hty, h1, h2, ?_⟩
  have hA := ha cpos pins s1 σ H1 _ I1 q1
  rw [hs] at hA ⊢
  refine Calls.callWith_builtin (by show (false || (backTo cpos (starEach es X.env)).any (·.1)) = false; rw [hplain] <;> rfl) (Calls.evalArgs_plain ?_)
  exact thn hA fun us s2 ⟨vs, H2, I2, r2, q2⟩ => hm pins s2 σ H2 x vs v us Q I2 r1 r2 q2
end
end L2
namespace L2
open PySem PySem.Spec PyProof.Rows
def MtM (X : Cx) (id : String) (r : V → List V → Hp → VK → Prop) : Prop :=
  ∀ (pins : List (Addr × Obj)) (s : Shared) (σ : St) (H : Hp) (x : V) (xs : List V) (v : Value) (us : List Value) (Q : VK), Inv X pins σ H s → RelV x v → Vals xs us → r x xs H Q →
    wpAny (model X.prog X.w) X.A (call (.builtin id) (v :: us)) (EP X pins σ Q) X.xe s
theorem Vals.one : ∀ {x : V} {us : List Value}, Vals [x] us → ∃ u, us = [u] ∧ RelV x u
  | _, _, .cons r .nil => ⟨_, rfl, r⟩
theorem Vals.two : ∀ {x y : V} {us : List Value}, Vals [x, y] us → ∃ u v, us = [u, v] ∧ RelV x u ∧ RelV y v
  | _, _, _, .cons r (.cons q .nil) => ⟨_, _, rfl, r, q⟩
theorem Vals.zero : ∀ {us : List Value}, Vals [] us → us = []
  | _, .nil => rfl
theorem Vals.reverse {xs : List V} {us : List Value} (h : Vals xs us) : Vals xs.reverse us.reverse := by
  induction h with
  | nil => exact .nil
  | cons r t ih => rw [List.reverse_cons, List.reverse_cons]; exact Vals.append ih (.cons r .nil)
theorem Vals.rep {xs : List V} {us : List Value} (h : Vals xs us) : ∀ k : Nat, Vals (List.replicate k xs).flatten (List.replicate k us).flatten
  | 0 => .nil
  | k + 1 => by
    rw [List.replicate_succ, List.replicate_succ, List.flatten_cons, List.flatten_cons]
    exact Vals.append h (Vals.rep h k)
theorem foldl_rep (its : List Value) : ∀ (k : Nat) (acc : List Value),
    List.foldl (fun x1 x2 => x1 ++ x2) acc.toArray (List.replicate k its.toArray) = (acc ++ (List.replicate k its).flatten).toArray
  | 0, acc => by simp
  | k + 1, acc => by
    have e : acc.toArray ++ its.toArray = (acc ++ its).toArray := by simp
    have e2 : (acc ++ its) ++ (List.replicate k its).flatten = acc ++ (List.replicate (k + 1) its).flatten := by
      rw [List.replicate_succ, List.flatten_cons, List.append_assoc]
    rw [← e2, ← foldl_rep its k (acc ++ its), ← e, List.replicate_succ, List.foldl_cons]
section
variable {X : Cx} {pins : List (Addr × Obj)} {σ : St} {H : Hp} {s : Shared} {l b : Addr} {xs ys zs : List V}
theorem Inv.lset {its its' : List Value} {n : Nat} {f : Array Value → Array Value} {t' : Nat} (I : Inv X pins σ H s) (hH : H l = some (.lst xs))
    (e : s.heap.get? l = some { cls := .type "list", data := .seq its.toArray n }) (hf : f its.toArray = its'.toArray) (hv : Vals ys its') (hz : ys.length ≤ sizeLine) :
    Inv X pins σ (upd H l (.lst ys)) { s with heap := s.heap.update l (Obj.mapSeq f), toks := t' } := by
  have q := PySem.IsL.update e f
  rw [hf] at q
  refine I.write (x := l) (e := l) (by rw [hH]; exact trivial) (.inl rfl) (fun b' u hb hu => (Heap.get?_update_other s.heap (Obj.mapSeq f) (Ne.symm hb)).trans hu) ⟨_, q⟩ ?_
  exact ⟨hz, its', _, hv, q⟩
theorem Inv.lnew {its : List Value} {t' : Nat} (I : Inv X pins σ H s) (hv : Vals ys its) (hz : ys.length ≤ sizeLine) :
    Inv X pins σ (upd H s.heap.objs.size (.lst ys)) { s with heap := s.heap.push { cls := .type "list", data := .seq its.toArray }, toks := t' } :=
  I.laid (fun _ _ q => Heap.get?_push_of_some _ q) (Nat.le_refl _) ⟨hz, its, 0, hv, Heap.get?_push_size _ rfl⟩
theorem Inv.fresh (I : Inv X pins σ H s) : H s.heap.objs.size = none := I.hok.fresh (Nat.le_refl _)
theorem Inv.lstM (I : Inv X pins σ H s) (hH : H l = some (.lst xs)) : xs.length ≤ sizeLine ∧ ∃ (its : List Value) (n : Nat), Vals xs its ∧ xs.length = its.length ∧ s.heap.get? l = some { cls := .type "list", data := .seq its.toArray n } := by
  obtain ⟨z, its, n, r, e⟩ := I.hok l _ hH
  exact ⟨z, its, n, r, r.length, e⟩
theorem notLongL {n : Nat} (h : n ≤ sizeLine) : Builtin.List.listTooLong n = false := by
  unfold Builtin.List.listTooLong
  exact decide_eq_false (by omega)
end
section
variable {X : Cx}
def rAppend : V → List V → Hp → VK → Prop := fun x vs H Q => ∃ l xs y, x = .ref l ∧ vs = [y] ∧ H l = some (.lst xs) ∧ xs.length < sizeLine ∧ Q .non (upd H l (.lst (xs ++ [y])))
theorem mt_append : MtM X "list.append" rAppend := by
  intro pins s σ H x vs v us Q I rx rv h
  obtain ⟨l, xs, y, rfl, rfl, hH, hz, q⟩ := h
  cases rx
  obtain ⟨u, rfl, ru⟩ := rv.one
  obtain ⟨z, its, n, r, hl, e⟩ := I.lstM hH
  refine call_meets F.slot_list_append ⟨_, e, rfl⟩ F.entry_list_append (F.args_list_append_2 _ _) (PySem.list_append l its.toArray n u (by rw [List.size_toArray]; omega)) ⟨e, ?_⟩
  refine ⟨.non, _, I.lset (its' := its ++ [u]) hH e (by simp) (r.append (.cons ru .nil)) ?_, rfl, q⟩
  rw [List.length_append, List.length_singleton]
  omega
def rExtend : V → List V → Hp → VK → Prop := fun x vs H Q => ∃ l b xs zs, x = .ref l ∧ vs = [.ref b] ∧ H l = some (.lst xs) ∧ H b = some (.lst zs) ∧ xs.length + zs.length ≤ sizeLine ∧ Q .non (upd H l (.lst (xs ++ zs)))
theorem mt_extend : MtM X "list.extend" rExtend := by
  intro pins s σ H x vs v us Q I rx rv h
  obtain ⟨l, b, xs, zs, rfl, rfl, hH, hB, hz, q⟩ := h
  cases rx
  obtain ⟨u, rfl, ru⟩ := rv.one
  cases ru
  obtain ⟨z, its, n, r, hl, e⟩ := I.lstM hH
  obtain ⟨z2, its2, n2, r2, hl2, e2⟩ := I.lstM hB
  have hsz : its.toArray.size + its2.toArray.size ≤ sizeLine := by rw [List.size_toArray, List.size_toArray]; omega
  have hlong : ¬ (!its.toArray.isEmpty && Builtin.List.listTooLong (its.toArray.size + its2.toArray.size)) = true := by
    rw [notLongL hsz, Bool.and_false]
    exact Bool.false_ne_true
  refine call_meets F.slot_list_extend ⟨_, e, rfl⟩ F.entry_list_extend (F.args_list_extend_2 _ _)
    (AutoSeq1.list_extend_list_list_0 l its.toArray n b its2.toArray n2 hlong (by rw [List.size_toArray]; omega) (by omega)) ⟨e, e2, ?_⟩
  refine ⟨.non, _, I.lset (its' := its ++ its2) hH e (by simp) (r.append r2) ?_, rfl, q⟩
  rw [List.length_append]
  omega
def rCat : R2 := fun x y H Q => ∃ l b xs zs, x = .ref l ∧ y = .ref b ∧ H l = some (.lst xs) ∧ H b = some (.lst zs) ∧ xs.length + zs.length ≤ sizeLine ∧ ∀ p, H p = none → Q (.ref p) (upd H p (.lst (xs ++ zs)))
theorem op_cat : OpR X (binaryOp .Add) rCat := by
  intro pins s σ H x y v u Q I rx ry h
  obtain ⟨l, b, xs, zs, rfl, rfl, hH, hB, hz, q⟩ := h
  cases rx
  cases ry
  obtain ⟨z, its, n, r, hl, e⟩ := I.lstM hH
  obtain ⟨z2, its2, n2, r2, hl2, e2⟩ := I.lstM hB
  refine PySem.P.add_list e e2 ?_ (by rw [List.size_toArray, List.size_toArray]; omega)
  have ea : its.toArray ++ its2.toArray = (its ++ its2).toArray := by simp
  rw [ea]
  exact ⟨.ref _, _, I.lnew (t' := s.toks) (r.append r2) (by rw [List.length_append]; omega), rfl, q _ I.fresh⟩
def rRep : R2 := fun x y H Q => ∃ l k xs, x = .ref l ∧ y = .int k ∧ H l = some (.lst xs) ∧ -(2 ^ 63) ≤ k ∧ k < 2 ^ 63 ∧ xs.length * k.toNat ≤ sizeLine ∧
  ∀ p, H p = none → Q (.ref p) (upd H p (.lst (List.replicate k.toNat xs).flatten))
theorem len_rep {α : Type} (xs : List α) (k : Nat) : (List.replicate k xs).flatten.length = k * xs.length := by
  induction k with
  | zero => simp
  | succ k ih => rw [List.replicate_succ, List.flatten_cons, List.length_append, ih, Nat.succ_mul, Nat.add_comm]
theorem op_rep : OpR X (binaryOp .Mult) rRep := by
  intro pins s σ H x y v u Q I rx ry h
  obtain ⟨l, k, xs, rfl, rfl, hH, h1, h2, hz, q⟩ := h
  cases rx
  obtain ⟨t, rfl⟩ := ry
  obtain ⟨z, its, n, r, hl, e⟩ := I.lstM hH
  have hlen : its.toArray.size * k.toNat ≤ sizeLine := by rw [List.size_toArray, ← hl]; exact hz
  have hcap : ¬ its.toArray.size * k.toNat > (2 ^ 63 - 1) / 8 := by
    have : (sizeLine : Nat) ≤ (2 ^ 63 - 1) / 8 := by decide
    omega
  have hfit : ¬ (!Builtin.List.listFitsIndex k) = true := by
    rw [fitsIndex_both h1 h2]
    exact Bool.false_ne_true
  have hlong : ¬ Builtin.List.listTooLong (its.toArray.size * k.toNat) = true := by
    rw [notLongL hlen]
    exact Bool.false_ne_true
  have hnew : List.foldl (fun x1 x2 => x1 ++ x2) #[] (List.replicate (if its.toArray.isEmpty = true then 0 else k.toNat) its.toArray) = (List.replicate k.toNat its).flatten.toArray := by
    have f0 : ∀ m : Nat, List.foldl (fun x1 x2 => x1 ++ x2) #[] (List.replicate m its.toArray) = (List.replicate m its).flatten.toArray := fun m => by
      have := foldl_rep its m []
      rw [List.nil_append] at this
      exact this
    rw [f0]
    cases its with
    | nil => simp
    | cons a r' => rw [if_neg (by simp)]
  refine wpAny_binaryOp_repeat_ref (T := "list") (U := "int") (by decide) ⟨_, e, rfl⟩ (fun s' => typeIs_int s' k t) noFill_list_mul F.fills_int_mul F.slot_int_rmul repeat_list F.slot_int_index.lookup
    (call_meets F.slot_int_rmul (typeIs_int s k t) F.entry_int_rmul (F.args_int_rmul_2 _ _) (int___rmul___int_list k t l its.toArray n)
      ⟨e, rfl, ⟨_, e, rfl⟩, call_meets F.slot_list_mul ⟨_, e, rfl⟩ F.entry_list_mul (F.args_list_mul_2 _ _) (AutoListH.list___mul___list_int_3 l its.toArray n k t hfit hcap hlong) ⟨e, ?_⟩⟩)
  rw [hnew]
  exact ⟨.ref _, _, I.lnew (t' := s.toks) (r.rep k.toNat) (by rw [len_rep, Nat.mul_comm]; exact hz), rfl, q _ I.fresh⟩
end
section
variable {prog : Program} {w : World} {A : Around} {E : Value → Shared → Prop} {s : Shared}
end
section
variable {X : Cx}
end
end L2
namespace Att
open PySem PySem.W PySem.Calls PyProof.Rows
theorem ints_of_wellAll {P : Params} {h : Heap} : ∀ (ns : List Int) (vs : List Value), WellAll P h vs (ns.map WData.int) → IntsAre vs ns := by
  intro ns
  induction ns with
  | nil =>
    intro vs w
    rw [List.map_nil] at w
    cases w
    exact .nil
  | cons n ns ih =>
    intro vs w
    rw [List.map_cons] at w
    cases w with
    | cons a b =>
      cases a
      exact .cons _ _ (ih _ b)
theorem script_of {l : OpenLaw} {n : Nat} (hn : l.most = some n) {P : Params} {h : Heap} {args : List WData} {vals : List Value}
    (hpre : l.row.toRowW.claim.pre args = true) (hwl : WellAll P h vals args) :
    ∃ a vs ns, vals = [Value.ref a] ∧ args = [WData.list (ns.map WData.int)] ∧ h.get? a = some { cls := .type "list", data := .seq vs.toArray } ∧ IntsAre vs ns ∧ ns.length ≤ n := by
  have hsh : WShape.hasAll [] args [.list .int] = true := (pre_splitW hpre).1
  have hc : l.pre.holds [] { args := args } = true := (pre_splitW hpre).2
  obtain ⟨d, r, rfl, h1, h2⟩ := hasAllW_cons hsh
  obtain rfl := hasAllW_nil h2
  obtain ⟨xs, rfl, h3⟩ := hasW_list h1
  obtain ⟨ns, rfl⟩ := items_int h3
  have hlen : ns.length ≤ n := by
    unfold OpenLaw.pre at hc
    have h4 : (WTm.not (.lt (.lit (.int (n : Int))) (.len (.arg 0)))).holds [] { args := [.list (ns.map .int)] } = true := by
      have h4 := (holds_andW hc).1
      rw [hn] at h4
      exact h4
    have h5 := condW_of h4 (w_not (w_lt w_lit (w_len_list (w_arg rfl))))
    rw [List.length_map] at h5
    refine Nat.le_of_not_lt fun q => ?_
    have q' : (n : Int) < ((ns.length : Nat) : Int) := by omega
    first
      | (rw [decide_eq_true q'] at h5; exact absurd h5 (by decide))
      | (simp at h5; omega)
  cases hwl with
  | cons w1 w2 =>
    cases w2
    cases w1 with
    | list ho hall => exact ⟨_, _, ns, rfl, rfl, ho, ints_of_wellAll ns _ hall, hlen⟩
theorem post_true (l : OpenLaw) (args : List WData) : l.row.toRowW.claim.post args (.bool true) args = true :=
  postW_of (r := l.row.toRowW) (X := (true == true))
    (show WShape.has [] (.bool true) .bool = true by first | rfl | decide | simp [WShape.has, WShape.arms, WShape.armsAll])
    (show (WTm.eq .res (.lit (.bool true))).value [] { args := args, res := some (.bool true), after := args } = some (.bool (true == true)) from w_eq_bool (w_res rfl) w_lit) rfl
theorem attach_call {l : OpenLaw} {n : Nat} {q : Program} {loose : List Str} {XP : (Str → Option Value) → Heap → Prop} {YP : World → Heap → Prop} {d : DefRec}
    (hn : l.most = some n) (hdf : d.params.defaults = [])
    (call : ∀ (w : World) (s₀ s₁ : Shared) (mg mb : Str → Option Value) (fa : Addr) (o : Obj) (pm cd doc : Value) (a : Addr) (vs : List Value) (ns : List Int),
      Ground q loose [] XP w s₀ mg mb s₁.heap → YP w s₁.heap →
      s₁.heap.get? fa = some o → o.data = .func (docDef d.name d.params d.body d.scope pm cd doc) → s₁.heap.CodeRec cd d.name → mg d.name = some (.ref fa) →
      s₁.heap.get? a = some { cls := .type "list", data := .seq vs.toArray } → IntsAre vs ns → ns.length ≤ n → s₁.gens = #[] →
      codeAny (model l.prog w) callerA (.call (.ref fa) ⟨[.ref a], []⟩) (fun r s' => r = .ok (.ret (.bool true)) ∧ OldK s₁.heap s'.heap ∧ s'.os = s₁.os ∧ AllBare s'.gens) s₁) :
    WalkO q loose XP YP l.row.toRowW d [] (fun f vs => PySem.call f vs) := by
  intro w s₀ s₁ mg mb G Y fa o pm cd doc dV kV ho hd hcd hD hmg hg args vals as hpre hlay hrd hwl hlo
  obtain rfl : dV = .none := Dflts.none hD hdf
  obtain rfl : kV = .none := Dflts.noKw hD
  obtain ⟨a, vs, ns, rfl, rfl, hobj, hints, hlen⟩ := script_of hn hpre hwl
  refine enter_call (codeAny_mono (call w s₀ s₁ mg mb fa o pm cd doc a vs ns G Y ho (fd_plain hd) hcd hmg hobj hints hlen hg) fun r s' hq => ?_)
  obtain ⟨rfl, h2, h3, h4⟩ := hq
  exact ⟨.inl ⟨.bool true, .bool true, [], rfl, fun _ => rfl, .bool true, post_true l _, fun _ => ⟨List.Pairwise.nil, fun _ hm => (nomatch hm)⟩⟩, h2, h3, h4⟩
section
variable {prog : Program} {w : World} {A : Around} {E : Value → Shared → Prop} {s : Shared} {K : Frag}
def ledger (h : Heap) (L d : Addr) : List (Addr × Obj) := (List.range h.objs.size).filterMap fun a => if a = L ∨ a = d then none else (h.get? a).map fun o => (a, o)
end
end Att
namespace L2
open PySem PySem.Spec PyProof.Rows
theorem vals_ints : ∀ {vs : List Value} {ns : List Int}, IntsAre vs ns → Vals (ns.map V.int) vs
  | _, _, .nil => .nil
  | _, _, .cons n t h => .cons ⟨t, rfl⟩ (vals_ints h)
def Only (H : Hp) : Prop := ∀ b, H b = none ∨ ∃ o xs, H b = some (.frz o (.lst xs))
theorem law_call {P : Program} {w : World} {K : PySem.W.Frag} {mg mb : Str → Option Value} {CX : CXT} {k : Nat} {fa a : Addr} {fd : FuncData} {x : Str} {sp : Sp} {s₁ : Shared} {vs : List Value} {ns : List Int}
    (KX : K.In s₁.heap) (hns : s₁.heap.Ns mainGlobals mg) (hb : s₁.heap.Ns builtinsNs mb) (hbb : ∀ x : Str, x ≠ "__name__" → mb x = bootBuiltins x) (hlim : s₁.heap.NoLimit) (hg : s₁.gens = #[])
    (ha : s₁.heap.get? a = some { cls := .type "list", data := .seq vs.toArray }) (hi : IntsAre vs ns) (hl : ns.length ≤ sizeLine) (hr : Room k callerA)
    (F : ∀ base : Heap, K.In base → base.Ns mainGlobals mg → FnOk P w K mg base CX k fa fd [x] sp) (hbind : ∀ (s : Shared) (u : Value), BindsTo s fd ⟨[u], []⟩ [(x, u)])
    (hsp : ∀ H : Hp, Only H → SqL K H a (ns.map V.int) → sp [.ref a] H (fun v _ => v = .bl true) fun _ _ _ => False)
    (hCX : ∀ H e s', CX [] H s₁ (fun _ _ _ => False) e s' → False) :
    codeAny (model P w) callerA (.call (.ref fa) ⟨[.ref a], []⟩) (fun r s' => r = .ok (.ret (.bool true)) ∧ OldK s₁.heap s'.heap ∧ s'.os = s₁.os ∧ AllBare s'.gens) s₁ := by
  have rv := vals_ints hi
  have lenV := hi.length
  have core : ∀ H : Hp, Only H → SqL K H a (ns.map V.int) → HOk P w H s₁.heap → (∀ b, H b ≠ none → b = a) → (H a ≠ none → K.lookup a = none) →
      codeAny (model P w) callerA (.call (.ref fa) ⟨[.ref a], []⟩) (fun r s' => r = .ok (.ret (.bool true)) ∧ OldK s₁.heap s'.heap ∧ s'.os = s₁.os ∧ AllBare s'.gens) s₁ := by
    intro H hO hS hok hA hK
    have base_of : ∀ {b : Addr} {o : Obj}, s₁.heap.get? b = some o → H b = none → (hidT s₁.heap H).get? b = some o := fun e n => hidT_get e n
    have noA : ∀ {b : Addr} {o : Obj} {es : Array DictEntry} {ep : Nat}, s₁.heap.get? b = some o → o.data = .dict es ep → H b = none := fun {b o es ep} e d => by
      cases q : H b with
      | none => rfl
      | some u =>
        have e' : b = a := hA b (by rw [q]; simp)
        subst e'
        rw [ha] at e; cases e
        have d' : Data.seq vs.toArray _ = Data.dict es ep := d
        cases d'
    have nsK : ∀ {b : Addr} {m : Str → Option Value}, s₁.heap.Ns b m → (hidT s₁.heap H).Ns b m := fun {b m} ⟨o, es, ep, e, d, r⟩ => ⟨o, es, ep, base_of e (noA e d), d, r⟩
    have hKb : K.In (hidT s₁.heap H) := fun b o e => base_of (KX b o e) (by
      cases q : H b with
      | none => rfl
      | some u =>
        have e' : b = a := hA b (by rw [q]; simp)
        subst e'
        rw [hK (by rw [q]; simp)] at e; cases e)
    have hM : Mod K mg (hidT s₁.heap H) := ⟨hKb, nsK hns, ⟨mb, nsK hb, hbb⟩, let ⟨mc, h1, h2⟩ := hlim; ⟨mc, nsK h1, h2⟩⟩
    have e0 : Env0 P w K mg (hidT s₁.heap H) callerA [] s₁ H := ⟨rfl, hM, fun b o e => of_hidT e, Nat.le_of_eq (hidT_size _ _), trivial, fun b hb => absurd (show b ∈ ([] : List Addr) from hb) (by simp), hok, .of_eq hg⟩
    refine codeAny_mono ((F _ hKb (nsK hns)).run callerA [] s₁ H ⟨[.ref a], []⟩ [.ref a] [.ref a] _ _ hr e0 (hbind s₁ (.ref a)) (.cons rfl .nil) (hsp H hO hS)) fun r s' h => ?_
    cases r with
    | error e => exact (hCX H e s' h).elim
    | ok fl =>
      cases fl with
      | next => exact False.elim h
      | brk => exact False.elim h
      | cont => exact False.elim h
      | ret u =>
        obtain ⟨v, H', os, bare, un, hok', r', q⟩ := h
        have q' : v = .bl true := q
        subst q'
        obtain rfl : u = Value.bool true := r'
        refine ⟨rfl, OldK.of_keep fun b o e => ?_, os, bare⟩
        cases q : H b with
        | none => exact un.keep b o e q (by intro z; exact absurd (show b ∈ ([] : List Addr) from z) (by simp)) (by simp)
        | some u =>
          rcases hO b with z | ⟨ob, xs, z⟩
          · rw [q] at z; cases z
          · have z2 := un.frzs b ob _ z
            obtain ⟨e1, _⟩ := hok b _ z
            obtain ⟨e2, _⟩ := hok' b _ z2
            rw [e] at e1; cases e1
            exact e2
  cases hk : K.lookup a with
  | some o =>
    have e := KX a o hk
    rw [ha] at e
    cases e
    refine core (fun _ => none) (fun _ => .inl rfl) (.inr ⟨_, vs.toArray, _, hk, rfl, rfl, rfl, by rw [List.size_toArray, lenV]; exact hl, by simpa using rv⟩) (fun b u z => by have z' : (none : Option HO) = some u := z; cases z') (fun b z => absurd rfl z) fun z => absurd rfl z
  | none =>
    refine core (fun b => if b = a then some (.frz { cls := .type "list", data := .seq vs.toArray } (.lst (ns.map V.int))) else none) (fun b => ?_) (.inl (.inr ⟨{ cls := .type "list", data := .seq vs.toArray }, if_pos rfl⟩)) (fun b u z => ?_) (fun b z => ?_) fun _ => hk
    · by_cases hb : b = a
      · exact .inr ⟨_, _, if_pos hb⟩
      · exact .inl (if_neg hb)
    · by_cases hb : b = a
      · have z' := (if_pos hb).symm.trans z
        cases z'
        subst hb
        exact ⟨ha, by rw [List.length_map]; exact hl, vs, _, rv, ha⟩
      · have z' := (if_neg hb).symm.trans z
        cases z'
    · by_cases hb : b = a
      · exact hb
      · exact absurd (if_neg hb) z
end L2
namespace L2
open PySem PySem.Spec PyProof.Rows
abbrev KOf {K : PySem.W.Frag} {h : Heap} (_ : K.In h) : PySem.W.Frag := K
theorem walk_of {l : PySem.W.OpenLaw} {n k : Nat} {q : Program} {loose : List Str} {XP : (Str → Option Value) → Heap → Prop} {YP : World → Heap → Prop} {d : DefRec} {K : Params → PySem.W.Frag} {CX : World → CXT} {sp : World → Sp} {x : Str}
    (hn : l.most = some n) (hn2 : n ≤ sizeLine) (hdf : d.params.defaults = []) (hr : Room k callerA)
    (hY : ∀ (w : World) (h : Heap), YP w h → (K w.params).In h)
    (F : ∀ (w : World) (mg : Str → Option Value) (fa : Addr) (h : Heap), (K w.params).In h → h.Ns mainGlobals mg → mg d.name = some (.ref fa) →
      ∃ fd : FuncData, (∀ (s : Shared) (u : Value), BindsTo s fd ⟨[u], []⟩ [(x, u)]) ∧
        ∀ base : Heap, (K w.params).In base → base.Ns mainGlobals mg → FnOk l.prog w (K w.params) mg base (CX w) k fa fd [x] (sp w))
    (hsp : ∀ (w : World) (H : Hp) (a : Addr) (ns : List Int), ns.length ≤ n → Only H → SqL (K w.params) H a (ns.map V.int) → sp w [.ref a] H (fun v _ => v = .bl true) fun _ _ _ => False)
    (hCX : ∀ (w : World) (H : Hp) (s : Shared) (e : Value) (s' : Shared), CX w [] H s (fun _ _ _ => False) e s' → False) :
    PySem.W.WalkO q loose XP YP l.row.toRowW d [] (fun f vs => PySem.call f vs) := by
  refine Att.attach_call hn hdf fun w s₀ s₁ mg mb fa o pm cd doc a vs ns G Y ho hd hcd hmg hobj hints hlen hg => ?_
  have KX := hY w _ Y
  obtain ⟨fd, hb, hF⟩ := F w mg fa _ KX G.T.g hmg
  exact law_call KX G.T.g G.T.b G.T.builtins G.T.nolimit hg hobj hints (Nat.le_trans hlen hn2) hr hF hb (fun H hO hS => hsp w H a ns hlen hO hS) fun H e s' => hCX w H s₁ e s'
end L2
namespace L2
open PySem PySem.Spec PyProof.Rows
def defArgs (s : Stmt) : Arguments := match s with
  | .FunctionDef _ a _ _ _ _ _ _ _ _ => a
  | _ => { posonlyargs := [], args := [], vararg := none, kwonlyargs := [], kw_defaults := [], kwarg := none, defaults := [] }
def defBody (s : Stmt) : List Stmt := match s with
  | .FunctionDef _ _ b _ _ _ _ _ _ _ => b
  | _ => []
def defScope (s : Stmt) : Scope := match s with
  | .FunctionDef _ _ _ _ _ _ sc _ _ _ => sc
  | _ => { kind := .function, names := [], isGenerator := false, isCoroutine := false }
abbrev CX0 : CXT := fun _ _ _ _ _ _ => False
abbrev E0 : XK := fun _ _ _ => False
theorem pass0 {X : Cx} : Passes CX0 X E0 := fun _ _ _ _ _ _ _ h => h.elim
structure Fun (K : PySem.W.Frag) (x qual : Str) (st : Stmt) (f : Addr) (fd : FuncData) : Prop where
  ex : ∃ (oc : Value) (od : Option Addr) (kV doc pm : Value) (an : Option Addr) (cdv ct : Value) (osl : Array (Option Value)),
    fd = PySem.W.fnOf x qual (defArgs st) (defBody st) (defScope st) .none kV doc pm an cdv ct ∧ K.lookup f = some ⟨oc, od, .func fd, osl⟩ ∧ PySem.W.codeIn K cdv qual = true
  kp : PySem.W.keepIn K (.ref f) = true
section
variable {P : Program} {w : World} {K : PySem.W.Frag} {mg : Str → Option Value} {base : Heap}
theorem Fun.ok {x qual : Str} {st : Stmt} {f : Addr} {fd : FuncData} {N ps : List Str} {k : Nat} {sp : Sp} (F : Fun K x qual st f fd) (S : FnScope N ps (defScope st)) (len : ∀ vs H Q E, sp vs H Q E → vs.length = ps.length)
    (hbody : ∀ (cdv : Value) (A : Around) (outer : List Env) (s : Shared) (H : Hp) (vs : List V) (Q : VK) (E : XK), Room k (A.deeper (envOfC qual (defScope st) s.heap.objs.size f cdv)) → sp vs H Q E →
      ∃ t, PSs (cxOf CX0 P w K mg base N qual (defScope st) f cdv A outer s H E).nox (defBody st) t ∧ t { nx := fun _ H' => Q .non H', rt := Q } (start N vs) H) : FnOk P w K mg base CX0 (k + 1) f fd ps sp := by
  obtain ⟨oc, od, kV, doc, pm, an, cdv, ct, osl, rfl, lk, hcd⟩ := F.ex
  refine fn_of lk hcd S len fun A outer s H vs Q E hr hsp => ?_
  obtain ⟨t, h, q⟩ := hbody cdv A outer s H vs Q E hr hsp
  exact ⟨t, h.nox, q⟩
theorem Fun.binds {x qual : Str} {st : Stmt} {f : Addr} {fd : FuncData} {ps : List Str} (F : Fun K x qual st f fd)
    (h : ∀ (kV doc pm : Value) (an : Option Addr) (cdv ct : Value) (us : List Value), us.length = ps.length → bindArgs (PySem.W.fnOf x qual (defArgs st) (defBody st) (defScope st) .none kV doc pm an cdv ct) ⟨us, []⟩ = pure (ps.zip us)) : Binds K fd ps [] := by
  obtain ⟨oc, od, kV, doc, pm, an, cdv, ct, osl, rfl, lk, hcd⟩ := F.ex
  exact .all (h kV doc pm an cdv ct)
theorem fun_mk {x qual : Str} {st : Stmt} {f : Addr} {oc : Value} {od an : Option Addr} {osl : Array (Option Value)} {kV doc pm cdv ct : Value} (l : K.lookup f = some ⟨oc, od, .func (PySem.W.fnOf x qual (defArgs st) (defBody st) (defScope st) .none kV doc pm an cdv ct), osl⟩)
    (c : PySem.W.codeIn K cdv qual = true) (k : PySem.W.keepIn K (.ref f) = true) : Fun K x qual st f (PySem.W.fnOf x qual (defArgs st) (defBody st) (defScope st) .none kV doc pm an cdv ct) := ⟨⟨oc, od, kV, doc, pm, an, cdv, ct, osl, rfl, l, c⟩, k⟩
end
theorem small1000 {n : Nat} (h : n ≤ 1000) : n < sizeLine := Nat.lt_of_le_of_lt h (by decide)
section
variable {X : Cx}
theorem pv (i : Nat) {x : Str} {pos : Pos} (hN : X.N[i]? = some x := by rfl) (hv : Vis X.env.scope x := by first | exact Or.inl rfl | exact Or.inr (Or.inl rfl) | exact Or.inr (Or.inr rfl)) (hd : (x == ("__debug__" : Str)) = false := by decide)
    (hcd : (x == ("__classdict__" : Str)) = false := by decide) : PE X (.Name x pos) (tVar i) := pe_var hN hv hd hcd
end
def Same (H H' : Hp) : Prop := ∀ b o, H b = some o → H' b = some o
theorem Same.refl (H : Hp) : Same H H := fun _ _ h => h
theorem Same.trans {H H1 H2 : Hp} (a : Same H H1) (b : Same H1 H2) : Same H H2 := fun c o h => b c o (a c o h)
theorem Same.free {H H' : Hp} (e : Same H H') {l : Addr} (h : H' l = Option.none) : H l = Option.none := by
  cases q : H l with
  | none => rfl
  | some o =>
    rw [e l o q] at h
    cases h
theorem Same.seq {K : PySem.W.Frag} {H H' : Hp} {a : Addr} {xs : List V} (e : Same H H') (h : SqL K H a xs) : SqL K H' a xs := by
  rcases h with (h | ⟨o, h⟩) | h
  · exact .inl (.inl (e _ _ h))
  · exact .inl (.inr ⟨o, e _ _ h⟩)
  · exact .inr h
end L2
set_option Elab.async false
set_option linter.all false
set_option maxRecDepth 100000
namespace FD
open PySem PySem.Spec PyProof.Rows L2
abbrev St := L2.St
inductive D where
  | non | bl (b : Bool) | int (i : Int) | str (x : Str) | lst (xs : List D) | tup (xs : List D) | scr (ns : List Int) | raw (v : V) | exc (c : Str)
inductive Rs (α : Type) where
  | ok (a : α) | ex (c : Str) | no
def Rs.bind {α β : Type} (r : Rs α) (k : α → Rs β) : Rs β := match r with
  | .ok a => k a
  | .ex c => .ex c
  | .no => .no
@[simp] theorem Rs.bind_ok {α β : Type} (a : α) (k : α → Rs β) : (Rs.ok a).bind k = k a := rfl
def excIs (K : PySem.W.Frag) (a : Addr) (c : Str) : Heap → Prop := fun h => ∃ oe cls vs, h.get? a = some oe ∧ oe.cls = cls ∧ oe.dict = none ∧ oe.data = .fields vs ∧ PySem.W.nsIn K mainGlobals c = some (some cls)
section
variable (K : PySem.W.Frag)
mutual
def Rep (F : Hp) : D → V → Prop
  | .non, v => v = .non
  | .bl b, v => v = .bl b
  | .int i, v => v = .int i
  | .str x, v => v = .str x
  | .lst ds, v => ∃ a vs, v = .ref a ∧ F a = some (.lst vs) ∧ Reps F ds vs
  | .scr ns, v => ∃ a, v = .ref a ∧ SqL K F a (ns.map V.int)
  | .tup ds, v => ∃ a vs, v = .ref a ∧ SqT K F a vs ∧ Reps F ds vs
  | .raw u, v => v = u
  | .exc c, v => ∃ a, v = .ref a ∧ F a = some (.ext (excIs K a c))
def Reps (F : Hp) : List D → List V → Prop
  | [], vs => vs = []
  | d :: ds, vs => ∃ v r, vs = v :: r ∧ Rep F d v ∧ Reps F ds r
end
end
theorem Same.refl (H : Hp) : Same H H := fun _ _ h => h
theorem Same.seqT {K : PySem.W.Frag} {H H' : Hp} {a : Addr} {xs : List V} (e : Same H H') (h : SqT K H a xs) : SqT K H' a xs := by
  rcases h with (h | ⟨o, h⟩) | h
  · exact .inl (.inl (e _ _ h))
  · exact .inl (.inr ⟨o, e _ _ h⟩)
  · exact .inr h
section
variable {K : PySem.W.Frag} {F F' : Hp}
mutual
theorem Rep.mono (h : Same F F') : ∀ {d : D} {v : V}, Rep K F d v → Rep K F' d v
  | .non, _, r => by simpa only [Rep] using r
  | .bl _, _, r => by simpa only [Rep] using r
  | .int _, _, r => by simpa only [Rep] using r
  | .str _, _, r => by simpa only [Rep] using r
  | .raw _, _, r => by simpa only [Rep] using r
  | .exc c, v, r => by
    simp only [Rep] at r ⊢
    obtain ⟨a, e, q⟩ := r
    exact ⟨a, e, h _ _ q⟩
  | .lst ds, v, r => by
    simp only [Rep] at r ⊢
    obtain ⟨a, vs, e, q, t⟩ := r
    exact ⟨a, vs, e, h _ _ q, Reps.mono h t⟩
  | .scr ns, v, r => by
    simp only [Rep] at r ⊢
    obtain ⟨a, e, q⟩ := r
    exact ⟨a, e, h.seq q⟩
  | .tup ds, v, r => by
    simp only [Rep] at r ⊢
    obtain ⟨a, vs, e, q, t⟩ := r
    exact ⟨a, vs, e, Same.seqT h q, Reps.mono h t⟩
theorem Reps.mono (h : Same F F') : ∀ {ds : List D} {vs : List V}, Reps K F ds vs → Reps K F' ds vs
  | [], _, r => by simpa only [Reps] using r
  | d :: ds, vs, r => by
    simp only [Reps] at r ⊢
    obtain ⟨v, r', e, q, t⟩ := r
    exact ⟨v, r', e, Rep.mono h q, Reps.mono h t⟩
end
theorem Reps.length : ∀ {ds : List D} {vs : List V}, Reps K F ds vs → ds.length = vs.length
  | [], _, r => by simp only [Reps] at r; subst r; rfl
  | d :: ds, _, r => by
    simp only [Reps] at r
    obtain ⟨v, r', rfl, _, t⟩ := r
    simp [Reps.length t]
theorem Reps.get : ∀ {ds : List D} {vs : List V} {i : Nat} {d : D}, Reps K F ds vs → ds[i]? = some d → ∃ v, vs[i]? = some v ∧ Rep K F d v
  | [], _, _, _, _, e => by simp at e
  | d :: ds, _, 0, _, r, e => by
    simp only [Reps] at r
    obtain ⟨v, r', rfl, q, t⟩ := r
    simp at e; subst e
    exact ⟨v, rfl, q⟩
  | d :: ds, _, i + 1, _, r, e => by
    simp only [Reps] at r
    obtain ⟨v, r', rfl, q, t⟩ := r
    obtain ⟨w, h1, h2⟩ := Reps.get (i := i) t (by simpa using e)
    exact ⟨w, by simpa using h1, h2⟩
theorem Reps.nil : Reps K F [] [] := by simp only [Reps]
theorem Reps.cons {d : D} {v : V} {ds : List D} {vs : List V} (h : Rep K F d v) (t : Reps K F ds vs) : Reps K F (d :: ds) (v :: vs) := by
  simp only [Reps]; exact ⟨v, vs, rfl, h, t⟩
theorem Reps.append : ∀ {ds es : List D} {vs ws : List V}, Reps K F ds vs → Reps K F es ws → Reps K F (ds ++ es) (vs ++ ws)
  | [], _, _, _, r, t => by simp only [Reps] at r; subst r; exact t
  | d :: ds, es, _, ws, r, t => by
    simp only [Reps] at r
    obtain ⟨v, r', rfl, q, u⟩ := r
    exact Reps.cons q (Reps.append u t)
theorem Reps.take : ∀ {ds : List D} {vs : List V} (n : Nat), Reps K F ds vs → Reps K F (ds.take n) (vs.take n)
  | _, _, 0, _ => by simp only [List.take_zero]; exact Reps.nil
  | [], _, n + 1, r => by simp only [Reps] at r; subst r; simp only [List.take_nil]; exact Reps.nil
  | d :: ds, _, n + 1, r => by
    simp only [Reps] at r
    obtain ⟨v, r', rfl, q, u⟩ := r
    exact Reps.cons q (Reps.take n u)
theorem Reps.drop : ∀ {ds : List D} {vs : List V} (n : Nat), Reps K F ds vs → Reps K F (ds.drop n) (vs.drop n)
  | _, _, 0, r => r
  | [], _, n + 1, r => by simp only [Reps] at r; subst r; simp only [List.drop_nil]; exact Reps.nil
  | d :: ds, _, n + 1, r => by
    simp only [Reps] at r
    obtain ⟨v, r', rfl, q, u⟩ := r
    exact Reps.drop n u
theorem Reps.reverse : ∀ {ds : List D} {vs : List V}, Reps K F ds vs → Reps K F ds.reverse vs.reverse
  | [], _, r => by simp only [Reps] at r; subst r; exact Reps.nil
  | d :: ds, _, r => by
    simp only [Reps] at r
    obtain ⟨v, r', rfl, q, u⟩ := r
    rw [List.reverse_cons, List.reverse_cons]
    exact Reps.append (Reps.reverse u) (Reps.cons q Reps.nil)
theorem Reps.set {d : D} {v : V} (h : Rep K F d v) : ∀ {ds : List D} {vs : List V} (i : Nat), Reps K F ds vs → Reps K F (ds.set i d) (vs.set i v)
  | [], _, _, r => by simp only [Reps] at r; subst r; exact Reps.nil
  | e :: ds, _, 0, r => by
    simp only [Reps] at r
    obtain ⟨w, r', rfl, q, u⟩ := r
    exact Reps.cons h u
  | e :: ds, _, i + 1, r => by
    simp only [Reps] at r
    obtain ⟨w, r', rfl, q, u⟩ := r
    exact Reps.cons q (Reps.set h i u)
theorem Reps.one {d : D} {vs : List V} (h : Reps K F [d] vs) : ∃ v, vs = [v] ∧ Rep K F d v := by
  simp only [Reps] at h
  obtain ⟨v, r, e, q, e2⟩ := h
  subst e2; exact ⟨v, e, q⟩
theorem Reps.two {d e : D} {vs : List V} (h : Reps K F [d, e] vs) : ∃ v w, vs = [v, w] ∧ Rep K F d v ∧ Rep K F e w := by
  simp only [Reps] at h
  obtain ⟨v, r, e1, q, w, r2, e2, q2, e3⟩ := h
  subst e3; subst e2; exact ⟨v, w, e1, q, q2⟩
theorem Reps.rep {ds : List D} {vs : List V} (h : Reps K F ds vs) : ∀ k : Nat, Reps K F (List.replicate k ds).flatten (List.replicate k vs).flatten
  | 0 => Reps.nil
  | k + 1 => by
    rw [List.replicate_succ, List.replicate_succ, List.flatten_cons, List.flatten_cons]
    exact Reps.append h (Reps.rep h k)
theorem Reps.ints : ∀ (ns : List Int), Reps K F (ns.map D.int) (ns.map V.int)
  | [] => Reps.nil
  | n :: r => Reps.cons (by simp only [Rep]) (Reps.ints r)
end
class Tabs where
  rows : List (Addr × Nat × Nat × Str)
def codeIs (c : Addr) (q : Str) : Heap → Prop := fun h => h.CodeRec (.ref c) q
def TOk (F H : Hp) (r : Addr × Nat × Nat × Str) : Prop := F r.1 = none ∧ (H r.1 = some (.tbl #[]) ∨ ∃ c, H r.1 = some (.tbl #[rawInt r.2.1, rawInt r.2.2.1, .ref c]) ∧ H c = some (.ext (codeIs c r.2.2.2)))
variable [Tabs]
def TbT (F H : Hp) : Prop := ∀ r ∈ Tabs.rows, TOk F H r
omit [Tabs] in
theorem TOk.step {F H F' H' : Hp} {r : Addr × Nat × Nat × Str} (t : TOk F H r) (nw : ∀ a o, F' a = some o → F a = some o ∨ H a = none) (k : ∀ a o, H a = some o → (∀ vs, o ≠ .lst vs) → H' a = some o) : TOk F' H' r := by
  have hn : ∀ ps, H r.1 = some (.tbl ps) → F' r.1 = none := fun ps e => by
    cases q : F' r.1 with
    | none => rfl
    | some o =>
      rcases nw _ _ q with z | z
      · rw [t.1] at z; cases z
      · rw [e] at z; cases z
  rcases t.2 with e | ⟨c, e, e2⟩
  · exact ⟨hn _ e, .inl (k _ _ e fun _ z => nomatch z)⟩
  · exact ⟨hn _ e, .inr ⟨c, k _ _ e (fun _ z => nomatch z), k _ _ e2 fun _ z => nomatch z⟩⟩
theorem TbT.step {F H F' H' : Hp} (t : TbT F H) (nw : ∀ a o, F' a = some o → F a = some o ∨ H a = none) (k : ∀ a o, H a = some o → (∀ vs, o ≠ .lst vs) → H' a = some o) : TbT F' H' := fun r hr => (t r hr).step nw k
theorem TbT.freeze {F H : Hp} {a : Addr} {vs : List V} {o : HO} (t : TbT F H) (e : H a = some (.lst vs)) : TbT (upd F a o) H := fun r hr => by
  obtain ⟨t1, t2⟩ := t r hr
  have : r.1 ≠ a := fun z => by
    rw [z, e] at t2
    rcases t2 with q | ⟨c, q, _⟩ <;> cases q
  exact ⟨by rw [upd_ne this]; exact t1, t2⟩
def Kp : HO → Option HO → Prop
  | .tbl _, r => ∃ ps, r = some (.tbl ps)
  | o, r => r = some o
def Hh (H H' : Hp) : Prop := ∀ b o, H b = some o → Kp o (H' b)
omit [Tabs] in
theorem Kp.of {o : HO} {r : Option HO} (h : r = some o) : Kp o r := by cases o <;> first | exact h | exact ⟨_, h⟩
omit [Tabs] in
theorem Kp.some {o : HO} {r : Option HO} (h : Kp o r) : r ≠ none := by
  cases o <;> first | (obtain ⟨_, h⟩ := h; rw [h]; simp) | (have h : r = _ := h; rw [h]; simp)
omit [Tabs] in
theorem Hh.of {H H' : Hp} (h : Same H H') : Hh H H' := fun b o e => .of (h b o e)
omit [Tabs] in
theorem Hh.refl (H : Hp) : Hh H H := .of (Same.refl H)
omit [Tabs] in
theorem Hh.trans {H H1 H2 : Hp} (a : Hh H H1) (b : Hh H1 H2) : Hh H H2 := fun c o e => by
  have k := a c o e
  cases o <;> first | exact b c _ k | (obtain ⟨ps, q⟩ := k; show ∃ ps, H2 c = some (.tbl ps); exact b c _ q)
omit [Tabs] in
theorem none_of_hh {F H : Hp} (h : Hh F H) {a : Addr} (e : H a = none) : F a = none := by
  cases q : F a with
  | none => rfl
  | some o => exact absurd e (h a o q).some
structure Ext (F H F' H' : Hp) : Prop where
  ff : Same F F'
  hh : Hh H H'
  fh : Same F' H'
  nw : ∀ a o, F' a = some o → F a = some o ∨ H a = none
  tt : TbT F H → TbT F' H'
theorem Ext.refl {F H : Hp} (h : Same F H) : Ext F H F H := ⟨Same.refl F, Hh.refl H, h, fun _ _ e => .inl e, id⟩
theorem Ext.trans {F H F1 H1 F2 H2 : Hp} (a : Ext F H F1 H1) (b : Ext F1 H1 F2 H2) : Ext F H F2 H2 :=
  ⟨a.ff.trans b.ff, a.hh.trans b.hh, b.fh, fun c o e => by
    rcases b.nw c o e with q | q
    · exact a.nw c o q
    · exact .inr (none_of_hh a.hh q), fun t => b.tt (a.tt t)⟩
omit [Tabs] in
theorem none_of_same {F H : Hp} (h : Same F H) {a : Addr} (e : H a = none) : F a = none := by
  cases q : F a with
  | none => rfl
  | some o => rw [h a o q] at e; cases e
omit [Tabs] in
theorem same_upd {H : Hp} {p : Addr} {o : HO} (h : H p = none) : Same H (upd H p o) := fun b u q => by rw [upd_ne (ne_of_none q h)]; exact q
omit [Tabs] in
theorem same_upd2 {F H : Hp} {p : Addr} {o : HO} (h : Same F H) (hp : H p = none) : Same (upd F p o) (upd H p o) := fun b u q => by
  by_cases hb : b = p
  · subst hb; rw [upd_same] at q ⊢; exact q
  · rw [upd_ne hb] at q ⊢; exact h b u q
theorem Ext.same {F H F' H' : Hp} (ff : Same F F') (hh : Same H H') (fh : Same F' H') (nw : ∀ a o, F' a = some o → F a = some o ∨ H a = none) : Ext F H F' H' := ⟨ff, .of hh, fh, nw, fun t => t.step nw fun a o e _ => hh a o e⟩
theorem Ext.new {F H : Hp} {p : Addr} {o : HO} (h : Same F H) (hp : H p = none) : Ext F H (upd F p o) (upd H p o) :=
  .same (same_upd (none_of_same h hp)) (same_upd hp) (same_upd2 h hp) fun a u e => by
    by_cases hb : a = p
    · subst hb; exact .inr hp
    · rw [upd_ne hb] at e; exact .inl e
theorem Ext.open {F H : Hp} {p : Addr} {o : HO} (h : Same F H) (hp : H p = none) : Ext F H F (upd H p o) :=
  .same (Same.refl F) (same_upd hp) (h.trans (same_upd hp)) fun a u e => .inl e
inductive Sl where
  | val (d : D)
  | own (ds : List D)
abbrev DS := List (Option Sl)
structure RV (K : PySem.W.Frag) (F : Hp) (τ : DS) (σ : St) (H : Hp) : Prop where
  fh : Same F H
  len : τ.length = σ.length
  val : ∀ (i : Nat) (d : D), τ[i]? = some (some (.val d)) → ∃ v, σ[i]? = some (some v) ∧ Rep K F d v
  own : ∀ (i : Nat) (ds : List D), τ[i]? = some (some (.own ds)) → ∃ a vs, σ[i]? = some (some (.ref a)) ∧ H a = some (.lst vs) ∧ F a = none ∧ Reps K F ds vs
  dis : ∀ (i j : Nat) (ds es : List D) (a : Addr), i ≠ j → τ[i]? = some (some (.own ds)) → τ[j]? = some (some (.own es)) → σ[i]? = some (some (.ref a)) → σ[j]? = some (some (.ref a)) → False
  tt : TbT F H
theorem RV.ext {K : PySem.W.Frag} {F H F' H' : Hp} {τ : DS} {σ : St} (R : RV K F τ σ H) (x : Ext F H F' H') : RV K F' τ σ H' :=
  ⟨x.fh, R.len, fun i d e => by
    obtain ⟨v, h1, h2⟩ := R.val i d e
    exact ⟨v, h1, h2.mono x.ff⟩,
   fun i ds e => by
    obtain ⟨a, vs, h1, h2, h3, h4⟩ := R.own i ds e
    refine ⟨a, vs, h1, x.hh _ _ h2, ?_, h4.mono x.ff⟩
    cases q : F' a with
    | none => rfl
    | some o =>
      rcases x.nw a o q with z | z
      · rw [h3] at z; cases z
      · rw [h2] at z; exact absurd z (by simp),
   R.dis, x.tt R.tt⟩
structure RS (K : PySem.W.Frag) (B Z F : Hp) (τ : DS) (σ : St) (H : Hp) : Prop where
  rv : RV K F τ σ H
  bh : Hh B H
  zf : Same Z F
  nb : ∀ a o, F a = some o → Z a = some o ∨ B a = none
  ob : ∀ (i : Nat) (ds : List D) (a : Addr), τ[i]? = some (some (.own ds)) → σ[i]? = some (some (.ref a)) → B a = none
theorem RS.ext {K : PySem.W.Frag} {B Z F H F' H' : Hp} {τ : DS} {σ : St} (R : RS K B Z F τ σ H) (x : Ext F H F' H') : RS K B Z F' τ σ H' :=
  ⟨R.rv.ext x, R.bh.trans x.hh, R.zf.trans x.ff, fun a o e => by
    rcases x.nw a o e with q | q
    · exact R.nb a o q
    · exact .inr (none_of_hh R.bh q), R.ob⟩
theorem RS.out {K : PySem.W.Frag} {B Z F H : Hp} {τ : DS} {σ : St} (R : RS K B Z F τ σ H) : Ext Z B F H := ⟨R.zf, R.bh, R.rv.fh, R.nb, fun _ => R.rv.tt⟩
def Xob (X : Cx) (c : Str) : Prop := ∀ e s', X.xe e s'
def Ok (X : Cx) {α : Type} (r : Rs α) (P : α → Prop) : Prop := match r with
  | .ok a => P a
  | .ex c => Xob X c
  | .no => False
theorem Ok.bind {X : Cx} {α β : Type} {r : Rs α} {k : α → Rs β} {P : β → Prop} (h : Ok X (r.bind k) P) : Ok X r fun a => Ok X (k a) P := by
  cases r <;> exact h
theorem Ok.imp {X : Cx} {α : Type} {r : Rs α} {P Q : α → Prop} (h : Ok X r P) (f : ∀ a, P a → Q a) : Ok X r Q := by
  cases r with
  | ok a => exact f a h
  | ex c => exact h
  | no => exact h
abbrev FE := DS → Rs D
abbrev FA := DS → Rs (List D)
abbrev FT := DS → Rs Bool
def Ev (K : PySem.W.Frag) (F H : Hp) (Q : VK) (d : D) : Prop := ∀ v F' H', Ext F H F' H' → Rep K F' d v → Q v H'
def Evs (K : PySem.W.Frag) (F H : Hp) (Q : List V → Hp → Prop) (ds : List D) : Prop := ∀ vs F' H', Ext F H F' H' → Reps K F' ds vs → Q vs H'
def Evb (F H : Hp) (Q : Bool → Hp → Prop) (b : Bool) : Prop := ∀ F' H', Ext F H F' H' → Q b H'
theorem Ev.ext {K : PySem.W.Frag} {F H F1 H1 : Hp} {Q : VK} {d : D} (h : Ev K F H Q d) (x : Ext F H F1 H1) : Ev K F1 H1 Q d := fun v F' H' y r => h v F' H' (x.trans y) r
theorem Evs.ext {K : PySem.W.Frag} {F H F1 H1 : Hp} {Q : List V → Hp → Prop} {d : List D} (h : Evs K F H Q d) (x : Ext F H F1 H1) : Evs K F1 H1 Q d := fun v F' H' y r => h v F' H' (x.trans y) r
theorem Evb.ext {F H F1 H1 : Hp} {Q : Bool → Hp → Prop} {d : Bool} (h : Evb F H Q d) (x : Ext F H F1 H1) : Evb F1 H1 Q d := fun F' H' y => h F' H' (x.trans y)
def tE (X : Cx) (f : FE) : TE := fun σ H Q => ∃ F τ, RV X.K F τ σ H ∧ Ok X (f τ) (Ev X.K F H Q)
def tAs (X : Cx) (f : FA) : TA := fun σ H Q => ∃ F τ, RV X.K F τ σ H ∧ Ok X (f τ) (Evs X.K F H Q)
def tTs (X : Cx) (f : FT) : TT := fun σ H Q => ∃ F τ, RV X.K F τ σ H ∧ Ok X (f τ) (Evb F H Q)
def PDE (X : Cx) (e : Expr) (f : FE) : Prop := PE X e (tE X f)
def PDA (X : Cx) (e : List Expr) (f : FA) : Prop := PA X e (tAs X f)
def PDT (X : Cx) (e : Expr) (f : FT) : Prop := PT X e (tTs X f)
def PDW (X : Cx) (e : Expr) (f : FT) : Prop := PW X e (tTs X f)
theorem _root_.L2.PE.imp {X : Cx} {e : Expr} {t t' : TE} (h : PE X e t) (f : ∀ σ H Q, t' σ H Q → t σ H Q) : PE X e t' := fun pins s σ H Q I q => h pins s σ H Q I (f _ _ _ q)
theorem _root_.L2.PT.imp {X : Cx} {e : Expr} {t t' : TT} (h : PT X e t) (f : ∀ σ H Q, t' σ H Q → t σ H Q) : PT X e t' := fun pins s σ H Q I q => h pins s σ H Q I (f _ _ _ q)
theorem _root_.L2.PW.imp {X : Cx} {e : Expr} {t t' : TT} (h : PW X e t) (f : ∀ σ H Q, t' σ H Q → t σ H Q) : PW X e t' := fun w pins s σ H Q I q => h w pins s σ H Q I (f _ _ _ q)
theorem _root_.L2.PA.imp {X : Cx} {e : List Expr} {t t' : TA} (h : PA X e t) (f : ∀ σ H Q, t' σ H Q → t σ H Q) : PA X e t' := fun p pins s σ H Q I q => h p pins s σ H Q I (f _ _ _ q)
theorem _root_.L2.PS.imp {X : Cx} {e : Stmt} {t t' : TS} (h : PS X e t) (f : ∀ E σ H, t' E σ H → t E σ H) : PS X e t' := fun pins s σ H Q I q => h pins s σ H Q I (f _ _ _ q)
theorem _root_.L2.PSs.imp {X : Cx} {e : List Stmt} {t t' : TS} (h : PSs X e t) (f : ∀ E σ H, t' E σ H → t E σ H) : PSs X e t' := fun pins s σ H Q I q => h pins s σ H Q I (f _ _ _ q)
theorem tE.of {X : Cx} {f : FE} {F H : Hp} {τ : DS} {σ : St} {Q : VK} {G : D → Prop} (R : RV X.K F τ σ H) (h : Ok X (f τ) G)
    (k : ∀ d v F1 H1, G d → Ext F H F1 H1 → RV X.K F1 τ σ H1 → Rep X.K F1 d v → Q v H1) : tE X f σ H Q :=
  ⟨F, τ, R, h.imp fun d g v F1 H1 x r => k d v F1 H1 g x (R.ext x) r⟩
theorem tAs.of {X : Cx} {f : FA} {F H : Hp} {τ : DS} {σ : St} {Q : List V → Hp → Prop} {G : List D → Prop} (R : RV X.K F τ σ H) (h : Ok X (f τ) G)
    (k : ∀ d v F1 H1, G d → Ext F H F1 H1 → RV X.K F1 τ σ H1 → Reps X.K F1 d v → Q v H1) : tAs X f σ H Q :=
  ⟨F, τ, R, h.imp fun d g v F1 H1 x r => k d v F1 H1 g x (R.ext x) r⟩
theorem tTs.of {X : Cx} {f : FT} {F H : Hp} {τ : DS} {σ : St} {Q : Bool → Hp → Prop} {G : Bool → Prop} (R : RV X.K F τ σ H) (h : Ok X (f τ) G)
    (k : ∀ b F1 H1, G b → Ext F H F1 H1 → RV X.K F1 τ σ H1 → Q b H1) : tTs X f σ H Q :=
  ⟨F, τ, R, h.imp fun d g F1 H1 x => k d F1 H1 g x (R.ext x)⟩
def eVar (i : Nat) : FE := fun τ => match τ[i]? with
  | some (some (.val d)) => .ok d
  | _ => .no
section
variable {X : Cx} {pos : Pos}
theorem pde_var {i : Nat} {x : Str} (h : PE X (.Name x pos) (tVar i)) : PDE X (.Name x pos) (eVar i) := h.imp fun σ H Q ⟨F, τ, R, q⟩ => by
  unfold eVar at q
  cases e : τ[i]? with
  | none => rw [e] at q; exact q.elim
  | some o =>
    cases o with
    | none => rw [e] at q; exact q.elim
    | some sl =>
      cases sl with
      | own ds => rw [e] at q; exact q.elim
      | val d =>
        rw [e] at q
        obtain ⟨v, h1, h2⟩ := R.val i d e
        exact ⟨v, h1, q v F H (Ext.refl R.fh) h2⟩
def eC (d : D) : FE := fun _ => .ok d
theorem pde_c {e : Expr} {v : V} {d : D} (h : PE X e (tC v)) (r : ∀ F, Rep X.K F d v) : PDE X e (eC d) := h.imp fun σ H Q ⟨F, τ, R, q⟩ => q v F H (Ext.refl R.fh) (r F)
theorem pde_int {i j} : PDE X (.Constant (.int i) j pos) (eC (.int i)) := pde_c pe_int fun _ => by simp only [Rep]
theorem pde_bl {i j} : PDE X (.Constant (.bool i) j pos) (eC (.bl i)) := pde_c pe_bl fun _ => by simp only [Rep]
theorem pde_non {j} : PDE X (.Constant .none j pos) (eC .non) := pde_c pe_non fun _ => by simp only [Rep]
theorem pde_str {i j} : PDE X (.Constant (.str i) j pos) (eC (.str i)) := pde_c pe_str fun _ => by simp only [Rep]
end
end FD
set_option Elab.async false
set_option linter.all false
set_option maxRecDepth 100000
namespace FD
open PySem PySem.Spec PyProof.Rows L2
variable [Tabs]
def OpD (X : Cx) (g : Value → Value → Sem Value) (op : D → D → Rs D) : Prop := ∃ r : R2, OpR X g r ∧
  ∀ F H x y dx dy Q, Same F H → Rep X.K F dx x → Rep X.K F dy y → Ok X (op dx dy) (Ev X.K F H Q) → r x y H Q
def eOp (op : D → D → Rs D) (fa fb : FE) : FE := fun τ => (fa τ).bind fun x => (fb τ).bind fun y => op x y
section
variable {X : Cx} {pos : Pos} {a b c : Expr} {fa fb fc : FE}
theorem op_of {r : R2} {op : D → D → Rs D} (hl : ∀ F H x y dx dy Q, Same F H → Rep X.K F dx x → Rep X.K F dy y → Ok X (op dx dy) (Ev X.K F H Q) → r x y H Q)
    (σ : St) (H : Hp) (Q : VK) (h : tE X (eOp op fa fb) σ H Q) : tOp r (tE X fa) (tE X fb) σ H Q := by
  obtain ⟨F, τ, R, h⟩ := h
  refine tE.of R h.bind fun x u F1 H1 g x1 R1 r1 => ?_
  refine tE.of R1 g.bind fun y v F2 H2 g2 x2 R2 r2 => ?_
  exact hl F2 H2 u v x y Q R2.fh (r1.mono x2.ff) r2 (g2.imp fun d e => e.ext (x1.trans x2))
theorem pde_op {o : Operator} {op : D → D → Rs D} (ho : OpD X (binaryOp o) op) (ha : PDE X a fa) (hb : PDE X b fb) : PDE X (.BinOp a o b pos) (eOp op fa fb) := by
  obtain ⟨r, h1, h2⟩ := ho
  exact (pe_op h1 ha hb).imp (op_of h2)
theorem pde_cmp {o : CmpOp} {op : D → D → Rs D} (ho : OpD X (compareOp o) op) (ha : PDE X a fa) (hb : PDE X b fb) (hm : behindInMarks o b = false) : PDE X (.Compare a [o] [b] pos) (eOp op fa fb) := by
  obtain ⟨r, h1, h2⟩ := ho
  exact (pe_cmpR h1 ha hb hm).imp (op_of h2)
def tB (f : FE) : FT := fun τ => (f τ).bind fun d => match d with
  | .bl b => .ok b
  | _ => .no
theorem test_of {t : FE} {u : TE} (hi : ∀ σ H Q, tE X t σ H Q → u σ H Q) (σ : St) (H : Hp) (Q : Bool → Hp → Prop) (h : tTs X (tB t) σ H Q) : tTest u σ H Q := by
  obtain ⟨F, τ, R, h⟩ := h
  refine hi σ H _ (tE.of R h.bind fun d v F1 H1 g x R1 r => ?_)
  cases d with
  | bl k => simp only [Rep] at r; exact ⟨k, r, g F1 H1 x⟩
  | _ => exact g.elim
theorem pdt_cmp {o : CmpOp} {op : D → D → Rs D} (ho : OpD X (compareOp o) op) (ha : PDE X a fa) (hb : PDE X b fb) (hm : behindInMarks o b = false) : PDT X (.Compare a [o] [b] pos) (tB (eOp op fa fb)) := by
  obtain ⟨r, h1, h2⟩ := ho
  exact (pt_cmpR h1 ha hb hm).imp (test_of (op_of h2))
def eChain (op op' : D → D → Rs D) (fa fb fc : FE) : FE := fun τ => (fa τ).bind fun x => (fb τ).bind fun y => (op x y).bind fun z => match z with
  | .bl k => if k = true then (fc τ).bind fun w => op' y w else .ok (.bl false)
  | _ => .no
theorem chain_of {r r' : R2} {op op' : D → D → Rs D} (hl : ∀ F H x y dx dy Q, Same F H → Rep X.K F dx x → Rep X.K F dy y → Ok X (op dx dy) (Ev X.K F H Q) → r x y H Q)
    (hl' : ∀ F H x y dx dy Q, Same F H → Rep X.K F dx x → Rep X.K F dy y → Ok X (op' dx dy) (Ev X.K F H Q) → r' x y H Q)
    (σ : St) (H : Hp) (Q : VK) (h : tE X (eChain op op' fa fb fc) σ H Q) : tChain r r' (tE X fa) (tE X fb) (tE X fc) σ H Q := by
  obtain ⟨F, τ, R, h⟩ := h
  refine tE.of R h.bind fun x u F1 H1 g x1 R1 r1 => ?_
  refine tE.of R1 g.bind fun y v F2 H2 g2 x2 R2 r2 => ?_
  refine hl F2 H2 u v x y _ R2.fh (r1.mono x2.ff) r2 (g2.bind.imp fun z gz w F3 H3 x3 r3 => ?_)
  cases z with
  | bl k =>
    simp only [Rep] at r3
    refine ⟨k, r3, ?_⟩
    cases k with
    | false => rw [if_neg (by simp)]; exact gz (.bl false) F3 H3 ((x1.trans x2).trans x3) (by simp only [Rep])
    | true =>
      rw [if_pos rfl]
      have gz : Ok X ((fc τ).bind fun w => op' y w) (Ev X.K F H Q) := gz
      refine tE.of (R2.ext x3) gz.bind fun w' v' F4 H4 g4 x4 R4 r4 => ?_
      exact hl' F4 H4 v v' y w' Q R4.fh (r2.mono (x3.ff.trans x4.ff)) r4 (g4.imp fun d e => e.ext (((x1.trans x2).trans x3).trans x4))
  | _ => exact gz.elim
theorem pdt_chain {o o' : CmpOp} {op op' : D → D → Rs D} (ho : OpD X (compareOp o) op) (ho' : OpD X (compareOp o') op') (ha : PDE X a fa) (hb : PDE X b fb) (hc : PDE X c fc)
    (hm : lastMarks [o, o'] [b, c] = false := by with_unfolding_all rfl) : PDT X (.Compare a [o, o'] [b, c] pos) (tB (eChain op op' fa fb fc)) := by
  obtain ⟨r, h1, h2⟩ := ho
  obtain ⟨r', h1', h2'⟩ := ho'
  exact (pt_chain h1 h1' ha hb hc hm).imp (test_of (chain_of h2 h2'))
def truD : D → Rs Bool
  | .non => .ok false
  | .bl b => .ok b
  | .int i => .ok (i != 0)
  | .str x => if x.length ≤ sizeLine then .ok ((x.length : Int) != 0) else .no
  | .lst ds => .ok (!ds.isEmpty)
  | .tup ds => .ok (!ds.isEmpty)
  | .scr ns => .ok (!ns.isEmpty)
  | .raw _ => .no
  | .exc _ => .no
theorem isEmpty_reps {K : PySem.W.Frag} {F : Hp} {ds : List D} {vs : List V} (h : Reps K F ds vs) : ds.isEmpty = vs.isEmpty := by
  have := h.length
  cases ds <;> cases vs <;> simp_all
theorem tru_of {F H : Hp} {d : D} {v : V} {Q : Bool → Hp → Prop} (fh : Same F H) (r : Rep X.K F d v) (h : Ok X (truD d) (fun b => Q b H)) : ∃ k, TruV X.K v H k ∧ Q k H := by
  cases d with
  | non => simp only [Rep] at r; subst r; exact ⟨_, rfl, h⟩
  | bl b => simp only [Rep] at r; subst r; exact ⟨_, rfl, h⟩
  | int i => simp only [Rep] at r; subst r; exact ⟨_, rfl, h⟩
  | str x =>
    simp only [Rep] at r; subst r
    simp only [truD] at h
    by_cases z : x.length ≤ sizeLine
    · rw [if_pos z] at h; exact ⟨_, ⟨z, rfl⟩, h⟩
    · rw [if_neg z] at h; exact h.elim
  | lst ds =>
    simp only [Rep] at r; obtain ⟨a, vs, rfl, e, q⟩ := r
    refine ⟨!vs.isEmpty, .inl ⟨vs, SqL.of (fh _ _ e), rfl⟩, ?_⟩
    rw [← isEmpty_reps q]; exact h
  | tup ds =>
    simp only [Rep] at r; obtain ⟨a, vs, rfl, e, q⟩ := r
    refine ⟨!vs.isEmpty, .inr (.inl ⟨vs, Same.seqT fh e, rfl⟩), ?_⟩
    rw [← isEmpty_reps q]; exact h
  | scr ns =>
    simp only [Rep] at r; obtain ⟨a, rfl, e⟩ := r
    refine ⟨!(ns.map V.int).isEmpty, .inl ⟨_, fh.seq e, rfl⟩, ?_⟩
    have e2 : (ns.map V.int).isEmpty = ns.isEmpty := by cases ns <;> rfl
    rw [e2]; exact h
  | raw u => exact h.elim
  | exc c => exact h.elim
def tTru (f : FE) : FT := fun τ => (f τ).bind truD
theorem pdt_tru (ha : PDE X a fa) (he : ∀ whole, isTrue a X.env whole = (do let v ← whole; standAt a.pos; holding [v] (truthy v)) := by intro _; rfl) : PDT X a (tTru fa) :=
  (pt_truth ha he).imp fun σ H Q ⟨F, τ, R, h⟩ => tE.of R h.bind fun d v F1 H1 g x R1 r => tru_of R1.fh r (g.imp fun b e => e F1 H1 x)
def tAndD (f g : FT) : FT := fun τ => (f τ).bind fun b => if b = true then g τ else .ok false
def tOrD (f g : FT) : FT := fun τ => (f τ).bind fun b => if b = true then .ok true else g τ
def tNotD (f : FT) : FT := fun τ => (f τ).bind fun b => .ok (!b)
variable {ga gb : FT} {rest : List Expr}
theorem pdw_and1 (ha : PDT X a ga) : PDW X (.BoolOp .And [a] pos) ga := pw_and1 ha
theorem pdw_or1 (ha : PDT X a ga) : PDW X (.BoolOp .Or [a] pos) ga := pw_or1 ha
theorem pdw_and (ha : PDT X a ga) (hb : PDW X (.BoolOp .And (b :: rest) pos) gb) : PDW X (.BoolOp .And (a :: b :: rest) pos) (tAndD ga gb) :=
  PW.imp (pw_and ha hb) fun σ H Q ⟨F, τ, R, h⟩ => tTs.of R h.bind fun k F1 H1 g x R1 => by
    cases k with
    | true => rw [if_pos rfl]; rw [if_pos rfl] at g; exact ⟨F1, τ, R1, g.imp fun d e => e.ext x⟩
    | false => rw [if_neg (by simp)]; rw [if_neg (by simp)] at g; exact g F1 H1 x
theorem pdw_or (ha : PDT X a ga) (hb : PDW X (.BoolOp .Or (b :: rest) pos) gb) : PDW X (.BoolOp .Or (a :: b :: rest) pos) (tOrD ga gb) :=
  PW.imp (pw_or ha hb) fun σ H Q ⟨F, τ, R, h⟩ => tTs.of R h.bind fun k F1 H1 g x R1 => by
    cases k with
    | false => rw [if_neg (by simp)]; rw [if_neg (by simp)] at g; exact ⟨F1, τ, R1, g.imp fun d e => e.ext x⟩
    | true => rw [if_pos rfl]; rw [if_pos rfl] at g; exact g F1 H1 x
theorem pdt_w {e : Expr} (h : PDW X e ga) : PDT X e ga := PW.pt h
theorem pdt_not (ha : PDT X a ga) : PDT X (.UnaryOp .Not a pos) (tNotD ga) :=
  PT.imp (pt_not ha) fun σ H Q ⟨F, τ, R, h⟩ => tTs.of R h.bind fun k F1 H1 g x R1 => g F1 H1 x
def eIf (g : FT) (fa fb : FE) : FE := fun τ => (g τ).bind fun b => if b = true then fa τ else fb τ
theorem pde_if (hc : PDT X c ga) (ha : PDE X a fa) (hb : PDE X b fb) : PDE X (.IfExp c a b pos) (eIf ga fa fb) :=
  PE.imp (pe_ifExp hc ha hb) fun σ H Q ⟨F, τ, R, h⟩ => tTs.of R h.bind fun k F1 H1 g x R1 => by
    cases k with
    | true => rw [if_pos rfl]; rw [if_pos rfl] at g; exact ⟨F1, τ, R1, g.imp fun d e => e.ext x⟩
    | false => rw [if_neg (by simp)]; rw [if_neg (by simp)] at g; exact ⟨F1, τ, R1, g.imp fun d e => e.ext x⟩
def eAnd (fa fb : FE) : FE := fun τ => (fa τ).bind fun x => (truD x).bind fun b => if b = true then fb τ else .ok x
def eOr (fa fb : FE) : FE := fun τ => (fa τ).bind fun x => (truD x).bind fun b => if b = true then .ok x else fb τ
def eNot (fa : FE) : FE := fun τ => (fa τ).bind fun x => (truD x).bind fun b => .ok (.bl (!b))
theorem pde_one {op} (h : PDE X a fa) : PDE X (.BoolOp op [a] pos) fa := pe_one h
theorem pde_and (ha : PDE X a fa) (hb : PDE X (.BoolOp .And (b :: rest) pos) fb) : PDE X (.BoolOp .And (a :: b :: rest) pos) (eAnd fa fb) := by
  intro pins s σ H Q I ⟨F, τ, R, h⟩
  refine BoolOp_and (thn (ha pins s σ H _ I (tE.of R h.bind fun d v F1 H1 g x R1 r => (⟨d, F1, g, x, R1, r⟩ : ∃ d F1, Ok X ((truD d).bind fun b => if b = true then fb τ else .ok d) (Ev X.K F H Q) ∧ Ext F H F1 H1 ∧ RV X.K F1 τ σ H1 ∧ Rep X.K F1 d v))) fun v s1 ⟨x, H1, I1, r1, d, F1, g, x1, R1, r⟩ => ?_)
  refine thn (tru_ok pins s1 σ H1 x v (fun b H2 => H2 = H1 ∧ Ok X (if b = true then fb τ else .ok d) (Ev X.K F H Q)) I1 r1 (tru_of (Q := fun b H2 => H2 = H1 ∧ Ok X (if b = true then fb τ else .ok d) (Ev X.K F H Q)) R1.fh r (g.bind.imp fun b e => ⟨rfl, e⟩))) fun k s2 ⟨H2, I2, e2, q⟩ => ?_
  subst e2
  cases k with
  | true => rw [if_pos rfl] at q ⊢; exact hb pins s2 σ _ Q I2 ⟨F1, τ, R1, q.imp fun d e => e.ext x1⟩
  | false => rw [if_neg (by simp)] at q ⊢; exact ⟨x, _, I2, r1, q x F1 _ x1 r⟩
theorem pde_or (ha : PDE X a fa) (hb : PDE X (.BoolOp .Or (b :: rest) pos) fb) : PDE X (.BoolOp .Or (a :: b :: rest) pos) (eOr fa fb) := by
  intro pins s σ H Q I ⟨F, τ, R, h⟩
  refine BoolOp_or (thn (ha pins s σ H _ I (tE.of R h.bind fun d v F1 H1 g x R1 r => (⟨d, F1, g, x, R1, r⟩ : ∃ d F1, Ok X ((truD d).bind fun b => if b = true then .ok d else fb τ) (Ev X.K F H Q) ∧ Ext F H F1 H1 ∧ RV X.K F1 τ σ H1 ∧ Rep X.K F1 d v))) fun v s1 ⟨x, H1, I1, r1, d, F1, g, x1, R1, r⟩ => ?_)
  refine thn (tru_ok pins s1 σ H1 x v (fun b H2 => H2 = H1 ∧ Ok X (if b = true then .ok d else fb τ) (Ev X.K F H Q)) I1 r1 (tru_of (Q := fun b H2 => H2 = H1 ∧ Ok X (if b = true then .ok d else fb τ) (Ev X.K F H Q)) R1.fh r (g.bind.imp fun b e => ⟨rfl, e⟩))) fun k s2 ⟨H2, I2, e2, q⟩ => ?_
  subst e2
  cases k with
  | false => rw [if_neg (by simp)] at q ⊢; exact hb pins s2 σ _ Q I2 ⟨F1, τ, R1, q.imp fun d e => e.ext x1⟩
  | true => rw [if_pos rfl] at q ⊢; exact ⟨x, _, I2, r1, q x F1 _ x1 r⟩
end
end FD
set_option Elab.async false
set_option linter.all false
set_option maxRecDepth 100000
namespace FD
open PySem PySem.Spec PyProof.Rows L2
variable [Tabs]
section
variable {X : Cx} {pos : Pos} {e : Expr} {es : List Expr} {fe : FE} {fs : FA}
def aNil : FA := fun _ => .ok []
def aCons (f : FE) (g : FA) : FA := fun τ => (f τ).bind fun x => (g τ).bind fun r => .ok (x :: r)
theorem pda_nil : PDA X [] aNil := PA.imp pa_nil fun σ H Q ⟨F, τ, R, h⟩ => h [] F H (Ext.refl R.fh) Reps.nil
theorem pda_cons (ha : PDE X e fe) (hr : PDA X es fs) (hs : starEach (e :: es) X.env = (false, eval e X.env) :: starEach es X.env := by rfl) : PDA X (e :: es) (aCons fe fs) :=
  PA.imp (pa_cons ha hr hs) fun σ H Q ⟨F, τ, R, h⟩ => tE.of R h.bind fun x v F1 H1 g x1 R1 r1 => tAs.of R1 g.bind fun ys vs F2 H2 g2 x2 R2 r2 =>
    g2 (v :: vs) F2 H2 (x1.trans x2) (Reps.cons (r1.mono x2.ff) r2)
def eTup (f : FA) : FE := fun τ => (f τ).bind fun ds => if ds.length ≤ sizeLine then .ok (.tup ds) else .no
def eLst (f : FA) : FE := fun τ => (f τ).bind fun ds => if ds.length ≤ sizeLine then .ok (.lst ds) else .no
theorem ok_ite {X : Cx} {α : Type} {c : Prop} [Decidable c] {a : α} {P : α → Prop} (h : Ok X (if c then .ok a else .no) P) : c ∧ P a := by
  by_cases z : c
  · rw [if_pos z] at h; exact ⟨z, h⟩
  · rw [if_neg z] at h; exact h.elim
theorem pde_tup {x1} (h : PDA X es fs) : PDE X (.Tuple es x1 pos) (eTup fs) :=
  PE.imp (pe_tup h) fun σ H Q ⟨F, τ, R, hq⟩ => tAs.of R hq.bind fun ds vs F1 H1 g x R1 r => by
    obtain ⟨z, g⟩ := ok_ite g
    refine ⟨by rw [← r.length]; exact z, fun p hp => g (.ref p) _ _ (x.trans (Ext.new R1.fh hp)) ?_⟩
    simp only [Rep]
    exact ⟨p, vs, rfl, SqT.of upd_same, r.mono (same_upd (none_of_same R1.fh hp))⟩
theorem pde_lst (h : PDA X es fs) : PDE X (.List es pos) (eLst fs) :=
  PE.imp (pe_lst h) fun σ H Q ⟨F, τ, R, hq⟩ => tAs.of R hq.bind fun ds vs F1 H1 g x R1 r => by
    obtain ⟨z, g⟩ := ok_ite g
    refine ⟨by rw [← r.length]; exact z, fun p hp => g (.ref p) _ _ (x.trans (Ext.new R1.fh hp)) ?_⟩
    simp only [Rep]
    exact ⟨p, vs, rfl, upd_same, r.mono (same_upd (none_of_same R1.fh hp))⟩
end
inductive Fl where
  | nx (τ : DS) | rt (d : D) | bk (τ : DS) | ct (τ : DS) | ex (c : Str) | no
  | rs (c : Str) (τ : DS)
def Nw (X : Cx) (H : Hp) (b : Addr) : Prop := H b = none ∧ X.s₀.heap.get? b = none ∧ ∀ p ∈ X.pn, p.1 ≠ b
def ExcAt (X : Cx) (H : Hp) (h : Heap) (a : Addr) (cls : Value) : Prop := Nw X H a ∧ ∃ oe vs, h.get? a = some oe ∧ oe.cls = cls ∧ oe.dict = none ∧ oe.data = .fields vs ∧
  (vs[1]? = some .none ∨ ∃ T oT ts, vs[1]? = some (.ref T) ∧ Nw X H T ∧ T ≠ a ∧ h.get? T = some oT ∧ oT.data = .fields ts ∧ ts[3]? = some .none) ∧ vs[2]? = some .none
def XA (X : Cx) (c : Str) (σ : St) (H : Hp) : Prop := ∀ s a cls, PySem.W.nsIn X.K mainGlobals c = some (some cls) → Inv X [] σ H s → ExcAt X H s.heap a cls → X.xe (.ref a) s
abbrev FS := DS → Fl
def Post (X : Cx) (B Z F : Hp) (E : Ends) : Fl → Prop
  | .nx τ => ∀ σ F' H', Same F F' → RS X.K B Z F' τ σ H' → E.nx σ H'
  | .bk τ => ∀ σ F' H', Same F F' → RS X.K B Z F' τ σ H' → E.bk σ H'
  | .ct τ => ∀ σ F' H', Same F F' → RS X.K B Z F' τ σ H' → E.ct σ H'
  | .rt d => ∀ v F' H', Ext Z B F' H' → Rep X.K F' d v → E.rt v H'
  | .ex c => Xob X c
  | .no => False
  | .rs c τ => ∀ σ F' H', Same F F' → RS X.K B Z F' τ σ H' → XA X c σ H'
theorem Post.same {X : Cx} {B Z F F1 : Hp} {E : Ends} {r : Fl} (h : Post X B Z F E r) (f : Same F F1) : Post X B Z F1 E r := by
  cases r with
  | nx τ => exact fun σ F' H' g R => h σ F' H' (f.trans g) R
  | bk τ => exact fun σ F' H' g R => h σ F' H' (f.trans g) R
  | ct τ => exact fun σ F' H' g R => h σ F' H' (f.trans g) R
  | rt d => exact h
  | ex c => exact h
  | no => exact h
  | rs c τ => exact fun σ F' H' g R => h σ F' H' (f.trans g) R
def tS (X : Cx) (f : FS) : TS := fun E σ H => ∃ B Z F τ, RS X.K B Z F τ σ H ∧ Post X B Z F E (f τ)
def PDS (X : Cx) (st : Stmt) (f : FS) : Prop := PS X st (tS X f)
def PDSs (X : Cx) (st : List Stmt) (f : FS) : Prop := PSs X st (tS X f)
def Fl.of {α : Type} (r : Rs α) (k : α → Fl) : Fl := match r with
  | .ok a => k a
  | .ex c => .ex c
  | .no => .no
@[simp] theorem Fl.of_ok {α : Type} (a : α) (k : α → Fl) : Fl.of (.ok a) k = k a := rfl
theorem Post.of {X : Cx} {B Z F : Hp} {E : Ends} {α : Type} {r : Rs α} {k : α → Fl} (h : Post X B Z F E (Fl.of r k)) : Ok X r fun a => Post X B Z F E (k a) := by
  cases r <;> exact h
section
variable {X : Cx} {pos : Pos} {e : Expr} {es : List Expr} {fe : FE} {fs : FA} {st : Stmt} {rest : List Stmt} {f g : FS} {c : Expr} {gc : FT}
def sNext : FS := fun τ => .nx τ
def sSeq (f g : FS) : FS := fun τ => match f τ with
  | .nx τ' => g τ'
  | r => r
theorem pdss_nil : PDSs X [] sNext := PSs.imp pss_nil fun E σ H ⟨B, Z, F, τ, R, h⟩ => h σ F H (Same.refl F) R
theorem pdss_one (h : PDS X st f) : PDSs X [st] f := pss_one h
theorem pdss_cons (h1 : PDS X st f) (h2 : PDSs X rest g) : PDSs X (st :: rest) (sSeq f g) :=
  PSs.imp (pss_cons h1 h2) fun E σ H ⟨B, Z, F, τ, R, h⟩ => by
    refine ⟨B, Z, F, τ, R, ?_⟩
    unfold sSeq at h
    cases q : f τ with
    | nx τ' => rw [q] at h; exact fun σ' F' H' ff R' => ⟨B, Z, F', τ', R', Post.same h ff⟩
    | rt d => rw [q] at h; exact h
    | bk d => rw [q] at h; exact h
    | ct d => rw [q] at h; exact h
    | ex d => rw [q] at h; exact h
    | no => rw [q] at h; exact h
    | rs c d => rw [q] at h; exact h
def sBreak : FS := fun τ => .bk τ
theorem pds_break : PDS X (.Break pos) sBreak := PS.imp ps_break fun E σ H ⟨B, Z, F, τ, R, h⟩ => h σ F H (Same.refl F) R
def sRet (fe : FE) : FS := fun τ => Fl.of (fe τ) fun d => .rt d
theorem tE.at {B Z F H : Hp} {τ : DS} {σ : St} {Q : VK} {G : D → Prop} (R : RS X.K B Z F τ σ H) (h : Ok X (fe τ) G)
    (k : ∀ d v F1 H1, G d → Ext F H F1 H1 → RS X.K B Z F1 τ σ H1 → Rep X.K F1 d v → Q v H1) : tE X fe σ H Q :=
  tE.of R.rv h fun d v F1 H1 g x _ r => k d v F1 H1 g x (R.ext x) r
theorem pds_ret (he : PDE X e fe) : PDS X (.Return (some e) pos) (sRet fe) :=
  PS.imp (ps_ret he) fun E σ H ⟨B, Z, F, τ, R, h⟩ => tE.at R h.of fun d v F1 H1 g x R1 r => g v F1 H1 R1.out r
def sIf (gc : FT) (f g : FS) : FS := fun τ => Fl.of (gc τ) fun b => if b = true then f τ else g τ
theorem pds_if {a b : List Stmt} (hc : PDT X c gc) (ha : PDSs X a f) (hb : PDSs X b g) : PDS X (.If c a b pos) (sIf gc f g) :=
  PS.imp (ps_if hc ha hb) fun E σ H ⟨B, Z, F, τ, R, h⟩ => tTs.of R.rv h.of fun k F1 H1 q x _ => by
    cases k with
    | true => rw [if_pos rfl] at q ⊢; exact ⟨B, Z, F1, τ, R.ext x, q.same x.ff⟩
    | false => rw [if_neg (by simp)] at q ⊢; exact ⟨B, Z, F1, τ, R.ext x, q.same x.ff⟩
theorem RV.set {K : PySem.W.Frag} {F H : Hp} {τ : DS} {σ : St} {i : Nat} {d : D} {v : V} (R : RV K F τ σ H) (r : Rep K F d v) : RV K F (τ.set i (some (.val d))) (σ.set i (some v)) H := by
  refine ⟨R.fh, by simp [R.len], fun j e h => ?_, fun j es h => ?_, fun j k ds es a hjk h1 h2 h3 h4 => ?_, ?_⟩
  · by_cases hij : i = j
    · subst hij
      have hlt : i < τ.length := by
        rcases Nat.lt_or_ge i τ.length with z | z
        · exact z
        · rw [List.getElem?_eq_none_iff.mpr (by simpa using z)] at h; cases h
      rw [List.getElem?_set_self hlt] at h
      cases h
      exact ⟨v, by rw [List.getElem?_set_self (by rw [← R.len]; exact hlt)], r⟩
    · rw [List.getElem?_set_ne hij] at h ⊢
      exact R.val j e h
  · by_cases hij : i = j
    · subst hij
      rw [List.getElem?_set] at h
      simp only [if_true] at h
      split at h <;> cases h
    · rw [List.getElem?_set_ne hij] at h ⊢
      exact R.own j es h
  · have n1 : i ≠ j := fun z => by
      subst z
      rw [List.getElem?_set] at h1
      simp only [if_true] at h1
      split at h1 <;> cases h1
    have n2 : i ≠ k := fun z => by
      subst z
      rw [List.getElem?_set] at h2
      simp only [if_true] at h2
      split at h2 <;> cases h2
    rw [List.getElem?_set_ne n1] at h1 h3
    rw [List.getElem?_set_ne n2] at h2 h4
    exact R.dis j k ds es a hjk h1 h2 h3 h4
  · exact R.tt
theorem RS.set {K : PySem.W.Frag} {B Z F H : Hp} {τ : DS} {σ : St} {i : Nat} {d : D} {v : V} (R : RS K B Z F τ σ H) (r : Rep K F d v) : RS K B Z F (τ.set i (some (.val d))) (σ.set i (some v)) H :=
  ⟨R.rv.set r, R.bh, R.zf, R.nb, fun j ds a h1 h2 => by
    have n1 : i ≠ j := fun z => by
      subst z
      rw [List.getElem?_set] at h1
      simp only [if_true] at h1
      split at h1 <;> cases h1
    rw [List.getElem?_set_ne n1] at h1 h2
    exact R.ob j ds a h1 h2⟩
def sSet (i : Nat) (fe : FE) : FS := fun τ => Fl.of (fe τ) fun d => .nx (τ.set i (some (.val d)))
theorem pds_set {i : Nat} {x : Str} {pos' : Pos} (hN : X.N.Nodup) (hi : X.N[i]? = some x) (hx : Loc X.env.scope x) (he : PDE X e fe) (hs : swapsWith e (some (.Name x pos')) pos.line X.env = pure false := by rfl) (hf : X.fn x = true ∨ X.env.scope.names.lookup x = some .local := by first | exact .inl rfl | exact .inr rfl | assumption) :
    PDS X (.Assign [.Name x pos'] e pos) (sSet i fe) :=
  PS.imp (ps_set hN hi hx he hs hf) fun E σ H ⟨B, Z, F, τ, R, h⟩ => tE.at R h.of fun d v F1 H1 g x R1 r => g _ F1 H1 x.ff (R1.set r)
def tFr (X : Cx) (f : FA) : TE := fun σ H Q => ∃ F τ, RV X.K F τ σ H ∧ Ok X (f τ) fun ds => ∀ p vs F' H', Ext F H F' H' → H' p = none → Reps X.K F' ds vs → Q (.ref p) (upd H' p (.lst vs))
def PDF (X : Cx) (e : Expr) (f : FA) : Prop := PE X e (tFr X f)
theorem pdf_lst (h : PDA X es fs) : PDF X (.List es pos) (fun τ => (fs τ).bind fun ds => if ds.length ≤ sizeLine then .ok ds else .no) :=
  PE.imp (pe_lst h) fun σ H Q ⟨F, τ, R, hq⟩ => tAs.of R hq.bind fun ds vs F1 H1 g x R1 r => by
    obtain ⟨z, g⟩ := ok_ite g
    exact ⟨by rw [← r.length]; exact z, fun p hp => g p vs F1 H1 x hp r⟩
theorem pde_fr {ff : FA} (h : PDF X e ff) : PDE X e (fun τ => (ff τ).bind fun ds => .ok (.lst ds)) :=
  PE.imp h fun σ H Q ⟨F, τ, R, hq⟩ => ⟨F, τ, R, hq.bind.imp fun ds g p vs F1 H1 x hp r => by
    refine g (.ref p) _ _ (x.trans (Ext.new x.fh hp)) ?_
    simp only [Rep]
    exact ⟨p, vs, rfl, upd_same, r.mono (same_upd (none_of_same x.fh hp))⟩⟩
def sSetO (i : Nat) (ff : FA) : FS := fun τ => Fl.of (ff τ) fun ds => .nx (τ.set i (some (.own ds)))
theorem RV.setO {K : PySem.W.Frag} {F H : Hp} {τ : DS} {σ : St} {i : Nat} {p : Addr} {ds : List D} {vs : List V} (R : RV K F τ σ H) (hp : H p = none) (r : Reps K F ds vs) : RV K F (τ.set i (some (.own ds))) (σ.set i (some (.ref p))) (upd H p (.lst vs)) := by
  have nofr := none_of_same R.fh hp
  have hlt : ∀ {o : Sl}, (τ.set i (some (.own ds)))[i]? = some (some o) → i < τ.length := fun {o} h => by
    rcases Nat.lt_or_ge i τ.length with z | z
    · exact z
    · rw [List.getElem?_eq_none_iff.mpr (by simpa using z)] at h; cases h
  refine ⟨R.fh.trans (same_upd hp), by simp [R.len], fun j e h => ?_, fun j es h => ?_, fun j k es es' a hjk h1 h2 h3 h4 => ?_, ?_⟩
  · by_cases hij : i = j
    · subst hij
      rw [List.getElem?_set_self (hlt h)] at h; cases h
    · rw [List.getElem?_set_ne hij] at h ⊢
      exact R.val j e h
  · by_cases hij : i = j
    · subst hij
      have l := hlt h
      rw [List.getElem?_set_self l] at h
      cases h
      exact ⟨p, vs, by rw [List.getElem?_set_self (by rw [← R.len]; exact l)], upd_same, nofr, r⟩
    · rw [List.getElem?_set_ne hij] at h ⊢
      obtain ⟨a, ws, q1, q2, q3, q4⟩ := R.own j es h
      exact ⟨a, ws, q1, by rw [upd_ne (ne_of_none q2 hp)]; exact q2, q3, q4⟩
  · by_cases n1 : i = j
    · subst n1
      rw [List.getElem?_set_ne hjk] at h2 h4
      obtain ⟨a', ws, q1, q2, q3, q4⟩ := R.own k es' h2
      rw [q1] at h4; cases h4
      have l := hlt h1
      rw [List.getElem?_set_self (by rw [← R.len]; exact l)] at h3
      cases h3
      rw [hp] at q2; cases q2
    · by_cases n2 : i = k
      · subst n2
        rw [List.getElem?_set_ne (Ne.symm hjk)] at h1 h3
        obtain ⟨a', ws, q1, q2, q3, q4⟩ := R.own j es h1
        rw [q1] at h3; cases h3
        have l := hlt h2
        rw [List.getElem?_set_self (by rw [← R.len]; exact l)] at h4
        cases h4
        rw [hp] at q2; cases q2
      · rw [List.getElem?_set_ne n1] at h1 h3
        rw [List.getElem?_set_ne n2] at h2 h4
        exact R.dis j k es es' a hjk h1 h2 h3 h4
  · exact R.tt.step (fun _ _ e => .inl e) fun b o e _ => by rw [upd_ne (ne_of_none e hp)]; exact e
theorem RS.setO {K : PySem.W.Frag} {B Z F H : Hp} {τ : DS} {σ : St} {i : Nat} {p : Addr} {ds : List D} {vs : List V} (R : RS K B Z F τ σ H) (hp : H p = none) (r : Reps K F ds vs) : RS K B Z F (τ.set i (some (.own ds))) (σ.set i (some (.ref p))) (upd H p (.lst vs)) :=
  ⟨R.rv.setO hp r, R.bh.trans (.of (same_upd hp)), R.zf, R.nb, fun j es a h1 h2 => by
    by_cases n1 : i = j
    · subst n1
      have l : i < τ.length := by
        rcases Nat.lt_or_ge i τ.length with z | z
        · exact z
        · rw [List.getElem?_eq_none_iff.mpr (by simpa using z)] at h1; cases h1
      rw [List.getElem?_set_self (by rw [← R.rv.len]; exact l)] at h2
      cases h2
      exact none_of_hh R.bh hp
    · rw [List.getElem?_set_ne n1] at h1 h2
      exact R.ob j es a h1 h2⟩
theorem pds_setO {i : Nat} {x : Str} {pos' : Pos} {ff : FA} (hN : X.N.Nodup) (hi : X.N[i]? = some x) (hx : Loc X.env.scope x) (he : PDF X e ff) (hs : swapsWith e (some (.Name x pos')) pos.line X.env = pure false := by rfl) (hf : X.fn x = true ∨ X.env.scope.names.lookup x = some .local := by first | exact .inl rfl | exact .inr rfl | assumption) :
    PDS X (.Assign [.Name x pos'] e pos) (sSetO i ff) :=
  PS.imp (ps_set hN hi hx he hs hf) fun E σ H ⟨B, Z, F, τ, R, h⟩ => ⟨F, τ, R.rv, h.of.imp fun ds g p vs F1 H1 x hp r => g _ F1 _ x.ff ((R.ext x).setO hp r)⟩
theorem RV.own_upd {K : PySem.W.Frag} {F H : Hp} {τ : DS} {σ : St} {i : Nat} {p : Addr} {ds es : List D} {ws : List V} (R : RV K F τ σ H) (h : τ[i]? = some (some (.own ds))) (hp : σ[i]? = some (some (.ref p))) (r : Reps K F es ws) :
    RV K F (τ.set i (some (.own es))) σ (upd H p (.lst ws)) := by
  obtain ⟨a, vs, q1, q2, q3, q4⟩ := R.own i ds h
  rw [q1] at hp; cases hp
  have l : i < τ.length := (List.getElem?_eq_some_iff.mp h).1
  refine ⟨fun b o e => ?_, by simp [R.len], fun j e h' => ?_, fun j es' h' => ?_, fun j k e1 e2 b hjk h1 h2 h3 h4 => ?_, ?_⟩
  · have n : b ≠ p := fun z => by subst z; rw [q3] at e; cases e
    rw [upd_ne n]; exact R.fh b o e
  · by_cases hij : i = j
    · subst hij; rw [List.getElem?_set_self l] at h'; cases h'
    · rw [List.getElem?_set_ne hij] at h'; exact R.val j e h'
  · by_cases hij : i = j
    · subst hij
      rw [List.getElem?_set_self l] at h'; cases h'
      exact ⟨p, ws, q1, upd_same, q3, r⟩
    · rw [List.getElem?_set_ne hij] at h'
      obtain ⟨a', vs', z1, z2, z3, z4⟩ := R.own j es' h'
      have n : a' ≠ p := fun z => by subst z; exact R.dis i j ds es' a' hij h h' q1 z1
      exact ⟨a', vs', z1, by rw [upd_ne n]; exact z2, z3, z4⟩
  · have : ∀ {m : Nat} {e : List D}, (τ.set i (some (.own es)))[m]? = some (some (.own e)) → ∃ e', τ[m]? = some (some (.own e')) := fun {m e} z => by
      by_cases him : i = m
      · subst him; exact ⟨ds, h⟩
      · rw [List.getElem?_set_ne him] at z; exact ⟨e, z⟩
    obtain ⟨x1, y1⟩ := this h1
    obtain ⟨x2, y2⟩ := this h2
    exact R.dis j k x1 x2 b hjk y1 y2 h3 h4
  · exact R.tt.step (fun _ _ e => .inl e) fun b o e n => by
      have : b ≠ p := fun z => by subst z; rw [q2] at e; cases e; exact n _ rfl
      rw [upd_ne this]; exact e
theorem RS.own_upd {K : PySem.W.Frag} {B Z F H : Hp} {τ : DS} {σ : St} {i : Nat} {p : Addr} {ds es : List D} {ws : List V} (R : RS K B Z F τ σ H) (h : τ[i]? = some (some (.own ds))) (hp : σ[i]? = some (some (.ref p))) (r : Reps K F es ws) :
    RS K B Z F (τ.set i (some (.own es))) σ (upd H p (.lst ws)) := by
  have hb := R.ob i ds p h hp
  refine ⟨R.rv.own_upd h hp r, fun b o e => ?_, R.zf, R.nb, fun j e a h1 h2 => ?_⟩
  · have n : b ≠ p := fun z => by subst z; rw [hb] at e; cases e
    rw [upd_ne n]; exact R.bh b o e
  · by_cases him : i = j
    · subst him; exact R.ob i ds a h h2
    · rw [List.getElem?_set_ne him] at h1; exact R.ob j e a h1 h2
def ownAt (τ : DS) (i : Nat) : Rs (List D) := match τ[i]? with
  | some (some (.own ds)) => .ok ds
  | _ => .no
theorem ownAt_ok {τ : DS} {i : Nat} {P : List D → Prop} (h : Ok X (ownAt τ i) P) : ∃ ds, τ[i]? = some (some (.own ds)) ∧ P ds := by
  unfold ownAt at h
  cases q : τ[i]? with
  | none => rw [q] at h; exact h.elim
  | some o =>
    cases o with
    | none => rw [q] at h; exact h.elim
    | some sl =>
      cases sl with
      | val d => rw [q] at h; exact h.elim
      | own ds => rw [q] at h; exact ⟨ds, rfl, h⟩
def sApp (i : Nat) (fe : FE) : FS := fun τ => Fl.of (ownAt τ i) fun ds => Fl.of (fe τ) fun d => if ds.length < sizeLine then .nx (τ.set i (some (.own (ds ++ [d])))) else .no
theorem pds_app {i : Nat} {x : Str} {p1 apos cpos : Pos} (hx : PE X (.Name x p1) (tVar i)) (he : PDE X e fe)
    (hfew : ((backTo cpos (starEach [e] X.env)).all (fun x => !x.1) && (backToKw cpos (keywordEach [] X.env)).all (fun x => x.1.isSome)
      && decide ([e].length + ([] : List Keyword).length + (if ([] : List Keyword).isEmpty then 0 else 1) < 30)) = true := by rfl)
    (hline : (apos.endLine == cpos.line) = true := by rfl) (hs : starEach [e] X.env = [(false, eval e X.env)] := by rfl) (hplain : (backTo cpos (starEach [] X.env)).any (·.1) = false := by rfl)
    (hbase : attributeBase (.Name x p1) "append" X.env (eval (.Name x p1) X.env) = eval (.Name x p1) X.env := by rfl)
    (hsw : swapsWith (.Call (.Attribute (.Name x p1) "append" apos) [e] [] cpos) none pos.line X.env = pure false := by rfl) :
    PDS X (.Expr (.Call (.Attribute (.Name x p1) "append" apos) [e] [] cpos) pos) (sApp i fe) :=
  PS.imp (ps_expr (pe_bm PySem.F.plainAttrs_list PySem.F.slot_list_append PySem.F.type_list_append mt_append hx (pa_cons he pa_nil (by rw [hs]; rfl)) hbase hfew hline (by rw [hs]; rfl) hplain) hsw) fun E σ H ⟨B, Z, F, τ, R, h⟩ => by
    obtain ⟨ds, h1, h2⟩ := ownAt_ok (X := X) (Post.of h)
    obtain ⟨a, vs, q1, q2, q3, q4⟩ := R.rv.own i ds h1
    refine ⟨_, q1, .inl ⟨rfl, vs, SqL.of q2⟩, ?_⟩
    refine tE.at R h2.of fun d v F1 H1 g x R1 r => ?_
    by_cases z : ds.length < sizeLine
    · rw [if_pos z] at g
      refine ⟨a, vs, v, rfl, rfl, x.hh _ _ q2, by rw [← q4.length]; exact z, ?_⟩
      exact g _ F1 _ x.ff (R1.own_upd h1 q1 ((q4.mono x.ff).append (Reps.cons r Reps.nil)))
    · rw [if_neg z] at g; exact g.elim
def sPut (i : Nat) (fi fe : FE) : FS := fun τ => Fl.of (fe τ) fun d => Fl.of (ownAt τ i) fun ds => Fl.of (fi τ) fun k => match k with
  | .int k => match ixN ds.length k with
    | some j => .nx (τ.set i (some (.own (ds.set j d))))
    | none => .no
  | _ => .no
theorem pds_put {i : Nat} {x : Str} {p1 spos : Pos} {ix : Expr} {fi : FE} (hx : PE X (.Name x p1) (tVar i)) (hi : PDE X ix fi) (he : PDE X e fe)
    (ha : ∀ v, assign (.Subscript (.Name x p1) ix spos) X.env v = (do
      let ov ← holding [v] (eval (.Name x p1) X.env)
      let iv ← holding [v, ov] (eval ix X.env)
      standAt spos
      holding [v, ov, iv] (setItem ov iv v)
      release [v, ov, iv] []) := by intro _; rfl)
    (hs : swapsWithSole [.Subscript (.Name x p1) ix spos] e pos.line X.env = pure false := by rfl) (hw : swappedStores [.Subscript (.Name x p1) ix spos] e X.env = pure none := by rfl)
    (h1 : (assignEach [.Subscript (.Name x p1) ix spos] X.env).map (·.2) = [assign (.Subscript (.Name x p1) ix spos) X.env] := by rfl) :
    PDS X (.Assign [.Subscript (.Name x p1) ix spos] e pos) (sPut i fi fe) :=
  PS.imp (ps_asg he (pg_sub hx hi set_list ha) hs hw h1) fun E σ H ⟨B, Z, F, τ, R, h⟩ => by
    refine tE.at R h.of fun d v F1 H1 g x R1 r => ?_
    obtain ⟨ds, h1, h2⟩ := ownAt_ok (X := X) (Post.of g)
    obtain ⟨a, vs, q1, q2, q3, q4⟩ := R1.rv.own i ds h1
    refine ⟨_, q1, ?_⟩
    refine tE.at R1 h2.of fun k w F2 H2 g2 x2 R2 r2 => ?_
    cases k with
    | int k =>
      simp only [Rep] at r2
      simp only at g2
      cases q : ixN ds.length k with
      | none => rw [q] at g2; exact g2.elim
      | some j =>
        rw [q] at g2
        refine ⟨a, vs, k, j, rfl, r2, x2.hh _ _ q2, by rw [← q4.length]; exact q, ?_⟩
        exact g2 _ F2 _ (x.ff.trans x2.ff) (R2.own_upd h1 q1 (Reps.set (r.mono x2.ff) j (q4.mono x2.ff)))
    | _ => exact g2.elim
def sRetO (i : Nat) : FS := fun τ => Fl.of (ownAt τ i) fun ds => .rt (.lst ds)
theorem pds_retO {i : Nat} {x : Str} {p1 : Pos} (hx : PE X (.Name x p1) (tVar i)) : PDS X (.Return (some (.Name x p1)) pos) (sRetO i) :=
  PS.imp (ps_ret hx) fun E σ H ⟨B, Z, F, τ, R, h⟩ => by
    obtain ⟨ds, h1, h2⟩ := ownAt_ok (X := X) (Post.of h)
    obtain ⟨a, vs, q1, q2, q3, q4⟩ := R.rv.own i ds h1
    have hb := R.ob i ds a h1 q1
    refine ⟨_, q1, h2 (.ref a) (upd F a (.lst vs)) H ⟨?_, R.bh, fun b o e => ?_, fun b o e => ?_, fun _ => R.rv.tt.freeze q2⟩ ?_⟩
    · exact R.zf.trans (same_upd q3)
    · by_cases z : b = a
      · subst z; rw [upd_same] at e; cases e; exact q2
      · rw [upd_ne z] at e; exact R.rv.fh b o e
    · by_cases z : b = a
      · subst z; exact .inr hb
      · rw [upd_ne z] at e; exact R.nb b o e
    · simp only [Rep]
      exact ⟨a, vs, rfl, upd_same, q4.mono (same_upd q3)⟩
def eIxO (i : Nat) (fi : FE) : FE := fun τ => (ownAt τ i).bind fun ds => (fi τ).bind fun k => match k with
  | .int k => match atI ds k with
    | some d => .ok d
    | none => .no
  | _ => .no
theorem atI_reps {K : PySem.W.Frag} {F : Hp} {ds : List D} {vs : List V} {k : Int} {d : D} (r : Reps K F ds vs) (h : atI ds k = some d) : ∃ v, atI vs k = some v ∧ Rep K F d v := by
  unfold atI at h ⊢
  rw [← r.length]
  cases q : ixN ds.length k with
  | none => rw [q] at h; cases h
  | some j =>
    rw [q] at h
    exact r.get h
theorem pde_ixO {i : Nat} {x : Str} {p1 : Pos} {ix : Expr} {fi : FE} (hx : PE X (.Name x p1) (tVar i)) (hi : PDE X ix fi) (hs : PlainIx ix := by intro _ _; rfl) : PDE X (.Subscript (.Name x p1) ix pos) (eIxO i fi) :=
  PE.imp (pe_ix ix_list hx hi hs) fun σ H Q ⟨F, τ, R, h⟩ => by
    obtain ⟨ds, h1, h2⟩ := ownAt_ok (X := X) (Ok.bind h)
    obtain ⟨a, vs, q1, q2, q3, q4⟩ := R.own i ds h1
    refine ⟨_, q1, ?_⟩
    refine tE.of R h2.bind fun k w F2 H2 g2 x2 R2 r2 => ?_
    cases k with
    | int k =>
      simp only [Rep] at r2
      simp only at g2
      cases q : atI ds k with
      | none => rw [q] at g2; exact g2.elim
      | some d =>
        rw [q] at g2
        obtain ⟨v, z1, z2⟩ := atI_reps q4 q
        exact ⟨a, vs, k, v, rfl, r2, SqL.of (x2.hh _ _ q2), z1, g2 v F2 H2 x2 (z2.mono x2.ff)⟩
    | _ => exact g2.elim
def eLenO (i : Nat) : FE := fun τ => (ownAt τ i).bind fun ds => .ok (.int ds.length)
theorem pde_lenO {i : Nat} {x : Str} {p1 p : Pos} (hx : PE X (.Name x p1) (tVar i)) (hg : Gl X "len") (hm : X.mg "len" = none)
    (he : starEach [.Name x p1] X.env = [(false, eval (.Name x p1) X.env)] := by rfl) (hpl : (backTo pos (starEach [] X.env)).any (·.1) = false := by rfl) : PDE X (.Call (.Name "len" p) [.Name x p1] [] pos) (eLenO i) :=
  PE.imp (pe_callB call_len_seq hg hm PySem.boot_len (pa_cons hx pa_nil (by rw [he]; rfl)) (he := by rw [he]; rfl) (hpl := hpl)) fun σ H Q ⟨F, τ, R, h⟩ => by
    obtain ⟨ds, h1, h2⟩ := ownAt_ok (X := X) (Ok.bind h)
    obtain ⟨a, vs, q1, q2, q3, q4⟩ := R.own i ds h1
    refine ⟨_, q1, a, vs, rfl, .inl (SqL.of q2), ?_⟩
    rw [← q4.length]
    exact h2 (.int ds.length) F H (Ext.refl R.fh) (by simp only [Rep])
def sAug (i : Nat) (op : D → D → Rs D) (fe : FE) : FS := fun τ => Fl.of (eVar i τ) fun x => Fl.of (fe τ) fun y => Fl.of (op x y) fun z => .nx (τ.set i (some (.val z)))
theorem eVar_ok {τ : DS} {i : Nat} {P : D → Prop} (h : Ok X (eVar i τ) P) : ∃ d, τ[i]? = some (some (.val d)) ∧ P d := by
  unfold eVar at h
  cases q : τ[i]? with
  | none => rw [q] at h; exact h.elim
  | some o =>
    cases o with
    | none => rw [q] at h; exact h.elim
    | some sl =>
      cases sl with
      | own d => rw [q] at h; exact h.elim
      | val ds => rw [q] at h; exact ⟨ds, rfl, h⟩
theorem pds_aug {i : Nat} {x : Str} {op : Operator} {od : D → D → Rs D} {r : TIp} {pos' : Pos} (hN : X.N.Nodup) (hi : X.N[i]? = some x) (hx : Loc X.env.scope x) (he : PDE X e fe) (ho : PIp X op r)
    (hl : ∀ F H x y dx dy Q, Same F H → Rep X.K F dx x → Rep X.K F dy y → Ok X (od dx dy) (Ev X.K F H Q) → r x y H Q)
    (hf : X.fn x = true ∨ X.env.scope.names.lookup x = some .local := by first | exact .inl rfl | exact .inr rfl | assumption) : PDS X (.AugAssign (.Name x pos') op e pos) (sAug i od fe) :=
  PS.imp (ps_aug hN hi hx he ho hf) fun E σ H ⟨B, Z, F, τ, R, h⟩ => by
    obtain ⟨d, h1, h2⟩ := eVar_ok (X := X) (Post.of h)
    obtain ⟨v, q1, q2⟩ := R.rv.val i d h1
    refine ⟨v, q1, tE.at R h2.of fun y w F1 H1 g x1 R1 r1 => ?_⟩
    refine hl F1 H1 v w d y _ R1.rv.fh (q2.mono x1.ff) r1 (g.of.imp fun z gz u F2 H2 x2 r2 => ?_)
    exact gz _ F2 H2 (x1.ff.trans x2.ff) ((R1.ext x2).set r2)
end
end FD
set_option Elab.async false
set_option linter.all false
set_option maxRecDepth 100000
namespace FD
open PySem PySem.Spec PyProof.Rows L2
variable [Tabs]
def ItOk (K : PySem.W.Frag) (J : It) (F1 : Hp) (ds : List D) : Prop := ∀ (i : Nat) (F H : Hp), Same F1 F → Same F H →
  (ds.length ≤ i → J.stop i H) ∧ ∀ d, ds[i]? = some d → J.go i H ∧ ∀ x H', J.yld i H x H' → ∃ F', Ext F H F' H' ∧ Rep K F' d x
theorem ItOk.mono {K : PySem.W.Frag} {J : It} {F1 F2 : Hp} {ds : List D} (h : ItOk K J F1 ds) (f : Same F1 F2) : ItOk K J F2 ds := fun i F H a b => h i F H (f.trans a) b
def tI (X : Cx) (f : FA) : TI := fun σ H R => ∃ F τ, RV X.K F τ σ H ∧ Ok X (f τ) fun ds => ∀ J F1 H1, Ext F H F1 H1 → ItOk X.K J F1 ds → R J H1
def PDI (X : Cx) (tg iter : Expr) (f : FA) : Prop := PI X tg iter (tI X f)
theorem _root_.L2.PI.imp {X : Cx} {tg e : Expr} {t t' : TI} (h : PI X tg e t) (f : ∀ σ H Q, t' σ H Q → t σ H Q) : PI X tg e t' := fun pins s σ H Q I q => h pins s σ H Q I (f _ _ _ q)
section
variable {X : Cx} {pos : Pos} {e tg : Expr} {es : List Expr} {fe : FE} {fs : FA}
theorem it_list {K : PySem.W.Frag} {a : Addr} {F1 : Hp} {ds : List D} {vs : List V} (e : SqL K F1 a vs) (r : Reps K F1 ds vs) : ItOk K (Itl K a) F1 ds := fun i F H f1 f2 => by
  have q : SqL K H a vs := (f1.trans f2).seq e
  refine ⟨fun h => ⟨vs, q, by rw [← r.length]; exact h⟩, fun d hd => ?_⟩
  obtain ⟨v, h1, h2⟩ := r.get hd
  refine ⟨⟨vs, v, q, h1⟩, fun x H' y => ?_⟩
  obtain ⟨e1, y⟩ := y
  subst e1
  have h3 := y vs q
  rw [h1] at h3; cases h3
  exact ⟨F, Ext.refl f2, h2.mono f1⟩
theorem it_tup {K : PySem.W.Frag} {a : Addr} {F1 : Hp} {ds : List D} {vs : List V} (e : SqT K F1 a vs) (r : Reps K F1 ds vs) : ItOk K (Itt K a) F1 ds := fun i F H f1 f2 => by
  have q : SqT K H a vs := Same.seqT (f1.trans f2) e
  refine ⟨fun h => ⟨vs, q, by rw [← r.length]; exact h⟩, fun d hd => ?_⟩
  obtain ⟨v, h1, h2⟩ := r.get hd
  refine ⟨⟨vs, v, q, h1⟩, fun x H' y => ?_⟩
  obtain ⟨e1, y⟩ := y
  subst e1
  have h3 := y vs q
  rw [h1] at h3; cases h3
  exact ⟨F, Ext.refl f2, h2.mono f1⟩
def rngD (lo : Int) (n : Nat) : List D := (List.range n).map fun (k : Nat) => D.int (lo + k)
theorem it_rng {K : PySem.W.Frag} {F1 : Hp} {lo : Int} {n : Nat} : ItOk K (Itr lo n) F1 (rngD lo n) := fun i F H f1 f2 => by
  have hl : (rngD lo n).length = n := by simp [rngD]
  refine ⟨fun h => by rw [hl] at h; exact h, fun d hd => ?_⟩
  have hi : i < n := by have := (List.getElem?_eq_some_iff.mp hd).1; rw [hl] at this; exact this
  refine ⟨hi, fun x H' y => ?_⟩
  obtain ⟨e1, y⟩ := y
  subst e1
  refine ⟨F, Ext.refl f2, ?_⟩
  simp [rngD, hi] at hd
  subst hd
  simp only [Rep]; exact y
def int1 : List D → Option Int
  | [.int j] => some j
  | _ => none
def int2 : List D → Option (Int × Int)
  | [.int i, .int j] => some (i, j)
  | _ => none
def pair2 : D → Option (D × D)
  | .tup [x, y] => some (x, y)
  | _ => none
theorem int1_eq {ds : List D} {j : Int} (h : int1 ds = some j) : ds = [.int j] := by
  unfold int1 at h; split at h <;> cases h; rfl
theorem int2_eq {ds : List D} {i j : Int} (h : int2 ds = some (i, j)) : ds = [.int i, .int j] := by
  unfold int2 at h; split at h <;> cases h; rfl
theorem pair2_eq {d x y : D} (h : pair2 d = some (x, y)) : d = .tup [x, y] := by
  unfold pair2 at h; split at h <;> cases h; rfl
def iRg1 (fs : FA) : FA := fun τ => (fs τ).bind fun ds => match int1 ds with
  | some j => if -(2 ^ 62) ≤ j ∧ j < 2 ^ 62 then .ok (rngD 0 j.toNat) else .no
  | none => .no
theorem pdi_range1 {a : Expr} {p : Pos} (hg : Gl X "range") (hm : X.mg "range" = none) (ha : PDA X [a] fs) (hs : starEach [a] X.env = [(false, eval a X.env)] := by rfl) : PDI X tg (.Call (.Name "range" p) [a] [] pos) (iRg1 fs) :=
  PI.imp (pi_range1 hg hm ha hs) fun σ H R ⟨F, τ, Rv, h⟩ => tAs.of Rv h.bind fun ds vs F1 H1 g x R1 r => by
    cases q1 : int1 ds with
    | none => rw [q1] at g; exact g.elim
    | some j =>
      rw [q1] at g
      have e := int1_eq q1
      subst e
      obtain ⟨v, rfl, q⟩ := r.one
      simp only [Rep] at q; subst q
      obtain ⟨z, g⟩ := ok_ite g
      exact ⟨j, rfl, z.1, z.2, g _ F1 H1 x it_rng⟩
abbrev FG := D → DS → Rs DS
def tG (X : Cx) (set : FG) : TG := fun v σ H Q => ∃ F τ d, RV X.K F τ σ H ∧ Rep X.K F d v ∧ Ok X (set d τ) fun τ' => ∀ σ', RV X.K F τ' σ' H → (∀ B Z, RS X.K B Z F τ σ H → RS X.K B Z F τ' σ' H) → σ'.length = σ.length → Q σ' H
def PDG (X : Cx) (tg : Expr) (set : FG) : Prop := PG X tg (tG X set)
theorem _root_.L2.PG.imp {X : Cx} {e : Expr} {t t' : TG} (h : PG X e t) (f : ∀ v σ H Q, t' v σ H Q → t v σ H Q) : PG X e t' := fun pins s σ H v u Q I r q => h pins s σ H v u Q I r (f _ _ _ _ q)
def gNm (i : Nat) : FG := fun d τ => .ok (τ.set i (some (.val d)))
theorem pdg_name {i : Nat} {x : Str} (hN : X.N.Nodup) (hi : X.N[i]? = some x) (hx : Loc X.env.scope x) (hf : X.fn x = true ∨ X.env.scope.names.lookup x = some .local := by first | exact .inl rfl | exact .inr rfl | assumption) : PDG X (.Name x pos) (gNm i) :=
  PG.imp (pg_name hN hi hx hf) fun v σ H Q ⟨F, τ, d, R, r, h⟩ => h _ (R.set r) (fun B Z R' => R'.set r) (by simp)
def gPr (i j : Nat) : FG := fun d τ => match pair2 d with
  | some (x, y) => .ok ((τ.set i (some (.val x))).set j (some (.val y)))
  | none => .no
theorem pdg_pair {i j k : Nat} {x y : Str} {px py : Pos} (hc : X.calm = true) (hN : X.N.Nodup) (hi : X.N[i]? = some x) (hx : Loc X.env.scope x) (hj : X.N[j]? = some y) (hy : Loc X.env.scope y)
    (hf : X.fn x = true ∨ X.env.scope.names.lookup x = some .local := by first | exact .inl rfl | exact .inr rfl | assumption) (hf' : X.fn y = true ∨ X.env.scope.names.lookup y = some .local := by first | exact .inl rfl | exact .inr rfl | assumption) :
    PDG X (.Tuple [.Name x px, .Name y py] k pos) (gPr i j) :=
  PG.imp (pg_tup (n := 2) hc (pgs_cons (pg_name hN hi hx hf) (pgs_cons (pg_name hN hj hy hf') pgs_nil))) fun v σ H Q ⟨F, τ, d, R, r, h⟩ => by
    unfold gPr at h
    cases q1 : pair2 d with
    | none => rw [q1] at h; exact h.elim
    | some xy =>
      obtain ⟨x, y⟩ := xy
      rw [q1] at h
      have e := pair2_eq q1
      subst e
      simp only [Rep] at r
      obtain ⟨a, vs, rfl, q, t⟩ := r
      obtain ⟨v1, v2, rfl, r1, r2⟩ := t.two
      exact ⟨a, _, rfl, Same.seqT R.fh q, rfl, v1, [v2], rfl, v2, [], rfl, rfl, h _ ((R.set r1).set r2) (fun B Z R' => (R'.set r1).set r2) (by simp)⟩
def loopD (set : FG) (body : FS) : List D → DS → Fl
  | [], τ => .nx τ
  | d :: r, τ => Fl.of (set d τ) fun τ1 => match body τ1 with
    | .nx τ' => loopD set body r τ'
    | .ct τ' => loopD set body r τ'
    | .bk τ' => .nx τ'
    | .rt d => .rt d
    | .ex c => .ex c
    | .no => .no
    | .rs c τ' => .rs c τ'
def sFor (fi : FA) (set : FG) (body : FS) : FS := fun τ => Fl.of (fi τ) fun ds => loopD set body ds τ
theorem pds_for {iter : Expr} {body : List Stmt} {fi : FA} {set : FG} {fb : FS} (hp : PassesOwn (model X.prog X.w) X.A X.env X.xe) (hc : X.calm = true) (hi : PDI X tg iter fi) (hg : PDG X tg set) (hb : PDSs X body fb)
    (hs : ∀ x, foldedSetIterable iter X.env x = pure x := by intro _; rfl) : PDS X (.For tg iter body [] pos) (sFor fi set fb) :=
  PS.imp (ps_for hp hc hi hg hb hs) fun E σ H ⟨B, Z, F, τ, R, h⟩ => by
    refine ⟨F, τ, R.rv, h.of.imp fun ds g J F1 H1 x io => ?_⟩
    refine ⟨fun i m σ H => m = ds.length - i ∧ i ≤ ds.length ∧ ∃ F' τ', Same F1 F' ∧ RS X.K B Z F' τ' σ H ∧ Post X B Z F' E (loopD set fb (ds.drop i) τ'), ⟨ds.length, by simp, Nat.zero_le _, F1, τ, Same.refl _, R.ext x, g.same x.ff⟩, ?_⟩
    rintro i m σ2 H2 ⟨rfl, hi, F2, τ2, f2, R2, p2⟩
    obtain ⟨i1, i2⟩ := io i F2 H2 f2 R2.rv.fh
    by_cases hlt : i < ds.length
    · have hd : ds.drop i = ds[i] :: ds.drop (i + 1) := List.drop_eq_getElem_cons hlt
      rw [hd] at p2
      obtain ⟨go, yl⟩ := i2 ds[i] (by simp [hlt])
      refine .inr ⟨go, fun σ' H' => ∃ F' τ', Same F2 F' ∧ RS X.K B Z F' τ' σ' H' ∧ Post X B Z F' E (loopD set fb (ds.drop (i + 1)) τ'), fun σ' H' ⟨F', τ', a, b, c⟩ => ⟨ds.length - (i + 1), by omega, rfl, hlt, F', τ', f2.trans a, b, c⟩, fun y H' yy => ?_⟩
      obtain ⟨F3, x3, r3⟩ := yl y H' yy
      have R3 := R2.ext x3
      refine ⟨F3, τ2, ds[i], R3.rv, r3, (Post.of p2).imp fun τ4 p4 σ4 _ R4 _ => ⟨B, Z, F3, τ4, R4 B Z R3, ?_⟩⟩
      cases q : fb τ4 with
      | nx τ5 => rw [q] at p4; exact fun σ' F' H' ff RR => ⟨F', τ5, x3.ff.trans ff, RR, Post.same p4 (x3.ff.trans ff)⟩
      | ct τ5 => rw [q] at p4; exact fun σ' F' H' ff RR => ⟨F', τ5, x3.ff.trans ff, RR, Post.same p4 (x3.ff.trans ff)⟩
      | bk τ5 => rw [q] at p4; exact fun σ' F' H' ff RR => p4 σ' F' H' (x3.ff.trans ff) RR
      | rt d => rw [q] at p4; exact p4
      | ex c => rw [q] at p4; exact p4
      | no => rw [q] at p4; exact p4
      | rs c τ5 => rw [q] at p4; exact fun σ' F' H' ff RR => p4 σ' F' H' (x3.ff.trans ff) RR
    · have e : i = ds.length := by omega
      subst e
      rw [List.drop_length] at p2
      exact .inl ⟨i1 (Nat.le_refl _), p2 σ2 F2 H2 (Same.refl _) R2⟩
end
def noEx (r : Rs D) : Rs D := match r with
  | .ok d => .ok d
  | _ => .no
def spD (K : PySem.W.Frag) (n : Nat) (g : List D → Rs D) : Sp := fun vs H Q E => vs.length = n ∧ ∃ ds F, Same F H ∧ TbT F H ∧ Reps K F ds vs ∧ match g ds with
  | .ok d => Ev K F H Q d
  | _ => False
def startD (N : Nat) (ds : List D) : DS := ds.map (fun d => some (.val d)) ++ List.replicate (N - ds.length) none
def flRes : Fl → Rs D
  | .rt d => .ok d
  | .nx _ => .ok .non
  | .rs c _ => .ex c
  | _ => .no
def runF (N : Nat) (fb : FS) (ds : List D) : Rs D := flRes (fb (startD N ds))
theorem rv_start {K : PySem.W.Frag} {F H : Hp} {N : List Str} {ds : List D} {vs : List V} (fh : Same F H) (tt : TbT F H) (r : Reps K F ds vs) : RS K H F F (startD N.length ds) (L2.start N vs) H := by
  have hl := r.length
  have hval : ∀ (i : Nat) (o : Sl), (startD N.length ds)[i]? = some (some o) → ∃ d, ds[i]? = some d ∧ o = .val d := fun i o h => by
    unfold startD at h
    by_cases hi : i < ds.length
    · rw [List.getElem?_append_left (by simpa using hi), List.getElem?_map] at h
      cases e : ds[i]? with
      | none => rw [e] at h; cases h
      | some d => rw [e] at h; cases h; exact ⟨d, rfl, rfl⟩
    · rw [List.getElem?_append_right (by simpa using hi), List.getElem?_replicate] at h
      split at h <;> cases h
  refine ⟨⟨fh, ?_, fun i d h => ?_, fun i es h => ?_, fun i j es es' a _ h1 _ _ _ => ?_, tt⟩, Hh.refl H, Same.refl F, fun a o e => .inl e, fun i es a h1 _ => ?_⟩
  · simp [startD, L2.start, hl]
  · obtain ⟨d', h1, h2⟩ := hval i _ h
    cases h2
    obtain ⟨v, q1, q2⟩ := r.get h1
    refine ⟨v, ?_, q2⟩
    have hi : i < vs.length := (List.getElem?_eq_some_iff.mp q1).1
    unfold L2.start
    rw [List.getElem?_append_left (by simpa using hi), List.getElem?_map, q1]; rfl
  · obtain ⟨_, _, h2⟩ := hval i _ h; cases h2
  · obtain ⟨_, _, h2⟩ := hval i _ h1; cases h2
  · obtain ⟨_, _, h2⟩ := hval i _ h1; cases h2
section
variable {P : Program} {w : World} {K : PySem.W.Frag} {mg : Str → Option Value} {base : Heap}
theorem fnD {x qual : Str} {st : Stmt} {f : Addr} {fd : FuncData} {N ps : List Str} {k n : Nat} {fb : FS} (F : Fun K x qual st f fd) (S : FnScope N ps (defScope st)) (hn : ps.length = n)
    (hbody : ∀ (cdv : Value) (A : Around) (outer : List Env) (s : Shared) (H : Hp) (E : XK), Room k (A.deeper (envOfC qual (defScope st) s.heap.objs.size f cdv)) →
      PDSs (cxOf CX0 P w K mg base N qual (defScope st) f cdv A outer s H E).nox (defBody st) fb) : FnOk P w K mg base CX0 (k + 1) f fd ps (spD K n (runF N.length fb)) := by
  refine F.ok S (fun vs H Q E h => by rw [hn]; exact h.1) fun cdv A outer s H vs Q E hr h => ⟨_, hbody cdv A outer s H E hr, ?_⟩
  obtain ⟨hl, ds, Fz, fh, tt, r, h⟩ := h
  refine ⟨H, Fz, Fz, startD N.length ds, rv_start fh tt r, ?_⟩
  unfold runF at h
  cases q : fb (startD N.length ds) with
  | nx τ => rw [q] at h; exact fun σ F' H' ff RR => h .non F' H' RR.out (by simp only [Rep])
  | rt d => rw [q] at h; exact fun v F' H' x rr => h v F' H' x rr
  | bk τ => rw [q] at h; exact h.elim
  | ct τ => rw [q] at h; exact h.elim
  | ex c => rw [q] at h; exact h.elim
  | no => rw [q] at h; exact h.elim
  | rs c τ => rw [q] at h; exact h.elim
theorem FnD.to {CX : CXT} {f : Addr} {fd : FuncData} {ps : List Str} {k n : Nat} {g g' : List D → Rs D} (F : FnOk P w K mg base CX k f fd ps (spD K n g)) (h : ∀ ds d, ds.length = n → g' ds = .ok d → g ds = .ok d) : FnOk P w K mg base CX k f fd ps (spD K n g') :=
  F.imp fun vs H Q E ⟨hl, ds, Fz, fh, tt, r, q⟩ => ⟨hl, ds, Fz, fh, tt, r, by
    cases e : g' ds with
    | ok d => rw [e] at q; rw [h ds d (by rw [r.length]; exact hl) e]; exact q
    | ex c => rw [e] at q; exact q.elim
    | no => rw [e] at q; exact q.elim⟩
end
section
variable {X : Cx} {pos : Pos} {e tg : Expr} {es : List Expr} {fe : FE} {fs : FA}
def eCall (g : List D → Rs D) (fs : FA) : FE := fun τ => (fs τ).bind fun ds => noEx (g ds)
theorem pde_call {k n : Nat} {f : Addr} {fd : FuncData} {ps : List Str} {g : List D → Rs D} {x : Str} {p : Pos} (F : FnOk X.prog X.w X.K X.mg X.base CX0 k f fd ps (spD X.K n g)) (hr : Room k X.A) (hg : Gl X x) (hm : X.mg x = some (.ref f)) (hk : PySem.W.keepIn X.K (.ref f) = true) (hb : Binds X.K fd ps [])
    (ha : PDA X (e :: es) fs) (hn : (e :: es).length = n) (hfs : ∀ τ ds, fs τ = .ok ds → ds.length = (e :: es).length) (hdb : (x == ("__debug__" : Str)) = false := by decide) (he : starEach (e :: es) X.env = (false, eval e X.env) :: starEach es X.env := by rfl) (hpl : (backTo pos (starEach es X.env)).any (·.1) = false := by rfl) :
    PDE X (.Call (.Name x p) (e :: es) [] pos) (eCall g fs) :=
  PE.imp (pe_call F hr hg hm hk hb .nil (E := E0) pass0 ha hdb he hpl) fun σ H Q ⟨Fz, τ, R, h⟩ => by
    have hb := h.bind
    refine ⟨Fz, τ, R, ?_⟩
    cases q : fs τ with
    | no => rw [q] at hb; exact hb
    | ex c => rw [q] at hb; exact hb
    | ok ds =>
      rw [q] at hb
      intro vs F1 H1 x r
      rw [List.append_nil]
      refine ⟨by rw [← r.length, hfs τ ds q, hn], ds, F1, x.fh, x.tt R.tt, r, ?_⟩
      have hb : Ok X (noEx (g ds)) (Ev X.K Fz H Q) := hb
      cases z : g ds with
      | ok d => rw [z] at hb; exact Ev.ext hb x
      | ex c => rw [z] at hb; exact hb.elim
      | no => rw [z] at hb; exact hb.elim
theorem aNil_len (τ : DS) (ds : List D) (h : aNil τ = .ok ds) : ds.length = 0 := by cases h; rfl
theorem aCons_len {f : FE} {g : FA} {n : Nat} (hg : ∀ τ ds, g τ = .ok ds → ds.length = n) (τ : DS) (ds : List D) (h : aCons f g τ = .ok ds) : ds.length = n + 1 := by
  unfold aCons at h
  cases q : f τ with
  | no => rw [q] at h; cases h
  | ex c => rw [q] at h; cases h
  | ok d =>
    rw [q] at h
    cases q2 : g τ with
    | no => rw [q2] at h; cases h
    | ex c => rw [q2] at h; cases h
    | ok r => rw [q2] at h; cases h; simp [hg τ r q2]
def CallD (X : Cx) (f : Value) (g : List D → Rs D) : Prop := ∃ r, CallR X f r ∧ ∀ F H vs ds Q, Same F H → Reps X.K F ds vs → Ok X (g ds) (Ev X.K F H Q) → r vs H Q
def eBlt (g : List D → Rs D) (fs : FA) : FE := fun τ => (fs τ).bind g
theorem pde_callB {id : String} {x : Str} {p : Pos} {g : List D → Rs D} (hc : CallD X (.builtin id) g) (hg : Gl X x) (hm : X.mg x = none) (hv : bootBuiltins x = some (.builtin id)) (ha : PDA X (e :: es) fs) (hn : x ≠ "__name__" := by decide) (hdb : (x == ("__debug__" : Str)) = false := by decide)
    (he : starEach (e :: es) X.env = (false, eval e X.env) :: starEach es X.env := by rfl) (hpl : (backTo pos (starEach es X.env)).any (·.1) = false := by rfl) : PDE X (.Call (.Name x p) (e :: es) [] pos) (eBlt g fs) := by
  obtain ⟨r, h1, h2⟩ := hc
  exact PE.imp (L2.pe_callB h1 hg hm hv ha hn hdb he hpl) fun σ H Q ⟨Fz, τ, R, h⟩ => tAs.of R h.bind fun ds vs F1 H1 q x R1 rr => h2 F1 H1 vs ds Q R1.fh rr (q.imp fun d e => e.ext x)
def IxD (X : Cx) (op : D → D → Rs D) : Prop := ∃ r : R2, IxR X r ∧ ∀ F H x y dx dy Q, Same F H → Rep X.K F dx x → Rep X.K F dy y → Ok X (op dx dy) (Ev X.K F H Q) → r x y H Q
theorem pde_ix {a b : Expr} {fa fb : FE} {op : D → D → Rs D} (hr : IxD X op) (ha : PDE X a fa) (hb : PDE X b fb) (hs : PlainIx b := by intro _ _; rfl) : PDE X (.Subscript a b pos) (eOp op fa fb) := by
  obtain ⟨r, h1, h2⟩ := hr
  exact PE.imp (pe_ix h1 ha hb hs) (op_of h2)
def ixD : D → D → Rs D
  | .lst ds, .int k => match atI ds k with
    | some d => .ok d
    | none => .no
  | .tup ds, .int k => match atI ds k with
    | some d => .ok d
    | none => .no
  | .scr ns, .int k => match atI ns k with
    | some d => .ok (.int d)
    | none => .no
  | .str x, .int k => match atI x.cps.toList k with
    | some c => if x.length ≤ sizeLine then .ok (.str ⟨#[c]⟩) else .no
    | none => .no
  | _, _ => .no
theorem atI_map {α β : Type} {f : α → β} {xs : List α} {k : Int} {a : α} (h : atI xs k = some a) : atI (xs.map f) k = some (f a) := by
  unfold atI at h ⊢
  rw [List.length_map]
  cases q : ixN xs.length k with
  | none => rw [q] at h; cases h
  | some j =>
    rw [q] at h
    have h : xs[j]? = some a := h
    show (xs.map f)[j]? = _
    rw [List.getElem?_map, h]; rfl
theorem ix_ok : IxD X ixD := ⟨_, ix_seq, fun F H x y dx dy Q fh r1 r2 h => by
  cases dx with
  | lst ds =>
    cases dy with
    | int k =>
      simp only [Rep] at r1 r2; obtain ⟨a, vs, rfl, q, t⟩ := r1; subst r2
      simp only [ixD] at h
      cases z : atI ds k with
      | none => rw [z] at h; exact h.elim
      | some d =>
        rw [z] at h
        obtain ⟨v, z1, z2⟩ := atI_reps t z
        exact .inl ⟨a, vs, k, v, rfl, rfl, SqL.of (fh _ _ q), z1, h v F H (Ext.refl fh) z2⟩
    | _ => exact h.elim
  | tup ds =>
    cases dy with
    | int k =>
      simp only [Rep] at r1 r2; obtain ⟨a, vs, rfl, q, t⟩ := r1; subst r2
      simp only [ixD] at h
      cases z : atI ds k with
      | none => rw [z] at h; exact h.elim
      | some d =>
        rw [z] at h
        obtain ⟨v, z1, z2⟩ := atI_reps t z
        exact .inr (.inl ⟨a, vs, k, v, rfl, rfl, Same.seqT fh q, z1, h v F H (Ext.refl fh) z2⟩)
    | _ => exact h.elim
  | scr ns =>
    cases dy with
    | int k =>
      simp only [Rep] at r1 r2; obtain ⟨a, rfl, q⟩ := r1; subst r2
      simp only [ixD] at h
      cases z : atI ns k with
      | none => rw [z] at h; exact h.elim
      | some d =>
        rw [z] at h
        exact .inl ⟨a, _, k, .int d, rfl, rfl, fh.seq q, atI_map z, h (.int d) F H (Ext.refl fh) (by simp only [Rep])⟩
    | _ => exact h.elim
  | str x =>
    cases dy with
    | int k =>
      simp only [Rep] at r1 r2; subst r1; subst r2
      simp only [ixD] at h
      cases z : atI x.cps.toList k with
      | none => rw [z] at h; exact h.elim
      | some c =>
        rw [z] at h
        obtain ⟨z2, h⟩ := ok_ite h
        exact .inr (.inr ⟨x, k, c, rfl, rfl, z2, z, h _ F H (Ext.refl fh) (by simp only [Rep])⟩)
    | _ => exact h.elim
  | _ => cases dy <;> exact h.elim⟩
end
end FD
set_option Elab.async false
set_option linter.all false
set_option maxRecDepth 100000
namespace FD
open PySem PySem.Spec PyProof.Rows L2
variable [Tabs]
mutual
def toPy : D → PyData
  | .non => .none
  | .bl b => .bool b
  | .int i => .int i
  | .str x => .str x
  | .lst ds => .list (toPys ds)
  | .tup ds => .tuple (toPys ds)
  | .scr ns => .list (ns.map .int)
  | .raw _ => .none
  | .exc _ => .none
def toPys : List D → List PyData
  | [] => []
  | d :: r => toPy d :: toPys r
end
mutual
def plainD : D → Bool
  | .lst ds => plainDs ds
  | .tup ds => plainDs ds
  | .raw _ => false
  | .exc _ => false
  | _ => true
def plainDs : List D → Bool
  | [] => true
  | d :: r => plainD d && plainDs r
end
theorem readsAll_ints {h : Heap} : ∀ {ns : List Int} {us : List Value}, Vals (ns.map V.int) us → ReadsAll h us (ns.map .int) []
  | [], _, .nil => .nil
  | n :: ns, _, .cons r t => by
    obtain ⟨tk, rfl⟩ := r
    exact .cons (as := []) (bs := []) (.int n tk) (readsAll_ints t)
section
variable {X : Cx} {pins : List (Addr × Obj)} {σ : St} {F H : Hp} {s : Shared}
mutual
theorem reads_of (I : Inv X pins σ H s) (fh : Same F H) : ∀ (d : D) {v : V} {u : Value}, Rep X.K F d v → RelV v u → plainD d = true → ∃ as, Reads s.heap u (toPy d) as
  | .non, v, u, r, rv, _ => by simp only [Rep] at r; subst r; cases rv; exact ⟨[], .none⟩
  | .bl b, v, u, r, rv, _ => by simp only [Rep] at r; subst r; cases rv; exact ⟨[], .bool b⟩
  | .int i, v, u, r, rv, _ => by simp only [Rep] at r; subst r; obtain ⟨t, rfl⟩ := rv; exact ⟨[], .int i t⟩
  | .str x, v, u, r, rv, _ => by simp only [Rep] at r; subst r; obtain ⟨t, rfl⟩ := rv; exact ⟨[], .str x t⟩
  | .lst ds, v, u, r, rv, hp => by
    simp only [Rep] at r; obtain ⟨a, vs, rfl, q, t⟩ := r
    cases rv
    obtain ⟨its, rr, ⟨o, n, e, c, _, dd⟩, _⟩ := I.list (SqL.of (K := X.K) (fh _ _ q))
    obtain ⟨as, ra⟩ := readss_of I fh ds t rr (by simpa only [plainD] using hp)
    exact ⟨a :: as, by rw [toPy]; exact .list e c dd (by simpa using ra)⟩
  | .tup ds, v, u, r, rv, hp => by
    simp only [Rep] at r; obtain ⟨a, vs, rfl, q, t⟩ := r
    cases rv
    obtain ⟨its, rr, ⟨o, e, c, n, dd⟩, _⟩ := I.tuple (Same.seqT fh q)
    obtain ⟨as, ra⟩ := readss_of I fh ds t rr (by simpa only [plainD] using hp)
    exact ⟨as, by rw [toPy]; exact .tuple e c dd (by simpa using ra)⟩
  | .scr ns, v, u, r, rv, hp => by
    simp only [Rep] at r; obtain ⟨a, rfl, q⟩ := r
    cases rv
    obtain ⟨its, rr, ⟨o, n, e, c, _, dd⟩, _⟩ := I.list (fh.seq q)
    exact ⟨[a], by rw [toPy]; exact .list e c dd (by simpa using readsAll_ints rr)⟩
  | .raw w, v, u, r, rv, hp => by simp [plainD] at hp
  | .exc w, v, u, r, rv, hp => by simp [plainD] at hp
theorem readss_of (I : Inv X pins σ H s) (fh : Same F H) : ∀ (ds : List D) {vs : List V} {us : List Value}, Reps X.K F ds vs → Vals vs us → plainDs ds = true → ∃ as, ReadsAll s.heap us (toPys ds) as
  | [], vs, us, r, rv, _ => by simp only [Reps] at r; subst r; cases rv; exact ⟨[], by rw [toPys]; exact .nil⟩
  | d :: ds, vs, us, r, rv, hp => by
    simp only [Reps] at r
    obtain ⟨v, r', rfl, q, t⟩ := r
    simp only [plainDs, Bool.and_eq_true] at hp
    cases rv with
    | cons r1 r2 =>
      obtain ⟨as, h1⟩ := reads_of I fh d q r1 hp.1
      obtain ⟨bs, h2⟩ := readss_of I fh ds t r2 hp.2
      exact ⟨as ++ bs, by rw [toPys]; exact .cons h1 h2⟩
end
end
def okD (d : D) : Bool := plainD d && (toPy d).canLay0 && decide ((toPy d).depth ≤ 60)
theorem okD_iff {d : D} (h : okD d = true) : plainD d = true ∧ (toPy d).canLay0 = true ∧ (toPy d).depth ≤ 60 := by
  simpa [okD, and_assoc] using h
def eqvD (d e : D) : Bool := PyData.eqv (toPy d) (toPy e)
def eqD : D → D → Rs D
  | .str x, .str y => .ok (.bl (x == y))
  | .int x, .int y => .ok (.bl (x == y))
  | d, e => if okD d = true ∧ okD e = true then .ok (.bl (eqvD d e)) else .no
def neD : D → D → Rs D
  | .str x, .str y => .ok (.bl (!(x == y)))
  | .int x, .int y => .ok (.bl (!(x == y)))
  | d, e => if okD d = true ∧ okD e = true then .ok (.bl (!eqvD d e)) else .no
section
variable {X : Cx}
def rDeep (K : PySem.W.Frag) (b : D → D → Bool) : R2 := fun x y H Q => ∃ F d e, Same F H ∧ Rep K F d x ∧ Rep K F e y ∧ okD d = true ∧ okD e = true ∧ Q (.bl (b d e)) H
theorem op_eqDeep (hu : X.A.units + 64 < cLine) : OpR X (compareOp .Eq) (rDeep X.K eqvD) := by
  intro pins s σ H x y v u Q I rx ry h
  obtain ⟨F, d, e, fh, r1, r2, o1, o2, q⟩ := h
  obtain ⟨p1, c1, e1⟩ := okD_iff o1
  obtain ⟨p2, c2, e2⟩ := okD_iff o2
  obtain ⟨as, h1⟩ := reads_of I fh d r1 rx p1
  obtain ⟨bs, h2⟩ := reads_of I fh e r2 ry p2
  exact SeqAt.compareEq_reads h1 h2 c1 c2 (by omega) ⟨.bl _, H, I, rfl, q⟩
theorem op_neDeep (hu : X.A.units + 64 < cLine) : OpR X (compareOp .NotEq) (rDeep X.K fun d e => !eqvD d e) := by
  intro pins s σ H x y v u Q I rx ry h
  obtain ⟨F, d, e, fh, r1, r2, o1, o2, q⟩ := h
  obtain ⟨p1, c1, e1⟩ := okD_iff o1
  obtain ⟨p2, c2, e2⟩ := okD_iff o2
  obtain ⟨as, h1⟩ := reads_of I fh d r1 rx p1
  obtain ⟨bs, h2⟩ := reads_of I fh e r2 ry p2
  exact SeqAt.compareNe_reads h1 h2 c1 c2 (by omega) ⟨.bl _, H, I, rfl, q⟩
theorem opd_eq (hu : X.A.units + 64 < cLine) : OpD X (compareOp .Eq) eqD := ⟨_, op_eq.or (op_eqDeep hu), fun F H x y dx dy Q fh r1 r2 h => by
  have gen : (Ok X (if okD dx = true ∧ okD dy = true then .ok (.bl (eqvD dx dy)) else .no) (Ev X.K F H Q)) → rEq x y H Q ∨ rDeep X.K eqvD x y H Q := fun h => by
    obtain ⟨z, h⟩ := ok_ite h
    exact .inr ⟨F, dx, dy, fh, r1, r2, z.1, z.2, h _ F H (Ext.refl fh) (by simp only [Rep])⟩
  cases dx with
  | str a =>
    cases dy with
    | str b =>
      simp only [Rep] at r1 r2; subst r1; subst r2
      exact .inl ⟨rfl, by rw [dec_str]; exact h _ F H (Ext.refl fh) (by simp only [Rep])⟩
    | _ => exact gen h
  | int a =>
    cases dy with
    | int b =>
      simp only [Rep] at r1 r2; subst r1; subst r2
      exact .inl ⟨rfl, by rw [dec_int]; exact h _ F H (Ext.refl fh) (by simp only [Rep])⟩
    | _ => exact gen h
  | _ => exact gen h⟩
theorem opd_ne (hu : X.A.units + 64 < cLine) : OpD X (compareOp .NotEq) neD := ⟨_, op_ne.or (op_neDeep hu), fun F H x y dx dy Q fh r1 r2 h => by
  have gen : (Ok X (if okD dx = true ∧ okD dy = true then .ok (.bl (!eqvD dx dy)) else .no) (Ev X.K F H Q)) → rNe x y H Q ∨ rDeep X.K (fun d e => !eqvD d e) x y H Q := fun h => by
    obtain ⟨z, h⟩ := ok_ite h
    exact .inr ⟨F, dx, dy, fh, r1, r2, z.1, z.2, h _ F H (Ext.refl fh) (by simp only [Rep])⟩
  cases dx with
  | str a =>
    cases dy with
    | str b =>
      simp only [Rep] at r1 r2; subst r1; subst r2
      exact .inl ⟨rfl, by rw [dec_str]; exact h _ F H (Ext.refl fh) (by simp only [Rep])⟩
    | _ => exact gen h
  | int a =>
    cases dy with
    | int b =>
      simp only [Rep] at r1 r2; subst r1; subst r2
      exact .inl ⟨rfl, by rw [dec_int]; exact h _ F H (Ext.refl fh) (by simp only [Rep])⟩
    | _ => exact gen h
  | _ => exact gen h⟩
def intOp (C : Int → Int → Bool) (g : Int → Int → D) : D → D → Rs D
  | .int i, .int j => if C i j = true then .ok (g i j) else .no
  | _, _ => .no
theorem opd_int {f : Value → Value → Sem Value} {C' : Int → Int → Prop} {C : Int → Int → Bool} {gv : Int → Int → V} {g : Int → Int → D} (h : OpR X f (rI C' gv)) (hc : ∀ i j, C i j = true → C' i j) (hg : ∀ F i j, Rep X.K F (g i j) (gv i j)) : OpD X f (intOp C g) :=
  ⟨_, h, fun F H x y dx dy Q fh r1 r2 q => by
    cases dx with
    | int i =>
      cases dy with
      | int j =>
        simp only [Rep] at r1 r2; subst r1; subst r2
        obtain ⟨z, q⟩ := ok_ite q
        exact ⟨i, j, rfl, rfl, hc i j z, q _ F H (Ext.refl fh) (hg F i j)⟩
      | _ => exact q.elim
    | _ => cases dy <;> exact q.elim⟩
def intOp0 (g : Int → Int → D) : D → D → Rs D
  | .int i, .int j => .ok (g i j)
  | _, _ => .no
theorem opd_int0 {f : Value → Value → Sem Value} {gv : Int → Int → V} {g : Int → Int → D} (h : OpR X f (rI0 gv)) (hg : ∀ F i j, Rep X.K F (g i j) (gv i j)) : OpD X f (intOp0 g) :=
  ⟨_, h, fun F H x y dx dy Q fh r1 r2 q => by
    cases dx with
    | int i =>
      cases dy with
      | int j =>
        simp only [Rep] at r1 r2; subst r1; subst r2
        exact ⟨i, j, rfl, rfl, q _ F H (Ext.refl fh) (hg F i j)⟩
      | _ => exact q.elim
    | _ => cases dy <;> exact q.elim⟩
def subD := intOp0 fun i j => .int (i - j)
theorem opd_sub : OpD X (binaryOp .Sub) subD := opd_int0 op_sub fun _ _ _ => by simp only [Rep]
def modD := intOp (fun _ j => decide (0 < j)) fun i j => .int (i % j)
theorem opd_mod : OpD X (binaryOp .Mod) modD := opd_int op_mod (fun i j h => by simpa using h) fun _ _ _ => by simp only [Rep]
def fdivD := intOp (fun _ j => decide (0 < j ∧ j < 1073741824)) fun i j => .int (i / j)
theorem opd_fdiv : OpD X (binaryOp .FloorDiv) fdivD := opd_int op_fdiv (fun i j h => by have h' : 0 < j ∧ j < 1073741824 := of_decide_eq_true h; exact h') fun _ _ _ => by simp only [Rep]
def ltI := intOp0 fun i j => .bl (decide (i < j))
def leD := intOp0 fun i j => .bl (decide (i ≤ j))
def gtD := intOp0 fun i j => .bl (decide (j < i))
def geD := intOp0 fun i j => .bl (decide (j ≤ i))
theorem opd_lt : OpD X (compareOp .Lt) ltI := opd_int0 op_lt fun _ _ _ => by simp only [Rep]
theorem opd_le : OpD X (compareOp .LtE) leD := opd_int0 op_le fun _ _ _ => by simp only [Rep]
theorem opd_gt : OpD X (compareOp .Gt) gtD := opd_int0 op_gt fun _ _ _ => by simp only [Rep]
theorem opd_ge : OpD X (compareOp .GtE) geD := opd_int0 op_ge fun _ _ _ => by simp only [Rep]
def addD : D → D → Rs D
  | .int i, .int j => .ok (.int (i + j))
  | .str i, .str j => if i.length + j.length ≤ sizeLine then .ok (.str (i ++ j)) else .no
  | .lst i, .lst j => if i.length + j.length ≤ sizeLine then .ok (.lst (i ++ j)) else .no
  | _, _ => .no
theorem opd_add : OpD X (binaryOp .Add) addD := ⟨_, op_add.or (op_add_str.or op_cat), fun F H x y dx dy Q fh r1 r2 q => by
  cases dx with
  | int i =>
    cases dy with
    | int j =>
      simp only [Rep] at r1 r2; subst r1; subst r2
      exact .inl ⟨i, j, rfl, rfl, q _ F H (Ext.refl fh) (by simp only [Rep])⟩
    | _ => exact q.elim
  | str i =>
    cases dy with
    | str j =>
      simp only [Rep] at r1 r2; subst r1; subst r2
      obtain ⟨z, q⟩ := ok_ite q
      exact .inr (.inl ⟨i, j, rfl, rfl, z, q _ F H (Ext.refl fh) (by simp only [Rep])⟩)
    | _ => exact q.elim
  | lst i =>
    cases dy with
    | lst j =>
      simp only [Rep] at r1 r2
      obtain ⟨a, vs, rfl, e1, t1⟩ := r1
      obtain ⟨b, ws, rfl, e2, t2⟩ := r2
      obtain ⟨z, q⟩ := ok_ite q
      refine .inr (.inr ⟨a, b, vs, ws, rfl, rfl, fh _ _ e1, fh _ _ e2, by rw [← t1.length, ← t2.length]; exact z, fun p hp => q _ _ _ (Ext.new fh hp) ?_⟩)
      simp only [Rep]
      exact ⟨p, vs ++ ws, rfl, upd_same, (t1.append t2).mono (same_upd (none_of_same fh hp))⟩
    | _ => exact q.elim
  | _ => cases dy <;> exact q.elim⟩
def mulD : D → D → Rs D
  | .int i, .int j => if (-(18446744073709551616) < i ∧ i < 18446744073709551616) ∨ (-(18446744073709551616) < j ∧ j < 18446744073709551616) then .ok (.int (i * j)) else .no
  | .lst i, .int k => if k < 16777216 ∧ -16777216 < k ∧ i.length * k.toNat ≤ sizeLine then .ok (.lst (List.replicate k.toNat i).flatten) else .no
  | _, _ => .no
theorem opd_mul : OpD X (binaryOp .Mult) mulD := ⟨_, op_mul.or op_rep, fun F H x y dx dy Q fh r1 r2 q => by
  cases dx with
  | int i =>
    cases dy with
    | int j =>
      simp only [Rep] at r1 r2; subst r1; subst r2
      obtain ⟨z, q⟩ := ok_ite q
      refine .inl ⟨i, j, rfl, rfl, ?_, q _ F H (Ext.refl fh) (by simp only [Rep])⟩
      unfold CMul
      rcases z with z | z
      · exact .inl (by omega)
      · exact .inr (by omega)
    | _ => exact q.elim
  | lst i =>
    cases dy with
    | int k =>
      simp only [Rep] at r1 r2
      obtain ⟨a, vs, rfl, e1, t1⟩ := r1
      subst r2
      obtain ⟨z, q⟩ := ok_ite q
      refine .inr ⟨a, k, vs, rfl, rfl, fh _ _ e1, by omega, by omega, by rw [← t1.length]; exact z.2.2, fun p hp => q _ _ _ (Ext.new fh hp) ?_⟩
      simp only [Rep]
      exact ⟨p, _, rfl, upd_same, (t1.rep k.toNat).mono (same_upd (none_of_same fh hp))⟩
    | _ => exact q.elim
  | _ => cases dy <;> exact q.elim⟩
def strIn (i j : Str) : Bool := !(Builtin.Str.occurrences j i 0 j.length 1).isEmpty
def inD : D → D → Rs D
  | .str i, .str j => .ok (.bl (strIn i j))
  | d, .lst xs => if okD d = true ∧ okD (.lst xs) = true then .ok (.bl (xs.any fun y => eqvD y d)) else .no
  | d, .tup xs => if okD d = true ∧ okD (.tup xs) = true then .ok (.bl (xs.any fun y => eqvD y d)) else .no
  | _, _ => .no
theorem toPys_map : ∀ xs : List D, toPys xs = xs.map toPy
  | [] => rfl
  | d :: r => by rw [toPys, toPys_map r, List.map_cons]
theorem any_toPys (xs : List D) (d : D) : ((toPys xs).any fun y => PyData.eqv y (toPy d)) = xs.any fun y => eqvD y d := by
  rw [toPys_map, List.any_map]; rfl
def rInD (K : PySem.W.Frag) (neg : Bool) : R2 := fun x y H Q => ∃ F d e xs, Same F H ∧ Rep K F d x ∧ Rep K F e y ∧ okD d = true ∧ okD e = true ∧ (e = .lst xs ∨ e = .tup xs) ∧ Q (.bl (if neg then !(xs.any fun y => eqvD y d) else xs.any fun y => eqvD y d)) H
theorem op_inDeep (hu : X.A.units + 128 < cLine) : OpR X (compareOp .In) (rInD X.K false) := by
  intro pins s σ H x y v u Q I rx ry h
  obtain ⟨F, d, e, xs, fh, r1, r2, o1, o2, he, q⟩ := h
  obtain ⟨p1, c1, e1⟩ := okD_iff o1
  obtain ⟨p2, c2, e2⟩ := okD_iff o2
  obtain ⟨as, h1⟩ := reads_of I fh d r1 rx p1
  obtain ⟨bs, h2⟩ := reads_of I fh e r2 ry p2
  rcases he with rfl | rfl
  · rw [toPy] at h2 c2 e2
    refine SeqAt.in_list_reads h2 h1 (by simpa only [PyData.canLay0] using c2) c1 (by omega) ⟨.bl _, H, I, rfl, ?_⟩
    rw [any_toPys]; exact q
  · rw [toPy] at h2 c2 e2
    refine SeqAt.in_tuple_reads h2 h1 (by simpa only [PyData.canLay0] using c2) c1 (by omega) ⟨.bl _, H, I, rfl, ?_⟩
    rw [any_toPys]; exact q
theorem opd_in (hu : X.A.units + 128 < cLine) : OpD X (compareOp .In) inD := ⟨_, op_in_str.or (op_inDeep hu), fun F H x y dx dy Q fh r1 r2 q => by
  cases dy with
  | lst xs =>
    have q' : Ok X (if okD dx = true ∧ okD (.lst xs) = true then .ok (.bl (xs.any fun y => eqvD y dx)) else .no) (Ev X.K F H Q) := by cases dx <;> exact q
    obtain ⟨z, q⟩ := ok_ite q'
    exact .inr ⟨F, dx, _, xs, fh, r1, r2, z.1, z.2, .inl rfl, q _ F H (Ext.refl fh) (by simp only [Rep]; rfl)⟩
  | tup xs =>
    have q' : Ok X (if okD dx = true ∧ okD (.tup xs) = true then .ok (.bl (xs.any fun y => eqvD y dx)) else .no) (Ev X.K F H Q) := by cases dx <;> exact q
    obtain ⟨z, q⟩ := ok_ite q'
    exact .inr ⟨F, dx, _, xs, fh, r1, r2, z.1, z.2, .inr rfl, q _ F H (Ext.refl fh) (by simp only [Rep]; rfl)⟩
  | str j =>
    cases dx with
    | str i =>
      simp only [Rep] at r1 r2; subst r1; subst r2
      exact .inl ⟨i, j, rfl, rfl, q _ F H (Ext.refl fh) (by simp only [Rep, strIn])⟩
    | _ => exact q.elim
  | _ => cases dx <;> exact q.elim⟩
def isN : D → Rs Bool
  | .non => .ok true
  | .raw _ => .no
  | .exc _ => .no
  | _ => .ok false
def isD (d e : D) : Rs D := match e with
  | .non => (isN d).bind fun b => .ok (.bl b)
  | _ => .no
def isNotD (d e : D) : Rs D := match e with
  | .non => (isN d).bind fun b => .ok (.bl (!b))
  | _ => .no
theorem isN_dec {F : Hp} {d : D} {v : V} {P : Bool → Prop} (r : Rep X.K F d v) (h : Ok X (isN d) P) : P (decide (v = .non)) := by
  cases d with
  | non => simp only [Rep] at r; subst r; exact h
  | bl b => simp only [Rep] at r; subst r; exact h
  | int b => simp only [Rep] at r; subst r; exact h
  | str b => simp only [Rep] at r; subst r; exact h
  | lst b => simp only [Rep] at r; obtain ⟨a, vs, rfl, _⟩ := r; exact h
  | tup b => simp only [Rep] at r; obtain ⟨a, vs, rfl, _⟩ := r; exact h
  | scr b => simp only [Rep] at r; obtain ⟨a, rfl, _⟩ := r; exact h
  | raw b => exact h.elim
  | exc b => exact h.elim
theorem opd_is : OpD X (compareOp .Is) isD := ⟨_, op_isN, fun F H x y dx dy Q fh r1 r2 q => by
  cases dy with
  | non => simp only [Rep] at r2; exact ⟨r2, isN_dec r1 (Ok.bind q) _ F H (Ext.refl fh) (by simp only [Rep])⟩
  | _ => exact q.elim⟩
theorem opd_isNot : OpD X (compareOp .IsNot) isNotD := ⟨_, op_notN, fun F H x y dx dy Q fh r1 r2 q => by
  cases dy with
  | non => simp only [Rep] at r2; have q' : Ok X ((isN dx).bind fun b => Rs.ok (D.bl (!b))) (Ev X.K F H Q) := q; have q2 := isN_dec (P := fun b => Ok X (Rs.ok (D.bl (!b))) (Ev X.K F H Q)) r1 (Ok.bind q'); exact ⟨r2, q2 _ F H (Ext.refl fh) (by simp only [Rep])⟩
  | _ => exact q.elim⟩
def eNeg (fa : FE) : FE := fun τ => (fa τ).bind fun d => match d with
  | .int i => .ok (.int (-i))
  | _ => .no
theorem pde_neg {a : Expr} {pos : Pos} {fa : FE} (ha : PDE X a fa) : PDE X (.UnaryOp .USub a pos) (eNeg fa) :=
  PE.imp (pe_un un_neg ha) fun σ H Q ⟨F, τ, R, h⟩ => tE.of R h.bind fun d v F1 H1 g x R1 r => by
    cases d with
    | int i => simp only [Rep] at r; exact ⟨i, r, g _ F1 H1 x (by simp only [Rep])⟩
    | _ => exact g.elim
end
end FD
set_option Elab.async false
set_option linter.all false
set_option maxRecDepth 100000
namespace FD
open PySem PySem.Spec PyProof.Rows L2
variable [Tabs]
def closStep (env : Env) (cs : List (Str × Addr)) (y : Str × NameKind) : List (Str × Addr) := if y.2 == NameKind.free then (y.1, (env.cells.lookup y.1).getD 0) :: cs else cs
def closOf (scope : Scope) (env : Env) : List (Str × Addr) := scope.names.foldl (closStep env) []
theorem closureFor_eq {scope : Scope} {env : Env} (h : ∀ y ∈ scope.names, y.2 = .free → (env.cells.lookup y.1).isSome = true) : closureFor scope env = pure (closOf scope env) := by
  unfold closureFor closOf
  generalize scope.names = names at h
  have gen : ∀ (cs : List (Str × Addr)), (forIn names cs fun x r => (do
      if (x.2 == NameKind.free) = true then do
        let c ← cellOf env x.1
        pure PUnit.unit
        pure (ForInStep.yield ((x.1, c) :: r))
      else do
        pure PUnit.unit
        pure (ForInStep.yield r)) : Sem (List (Str × Addr))) = pure (names.foldl (closStep env) cs) := by
    induction names with
    | nil => intro cs; rfl
    | cons y r ih =>
      intro cs
      rw [List.forIn_cons, List.foldl_cons]
      by_cases hk : y.2 = .free
      · obtain ⟨c, hc⟩ := Option.isSome_iff_exists.mp (h y List.mem_cons_self hk)
        have e : closStep env cs y = (y.1, c) :: cs := by simp [closStep, hk, hc]
        rw [e, ← ih (fun z hz => h z (List.mem_cons_of_mem _ hz))]
        simp only [hk, beq_self_eq_true, if_true, cellOf, hc]
        rfl
      · have hb : (y.2 == NameKind.free) = false := by simpa using hk
        have e : closStep env cs y = cs := by simp [closStep, hb]
        rw [e, ← ih (fun z hz => h z (List.mem_cons_of_mem _ hz))]
        simp only [hb, Bool.false_eq_true, if_false]
        rfl
  show ((forIn names ([] : List (Str × Addr)) fun x r => (do
      if (x.2 == NameKind.free) = true then do
        let c ← cellOf env x.1
        pure PUnit.unit
        pure (ForInStep.yield ((x.1, c) :: r))
      else do
        pure PUnit.unit
        pure (ForInStep.yield r)) : Sem (List (Str × Addr))) >>= fun s => pure s) = _
  rw [gen []]
  rfl
theorem clos_lookup {env : Env} {x : Str} : ∀ {names : List (Str × NameKind)} {cs : List (Str × Addr)} {c : Addr}, (names.foldl (closStep env) cs).lookup x = some c → cs.lookup x = some c ∨ (∃ y ∈ names, y.1 = x ∧ y.2 = .free ∧ c = (env.cells.lookup x).getD 0)
  | [], cs, c, h => .inl h
  | y :: r, cs, c, h => by
    rw [List.foldl_cons] at h
    rcases clos_lookup h with q | ⟨z, hz, e⟩
    · by_cases hk : y.2 = .free
      · have e : closStep env cs y = (y.1, (env.cells.lookup y.1).getD 0) :: cs := by simp [closStep, hk]
        rw [e, List.lookup_cons] at q
        by_cases hx : x = y.1
        · subst hx
          simp at q
          exact .inr ⟨y, List.mem_cons_self, rfl, hk, q.symm⟩
        · have hb : (x == y.1) = false := by simpa using hx
          rw [hb] at q
          exact .inl q
      · have hb : (y.2 == NameKind.free) = false := by simpa using hk
        have e : closStep env cs y = cs := by simp [closStep, hb]
        rw [e] at q
        exact .inl q
    · exact .inr ⟨z, List.mem_cons_of_mem _ hz, e⟩
theorem clos_has {env : Env} {x : Str} : ∀ {names : List (Str × NameKind)} {cs : List (Str × Addr)}, ((∃ y ∈ names, y.1 = x ∧ y.2 = .free) ∨ ∃ c, cs.lookup x = some c) → ∃ c, (names.foldl (closStep env) cs).lookup x = some c
  | [], cs, h => by
    rcases h with ⟨y, hy, _⟩ | h
    · cases hy
    · exact h
  | y :: r, cs, h => by
    rw [List.foldl_cons]
    refine clos_has ?_
    by_cases hk : y.2 = .free
    · have e : closStep env cs y = (y.1, (env.cells.lookup y.1).getD 0) :: cs := by simp [closStep, hk]
      rw [e]
      by_cases hx : x = y.1
      · subst hx; exact .inr ⟨(env.cells.lookup y.1).getD 0, by rw [List.lookup_cons]; simp⟩
      · have hb : (x == y.1) = false := by simpa using hx
        rcases h with ⟨z, hz, e1, e2⟩ | ⟨c, hc⟩
        · rcases List.mem_cons.mp hz with rfl | hz
          · exact absurd e1.symm hx
          · exact .inl ⟨z, hz, e1, e2⟩
        · exact .inr ⟨c, by rw [List.lookup_cons, hb]; exact hc⟩
    · have hb : (y.2 == NameKind.free) = false := by simpa using hk
      have e : closStep env cs y = cs := by simp [closStep, hb]
      rw [e]
      rcases h with ⟨z, hz, e1, e2⟩ | h
      · rcases List.mem_cons.mp hz with rfl | hz
        · exact absurd e2 hk
        · exact .inl ⟨z, hz, e1, e2⟩
      · exact .inr h
def _root_.L2.Cx.comp (X : Cx) (scope : Scope) (N : List Str) (s : Shared) (H : Hp) (C : Addr) (fp : List Addr) : Cx :=
  { prog := X.prog, w := X.w, K := X.K, mg := X.mg, base := X.base, A := X.A, N := N, s₀ := s, H₀ := H, env := compEnvC scope (closOf scope X.env) C X.env, outer := X.stack, stack := X.stack, ex := fp, fn := fun _ => false, calm := X.calm, pn := [], xe := fun _ _ => False }
structure CompScope (X : Cx) (scope : Scope) : Prop where
  kind : scope.kind = .function
  nocell : ∀ y ∈ scope.names, y.2 ≠ .cell
  locs : ∀ y ∈ scope.names, y.2 = .local → scope.names.lookup y.1 = some .local
  free : ∀ y ∈ scope.names, y.2 = .free → X.env.kindOf y.1 = some .cell ∨ X.env.kindOf y.1 = some .free
theorem lookup_relabel_free {env : Env} : ∀ {names : List (Str × NameKind)} {x : Str}, ((names.map fun (n, k) => if (k == NameKind.free && env.scope.kind == .function && env.kindOf n == some .cell) then (n, NameKind.cell) else (n, k)).lookup x = some .cell ∨
      (names.map fun (n, k) => if (k == NameKind.free && env.scope.kind == .function && env.kindOf n == some .cell) then (n, NameKind.cell) else (n, k)).lookup x = some .free) → (∀ y ∈ names, y.2 ≠ .cell) → ∃ y ∈ names, y.1 = x ∧ y.2 = .free
  | [], _, h, _ => by rcases h with h | h <;> simp at h
  | (n, k) :: r, x, h, hc => by
    have hr : ∀ y ∈ r, y.2 ≠ .cell := fun y hy => hc y (List.mem_cons_of_mem _ hy)
    rw [List.map_cons] at h
    by_cases hx : x = n
    · subst hx
      by_cases hk : k = .free
      · exact ⟨_, List.mem_cons_self, rfl, hk⟩
      · have hb : (k == NameKind.free) = false := by simpa using hk
        have hck : k ≠ .cell := hc (x, k) List.mem_cons_self
        simp only [hb, Bool.false_and, Bool.false_eq_true, if_false, List.lookup_cons, beq_self_eq_true] at h
        rcases h with h | h
        · exact absurd (Option.some.inj h) hck
        · exact absurd (Option.some.inj h) hk
    · have hb : (x == n) = false := by simpa using hx
      have step : ∀ q : Str × NameKind, q.1 = n → ((q :: (r.map fun (n, k) => if (k == NameKind.free && env.scope.kind == .function && env.kindOf n == some .cell) then (n, NameKind.cell) else (n, k))).lookup x) = ((r.map fun (n, k) => if (k == NameKind.free && env.scope.kind == .function && env.kindOf n == some .cell) then (n, NameKind.cell) else (n, k)).lookup x) := fun q hq => by
        obtain ⟨q1, q2⟩ := q
        simp only at hq
        subst hq
        rw [List.lookup_cons, hb]
      have h' : ((r.map fun (n, k) => if (k == NameKind.free && env.scope.kind == .function && env.kindOf n == some .cell) then (n, NameKind.cell) else (n, k)).lookup x = some .cell ∨ (r.map fun (n, k) => if (k == NameKind.free && env.scope.kind == .function && env.kindOf n == some .cell) then (n, NameKind.cell) else (n, k)).lookup x = some .free) := by
        rcases h with h | h
        · left; exact (step _ (by show (if (k == NameKind.free && env.scope.kind == .function && env.kindOf n == some .cell) = true then (n, NameKind.cell) else (n, k)).1 = n; split <;> rfl)).symm.trans h
        · right; exact (step _ (by show (if (k == NameKind.free && env.scope.kind == .function && env.kindOf n == some .cell) = true then (n, NameKind.cell) else (n, k)).1 = n; split <;> rfl)).symm.trans h
      obtain ⟨y, hy, e⟩ := lookup_relabel_free h' hr
      exact ⟨y, List.mem_cons_of_mem _ hy, e⟩
theorem relabel_free {env : Env} : ∀ {names : List (Str × NameKind)} {x : Str}, names.lookup x = some .free → ¬ (names.map fun (n, k) => if (k == NameKind.free && env.scope.kind == .function && env.kindOf n == some .cell) then (n, NameKind.cell) else (n, k)).lookup x = some .local
  | [], _, h => by simp at h
  | (n, k) :: r, x, h => by
    rw [List.map_cons]
    show ¬ List.lookup x ((if (k == NameKind.free && env.scope.kind == .function && env.kindOf n == some .cell) = true then (n, NameKind.cell) else (n, k)) :: _) = _
    rw [List.lookup_cons] at h
    by_cases hx : x = n
    · subst hx
      simp only [beq_self_eq_true] at h
      have hk : k = .free := Option.some.inj h
      subst hk
      split <;> simp [List.lookup_cons]
    · have hb : (x == n) = false := by simpa using hx
      rw [hb] at h
      split
      · rw [List.lookup_cons, hb]; exact relabel_free h
      · rw [List.lookup_cons, hb]; exact relabel_free h
section
variable {X : Cx} {scope : Scope} {N' : List Str}
theorem comp_cell (S : CompScope X scope) (ok : X.Ok) {x : Str} {c : Addr} (h : (closOf scope X.env).lookup x = some c) : X.env.cells.lookup x = some c := by
  rcases clos_lookup h with q | ⟨y, hy, e1, e2, e3⟩
  · simp at q
  · subst e1
    obtain ⟨c', hc'⟩ := ok.has y.1 (S.free y hy e2)
    rw [hc'] at e3 ⊢
    rw [e3]; rfl
theorem comp_inv {pins : List (Addr × Obj)} {σ σ' : St} {H : Hp} {s : Shared} {h1 : Heap} {fp : List Addr} {t : Nat} (S : CompScope X scope) (I : Inv X pins σ H s) (hfp : ∀ b ∈ fp, FpOk X pins H b) (hlt : ∀ b ∈ fp, b < s.heap.objs.size)
    (hn : h1.Ns s.heap.objs.size fun _ => none) (hsb : ∀ b o, s.heap.get? b = some o → h1.get? b = some o) (hl : σ'.length = N'.length)
    (hσ : ∀ (i : Nat) (v : V), σ'[i]? = some (some v) → ∃ (x : Str) (j : Nat), N'[i]? = some x ∧ X.N[j]? = some x ∧ σ[j]? = some (some v) ∧ scope.names.lookup x = some .free) :
    Inv (X.comp scope N' s H s.heap.objs.size fp) [] σ' H { s with heap := h1, toks := t } := by
  have hH : H s.heap.objs.size = none := I.hok.fresh (Nat.le_refl _)
  have cl : ∀ {x c}, (closOf scope X.env).lookup x = some c → X.env.cells.lookup x = some c := fun h => comp_cell S I.ok h
  have kept : ∀ {c v}, s.heap.IsCell c v → h1.IsCell c v := fun ⟨o, e, d⟩ => ⟨o, hsb _ o e, d⟩
  refine ⟨⟨I.ok.mod, S.kind, I.ok.glob, I.ok.blt, Nat.le_refl _, fun x y c e1 e2 => I.ok.inj x y c (cl e1) (cl e2), fun x hx => ?_, fun x c hf _ => absurd hf (by simp [Cx.comp]), I.ok.hd, I.ok.frames, .inl rfl, fun b hb => ?_, I.bs, Nat.le_trans I.ok.bsz I.sz, fun b o e hb => ?_, fun b hb hs => ?_, I.stack, I.stkFree⟩,
    I.os.symm ▸ rfl, I.bare, Un.kept hsb, ⟨_, hn, fun i x v e1 e2 e3 => ?_⟩, fun x c e => ?_, hH, fun x c e => I.freeC x c (cl e), fun p hp => absurd (show p ∈ ([] : List (Addr × Obj)) from hp) (by simp), I.hok.kept hsb, hl⟩
  · have hx : (relabel scope X.env).names.lookup x = some .cell ∨ (relabel scope X.env).names.lookup x = some .free := hx
    exact clos_has (.inl (lookup_relabel_free hx S.nocell))
  · have hb : b ∈ fp := hb
    refine ⟨Nat.ne_of_lt (hlt b hb), fun x c e => (hfp b hb).2.2.2.2.1 x c (cl e)⟩
  · have hb : b ∈ fp := hb
    rcases (hfp b hb).2.2.2.1 with z | z
    · exact I.ok.noex b o e z
    · exact absurd (Nat.lt_of_lt_of_le (Heap.lt_size e) (Nat.le_trans I.ok.bsz z)) (Nat.lt_irrefl _)
  · have hb : b ∈ fp := hb
    obtain ⟨_, f1, f2, _⟩ := hfp b hb
    rcases List.mem_cons.mp (I.stkSub b hs) with z | z
    · exact f1 z
    · exact f2 z
  · obtain ⟨x', j, e4, e5, e6, e9⟩ := hσ i v e2
    have hy := PySem.mem_of_lookup e9
    have e1' : N'[i]? = some x := e1
    rw [e1'] at e4; cases e4
    have kd := S.free _ hy rfl
    obtain ⟨m, hm, hl⟩ := I.loc
    obtain ⟨u, ru, lk⟩ := hl j x v e5 e6 (kd.elim (fun z => .inr (.inl z)) fun z => .inr (.inr z))
    refine ⟨u, ru, ?_⟩
    rcases lk with ⟨z, _⟩ | ⟨z, c, hc, hcell⟩
    · rcases kd with k | k <;> rw [k] at z <;> cases z
    · obtain ⟨c', hc'⟩ := clos_has (env := X.env) (names := scope.names) (cs := []) (x := x) (.inl ⟨_, hy, rfl, rfl⟩)
      have := cl hc'
      rw [hc] at this; cases this
      have e3' : (relabel scope X.env).names.lookup x = some .local ∨ (relabel scope X.env).names.lookup x = some .cell ∨ (relabel scope X.env).names.lookup x = some .free := e3
      rcases e3' with q | q | q
      · exact absurd q (relabel_free e9)
      · exact .inr ⟨.inl q, c, hc', kept hcell⟩
      · exact .inr ⟨.inr q, c, hc', kept hcell⟩
  · obtain ⟨v, z⟩ := I.cell x c (cl e)
    exact ⟨v, kept z⟩
end
end FD
set_option Elab.async false
set_option linter.all false
set_option maxRecDepth 100000
namespace FD
open PySem PySem.Spec PyProof.Rows L2
variable [Tabs]
theorem comp_loop {prog : Program} {w : World} {A : Around} {R : Result → Shared → Prop} {s : Shared} {elt target iter : Expr} {ifs : List Expr} {scope : Scope} {pos : Pos} {it acc : Value} {env : Env} (I : Nat → Shared → Prop)
    (turn : ∀ n s, I n s → wpAny (model prog w) A (pyNext it) (fun r s₁ => match r with
      | none => R (.ok .next) s₁
      | some v => wpAny (model prog w) A (letOwnedTupleGo target it v) (fun _ s0 => wpAny (model prog w) A (assign target env v) (fun _ s₂ =>
          wpAny (model prog w) A (forIn ifs true fun c r => if r = true then do let ok ← isTrue c env (eval c env); pure (ForInStep.yield ok) else pure (ForInStep.yield r)) (fun ok s₃ =>
            if ok = true then wpAny (model prog w) A (eval elt env) (fun x s₄ =>
              wpAny (model prog w) A (call (.builtin "list.append") [acc, x]) (fun _ s₅ => ∃ m, m < n ∧ I m s₅) (fun _ _ => False) s₄) (fun _ _ => False) s₃
            else ∃ m, m < n ∧ I m s₃) (fun _ _ => False) s₂) (fun _ _ => False) s0) (fun _ _ => False) s₁) (fun _ _ => False) s)
    (n : Nat) (h : I n s) :
    codeAny (model prog w) A (.compLoop (.ListComp elt [⟨target, iter, ifs, 0⟩] scope pos) 0 it acc env) R s := by
  refine codeAny_loop rfl I (fun n s hI => ?_) n h
  show wpAny _ A ((compTurn (.ListComp elt [⟨target, iter, ifs, 0⟩] scope pos) 0 it acc env).onRaise (fun x => do noteFrame x env; theTreesLotGoes x)) _ _ s
  refine wpAny_noted ?_
  rw [compTurn_list]
  refine wpAny_bind (wpAny_standAt (wpAny_bind (wpAny_mono (turn n s hI) (fun r s₁ h₁ => ?_) fun _ _ h' => h'.elim)))
  cases r with
  | none => exact wpAny_pure h₁
  | some v =>
    refine wpAny_bind (wpAny_mono h₁ (fun _ s0 h0 => ?_) fun _ _ h' => h'.elim)
    refine wpAny_bind (wpAny_mono h0 (fun _ s₂ h₂ => wpAny_bind (wpAny_mono h₂ (fun ok s₃ h₃ => ?_) fun _ _ h' => h'.elim)) fun _ _ h' => h'.elim)
    cases ok with
    | false => exact wpAny_pure ⟨rfl, h₃⟩
    | true =>
      exact wpAny_bind (wpAny_bind (wpAny_mono h₃ (fun x s₄ h₄ => wpAny_bind (wpAny_mono h₄ (fun _ s₅ h₅ => wpAny_pure (wpAny_pure ⟨rfl, h₅⟩)) fun _ _ h' => h'.elim)) fun _ _ h' => h'.elim))
theorem no_tests {M : Model} {A : Around} {env : Env} {Q : Bool → Shared → Prop} {E : Value → Shared → Prop} {s : Shared} (h : Q true s) :
    wpAny M A (forIn ([] : List Expr) true fun c r => if r = true then do let ok ← isTrue c env (eval c env); pure (ForInStep.yield ok) else pure (ForInStep.yield r)) Q E s := wpAny_pure h
theorem one_test {M : Model} {A : Around} {env : Env} {Q : Bool → Shared → Prop} {E : Value → Shared → Prop} {s : Shared} {c : Expr} (h : wpAny M A (isTrue c env (eval c env)) Q E s) :
    wpAny M A (forIn [c] true fun c r => if r = true then do let ok ← isTrue c env (eval c env); pure (ForInStep.yield ok) else pure (ForInStep.yield r)) Q E s := by
  rw [List.forIn_cons]
  simp only [if_true]
  refine wpAny_bind (wpAny_bind (wpAny_mono h (fun b s' q => wpAny_pure ?_) fun _ _ e => e))
  exact wpAny_pure q
def PTs (Y : Cx) (ifs : List Expr) (t : TT) : Prop := ∀ (pins : List (Addr × Obj)) (s : Shared) (σ : St) (H : Hp) (Q : Bool → Hp → Prop), Inv Y pins σ H s → t σ H Q →
  wpAny (model Y.prog Y.w) Y.A (forIn ifs true fun c r => if r = true then do let ok ← isTrue c Y.env (eval c Y.env); pure (ForInStep.yield ok) else pure (ForInStep.yield r)) (TP Y pins σ Q) Y.xe s
theorem pts_nil {Y : Cx} : PTs Y [] (fun _ H Q => Q true H) := fun pins s σ H Q I h => no_tests ⟨H, I, h⟩
theorem pts_one {Y : Cx} {c : Expr} {t : TT} (h : PT Y c t) : PTs Y [c] t := fun pins s σ H Q I q => one_test (h pins s σ H Q I q)
def tComp (s0 : St → St) (wi : TI) (g : TG) (ti : TT) (te : TE) : TE := fun σ H Q => wi σ H fun J H1 => ∀ acc, H1 acc = none → ∃ W : Nat → Nat → St → Hp → Prop, (∃ m, W 0 m (s0 σ) (upd H1 acc (.lst []))) ∧ ∀ i m σ1 H, W i m σ1 H →
  (J.stop i H ∧ Q (.ref acc) H) ∨ (J.go i H ∧ ∀ x H', J.yld i H x H' → g x σ1 H' fun σ2 H2 => ti σ2 H2 fun b H3 =>
    if b = true then te σ2 H3 fun y H4 => ∃ ys, H4 acc = some (.lst ys) ∧ ys.length < sizeLine ∧ ∃ m', m' < m ∧ W (i + 1) m' σ2 (upd H4 acc (.lst (ys ++ [y]))) else ∃ m', m' < m ∧ W (i + 1) m' σ2 H3)
section
variable {X : Cx} {scope : Scope} {N' : List Str} {tg iter elt : Expr} {ifs : List Expr} {pos : Pos} {wi : TI} {g : TG} {ti : TT} {te : TE} {s0 : St → St}
theorem hok_but {P : Program} {w : World} {H : Hp} {h h' : Heap} {C : Addr} (ok : HOk P w H h) (hC : H C = none) (k : ∀ b o, b ≠ C → h.get? b = some o → h'.get? b = some o) : HOk P w H h' := fun b u e => by
  refine (ok b u e).stay (fun c v hc q => k c v ?_ q) (fun _ q => q) fun _ _ q => q
  rintro rfl
  rcases hc with z | z
  · subst z; rw [hC] at e; cases e
  · rw [hC] at z; cases z
theorem comp_block {pins : List (Addr × Obj)} {σ : St} {H : Hp} {s : Shared} {QQ : V → Hp → Prop} {J : It} {fp : List Addr} {it acc : Addr} {tn : Nat → Heap → Prop} {RR : Addr → Result → Shared → Prop} {E : Value → Shared → Prop} {W : Nat → Nat → St → Hp → Prop} {m0 : Nat}
    (S : CompScope X scope) (hc : X.calm = true) (hl : (s0 σ).length = N'.length)
    (hσ : ∀ (i : Nat) (v : V), (s0 σ)[i]? = some (some v) → ∃ (x : Str) (j : Nat), N'[i]? = some x ∧ X.N[j]? = some x ∧ σ[j]? = some (some v) ∧ scope.names.lookup x = some .free)
    (hg : ∀ s H C fp, PG (X.comp scope N' s H C fp) tg g) (ht : ∀ s H C fp, PTs (X.comp scope N' s H C fp) ifs ti) (he : ∀ s H C fp, PE (X.comp scope N' s H C fp) elt te)
    (I : Inv X pins σ H s) (T : Turn X.prog X.w X.K tg J fp it tn) (st : tn 0 s.heap) (hfp : ∀ b ∈ fp, FpOk X pins H b) (hlt : ∀ b ∈ fp, b < s.heap.objs.size) (hacc : acc < s.heap.objs.size)
    (w0 : W 0 m0 (s0 σ) H) (turn : ∀ i m σ1 H, W i m σ1 H → (J.stop i H ∧ QQ (.ref acc) H) ∨ (J.go i H ∧ ∀ x H', J.yld i H x H' → g x σ1 H' fun σ2 H2 => ti σ2 H2 fun b H3 =>
        if b = true then te σ2 H3 fun y H4 => ∃ ys, H4 acc = some (.lst ys) ∧ ys.length < sizeLine ∧ ∃ m', m' < m ∧ W (i + 1) m' σ2 (upd H4 acc (.lst (ys ++ [y]))) else ∃ m', m' < m ∧ W (i + 1) m' σ2 H3))
    (hRR : ∀ s', (∃ m, s'.heap.Ns s.heap.objs.size m) → (∀ h', Heap.SameBut s.heap.objs.size s'.heap h' → EP X pins σ (fun v H' => QQ v H' ∧ H' s.heap.objs.size = none) (.ref acc) { s' with heap := h' }) → RR s.heap.objs.size (.ok .next) s') :
    wpAny (model X.prog X.w) X.A (newFunctionEnv scope X.env.globals (closOf scope X.env) [] X.env.qual none .none (some X.env)) (fun cenv s₄ =>
      codeAny (model X.prog X.w) X.A (.compStart (.ListComp elt [⟨tg, iter, ifs, 0⟩] scope pos) 0 (.ref it) (.ref acc) { cenv with scope := relabel scope X.env }) (RR cenv.locals) s₄) E s := by
  refine wpAny_newFunctionEnv S.nocell (by intro y hy; simp at hy) (fun h1 hns hsb => ?_) S.kind
  have keep3 : ∀ b o, s.heap.get? b = some o → h1.get? b = some o := fun b o e => hsb.extBut b o (Nat.ne_of_lt (Heap.lt_size e)) (Heap.get?_push_of_some _ e)
  have Y0 : Inv (X.comp scope N' s H s.heap.objs.size fp) [] (s0 σ) H { s with heap := h1, toks := s.toks + ([] : List (Str × Value)).length } := comp_inv S I hfp hlt hns keep3 hl hσ
  have fpY : ∀ {H' : Hp}, (∀ b ∈ fp, H' b = none) → ∀ b ∈ fp, FpOk (X.comp scope N' s H s.heap.objs.size fp) [] H' b := fun {H'} hn b hb => by
    obtain ⟨f0, f1, f2, f3, f4, f5⟩ := hfp b hb
    refine ⟨hn b hb, Nat.ne_of_lt (hlt b hb), fun z => ?_, .inl hb, fun x c e => f4 x c (comp_cell S I.ok e), fun p hp => absurd (show p ∈ ([] : List (Addr × Obj)) from hp) (by simp)⟩
    rcases List.mem_cons.mp (I.stkSub b z) with q | q
    · exact f1 q
    · exact f2 q
  have st1 : tn 0 h1 := T.keep _ _ _ st fun b hb o e => keep3 b o e
  have loop : ∀ s3 : Shared, s3 = { s with heap := h1, toks := s.toks + ([] : List (Str × Value)).length } →
      codeAny (model X.prog X.w) X.A (.compLoop (.ListComp elt [⟨tg, iter, ifs, 0⟩] scope pos) 0 (.ref it) (.ref acc) (X.comp scope N' s H s.heap.objs.size fp).env) (RR s.heap.objs.size) s3 := by
    rintro s3 rfl
    refine comp_loop (fun n s' => ∃ i σ' H', Inv (X.comp scope N' s H s.heap.objs.size fp) [] σ' H' s' ∧ tn i s'.heap ∧ (∀ b ∈ fp, H' b = none) ∧ W i n σ' H') ?_ m0 ⟨0, s0 σ, H, Y0, st1, fun b hb => (hfp b hb).1, w0⟩
    rintro n s4 ⟨i, σ4, H4, I4, st4, fr4, w4⟩
    rcases turn i n σ4 H4 w4 with ⟨stop, qn⟩ | ⟨go, step⟩
    · refine thn (T.done (X.comp scope N' s H s.heap.objs.size fp) rfl rfl rfl hc i [] s4 σ4 H4 _ I4 (fpY fr4) st4 stop) fun r s5 ⟨hr, I5⟩ => ?_
      subst hr
      obtain ⟨m5, n5, _⟩ := id I5.loc
      have hC : H4 s.heap.objs.size = none := I5.free
      refine hRR s5 ⟨m5, n5⟩ fun h' sb => ⟨.ref acc, H4, ?_, rfl, qn, hC⟩
      refine I.call' (s' := { s5 with heap := h' }) (ch := fp) I5.os ⟨fun b o e n hb hx => ?_, fun b o e n hb hx => ?_, fun b o e n hx => I5.base.free b o e n hx, fun b o e hx => ?_, I5.base.tups, I5.base.frzs, I5.base.tbls⟩ (hok_but I5.hok hC fun b o hb e => (sb.2 b hb).trans e) I5.bare fun b hb => ?_
      · exact (sb.2 b (Nat.ne_of_lt (Heap.lt_size e))).trans (I5.base.keep b o e n hb hx)
      · obtain ⟨sl, q⟩ := I5.base.slot b o e n hb hx
        exact ⟨sl, (sb.2 b (Nat.ne_of_lt (Heap.lt_size e))).trans q⟩
      · obtain ⟨o', q⟩ := I5.base.there b o e hx
        exact ⟨o', (sb.2 b (Nat.ne_of_lt (Heap.lt_size e))).trans q⟩
      · obtain ⟨f0, f1, f2, f3, f4, f5⟩ := hfp b hb
        exact ⟨f3, f1, f4, f5⟩
    · refine thn (T.item (X.comp scope N' s H s.heap.objs.size fp) rfl rfl rfl hc i [] s4 σ4 H4 _ I4 (fpY fr4) st4 go) fun r s5 ⟨u, hr, h5⟩ => ?_
      subst hr
      refine thn h5 fun _ s6 ⟨x, H6, I6, r6, y6, st6, fr6⟩ => ?_
      have I6' := I6.pinned (fpY fr6) (T.obj _ _ st6)
      refine thn (hg _ _ _ _ _ s6 σ4 H6 x u _ I6' r6 (step x H6 y6)) fun _ s7 ⟨σ7, H7, I7, q7⟩ => ?_
      refine thn (ht _ _ _ _ _ s7 σ7 H7 _ I7 q7) fun ok s8 ⟨H8, I8, q8⟩ => ?_
      have again : ∀ {s9 : Shared} {H9 : Hp} {m' : Nat}, Inv (X.comp scope N' s H s.heap.objs.size fp) ([] ++ pinsAt fp s6.heap) σ7 H9 s9 → m' < n → W (i + 1) m' σ7 H9 → ∃ m, m < n ∧ ∃ i σ' H', Inv (X.comp scope N' s H s.heap.objs.size fp) [] σ' H' s9 ∧ tn i s9.heap ∧ (∀ b ∈ fp, H' b = none) ∧ W i m σ' H' := fun {s9 H9 m'} I9 hm w9 => by
        refine ⟨m', hm, i + 1, σ7, H9, I9.unpinned, T.keep _ _ _ st6 fun b hb o e => (I9.pin (b, o) (List.mem_append_right _ (List.mem_append_right _ (mem_pinsAt hb e)))).1, fun b hb => ?_, w9⟩
        obtain ⟨o, e, d⟩ := T.obj _ _ st6 b hb
        exact (I9.pin (b, o) (List.mem_append_right _ (List.mem_append_right _ (mem_pinsAt hb e)))).2.1
      cases ok with
      | false =>
        rw [if_neg (by simp)] at q8
        obtain ⟨m', hm, w8⟩ := q8
        exact again I8 hm w8
      | true =>
        rw [if_pos rfl] at q8
        refine thn (he _ _ _ _ _ s8 σ7 H8 _ I8 q8) fun y s9 ⟨z, H9, I9, r9, ys, e9, l9, m', hm, w9⟩ => ?_
        refine thn (mt_append _ s9 σ7 H9 (.ref acc) [z] (.ref acc) [y] (fun _ H' => H' = upd H9 acc (.lst (ys ++ [z]))) I9 rfl (.cons r9 .nil) ⟨acc, ys, z, rfl, rfl, e9, l9, rfl⟩) fun _ s10 ⟨_, H10, I10, _, e10⟩ => ?_
        subst e10
        exact again I10 hm w9
  exact codeAny_compStart_list (loop _ rfl) (T.self _ 0 _ _ _ st1 (loop _ rfl))
end
end FD
set_option Elab.async false
set_option linter.all false
set_option maxRecDepth 100000
namespace FD
open PySem PySem.Spec PyProof.Rows L2
variable [Tabs]
section
variable {X : Cx} {scope : Scope} {N' : List Str} {tg iter elt : Expr} {ifs : List Expr} {pos : Pos} {wi : TI} {g : TG} {ti : TT} {te : TE} {s0 : St → St}
theorem fp_lt {pins : List (Addr × Obj)} {σ : St} {H : Hp} {s : Shared} {J : It} {fp : List Addr} {it : Addr} {tn : Nat → Heap → Prop} (T : Turn X.prog X.w X.K tg J fp it tn) (st : tn 0 s.heap) : ∀ b ∈ fp, b < s.heap.objs.size := fun b hb => by
  obtain ⟨o, e, _⟩ := T.obj 0 _ st b hb
  exact Heap.lt_size e
theorem pe_comp (S : CompScope X scope) (hc : X.calm = true) (hl : ∀ σ : St, σ.length = X.N.length → (s0 σ).length = N'.length)
    (hσ : ∀ (σ : St) (i : Nat) (v : V), (s0 σ)[i]? = some (some v) → ∃ (x : Str) (j : Nat), N'[i]? = some x ∧ X.N[j]? = some x ∧ σ[j]? = some (some v) ∧ scope.names.lookup x = some .free)
    (hi : PI X tg iter wi) (hg : ∀ s H C fp, PG (X.comp scope N' s H C fp) tg g) (ht : ∀ s H C fp, PTs (X.comp scope N' s H C fp) ifs ti) (he : ∀ s H C fp, PE (X.comp scope N' s H C fp) elt te)
    (hs : ∀ x, foldedSetIterable iter X.env x = pure x := by intro _; rfl) : PE X (.ListComp elt [⟨tg, iter, ifs, 0⟩] scope pos) (tComp s0 wi g ti te) := by
  intro pins s σ H Q I h
  rw [eval_ListComp]
  have hclos := closureFor_eq (scope := scope) (env := X.env) fun y hy hk => Option.isSome_iff_exists.mpr (I.ok.has y.1 (S.free y hy hk))
  refine wpAny_comprehension_free (use := none) rfl hs hclos S.kind S.locs (thn (hi pins s σ H _ I h) fun x s1 h1 => thn h1 fun itv s2 h2 => ?_)
  obtain ⟨it, fp, tn, J, H2, e, I2, T, st2, f2, hw⟩ := h2
  subst e
  have hf : H2 s2.heap.objs.size = none := I2.hok.fresh (Nat.le_refl _)
  obtain ⟨W, ⟨m0, w0⟩, turn⟩ := hw _ hf
  have hlt := fp_lt (pins := pins) (σ := σ) (H := H2) T st2
  refine wpAny_newObj_type ?_
  have I3 : Inv X pins σ (upd H2 s2.heap.objs.size (.lst [])) { s2 with heap := s2.heap.push { cls := .type "list", dict := none, data := .seq ([] : List Value).toArray } } :=
    I2.laid (t' := s2.toks) (o := .lst []) (fun b u e => Heap.get?_push_of_some _ e) (Nat.le_refl _) ⟨Nat.zero_le _, [], 0, .nil, Heap.get?_push_size _ rfl⟩
  have hsz : s2.heap.objs.size < (s2.heap.push { cls := .type "list", dict := none, data := .seq ([] : List Value).toArray }).objs.size := by rw [Heap.size_push]; exact Nat.lt_succ_self _
  refine comp_block (s0 := s0) (QQ := Q) (W := W) (m0 := m0) S hc (hl σ I2.len) (hσ σ) hg ht he I3 T (T.keep _ _ _ st2 fun b hb o e => Heap.get?_push_of_some _ e) (fun b hb => ?_) (fun b hb => Nat.lt_trans (hlt b hb) hsz) hsz w0 turn fun s' ⟨m, hn⟩ hq => ⟨m, hn, fun h' sb => let ⟨v, H', I', r', q', _⟩ := hq h' sb; ⟨v, H', I', r', q'⟩⟩
  obtain ⟨f0, f1, f2, f3⟩ := f2 b hb
  exact ⟨by rw [upd_ne (Nat.ne_of_lt (hlt b hb))]; exact f0, f1, f2, f3⟩
theorem ps_comp {i : Nat} {y : Str} {py spos : Pos} (hN : X.N.Nodup) (hiN : X.N[i]? = some y) (hy : X.env.scope.names.lookup y = some .local)
    (hsw : swapsWith (.ListComp elt [⟨tg, iter, ifs, 0⟩] scope pos) (some (.Name y py)) spos.line X.env = pure true)
    (S : CompScope X scope) (hc : X.calm = true) (hl : ∀ σ : St, σ.length = X.N.length → (s0 σ).length = N'.length)
    (hσ : ∀ (σ : St) (i : Nat) (v : V), (s0 σ)[i]? = some (some v) → ∃ (x : Str) (j : Nat), N'[i]? = some x ∧ X.N[j]? = some x ∧ σ[j]? = some (some v) ∧ scope.names.lookup x = some .free)
    (hi : PI X tg iter wi) (hg : ∀ s H C fp, PG (X.comp scope N' s H C fp) tg g) (ht : ∀ s H C fp, PTs (X.comp scope N' s H C fp) ifs ti) (he : ∀ s H C fp, PE (X.comp scope N' s H C fp) elt te)
    (hs : ∀ x, foldedSetIterable iter X.env x = pure x := by intro _; rfl) : PS X (.Assign [.Name y py] (.ListComp elt [⟨tg, iter, ifs, 0⟩] scope pos) spos) (tAsg (tComp s0 wi g ti te) (gName i)) := by
  intro pins s σ H D I h
  rw [exec_Assign_Name_used _ _ _ _ hsw]
  refine wpAny_bind (wpAny_standAt (wpAny_bind ?_))
  show wpAny _ X.A (do let _ ← comprehension (.ListComp elt [⟨tg, iter, ifs, 0⟩] scope pos) scope X.env _ (newList []) false (eval iter X.env) (some (assign (.Name y py) X.env))) _ _ s
  have hclos := closureFor_eq (scope := scope) (env := X.env) fun y hy hk => Option.isSome_iff_exists.mpr (I.ok.has y.1 (S.free y hy hk))
  refine wpAny_bind (wpAny_mono (wpAny_comprehension_free (use := some (assign (.Name y py) X.env)) (Q := fun _ s' => SP X pins D .next s') rfl hs hclos S.kind S.locs
    (thn (hi pins s σ H _ I h) fun x s1 h1 => thn h1 fun itv s2 h2 => ?_)) (fun _ s' hq => wpAny_pure (wpAny_pure hq)) fun _ _ e => e)
  obtain ⟨it, fp, tn, J, H2, e, I2, T, st2, f2, hw⟩ := h2
  subst e
  have hf : H2 s2.heap.objs.size = none := I2.hok.fresh (Nat.le_refl _)
  obtain ⟨W, ⟨m0, w0⟩, turn⟩ := hw _ hf
  have hlt := fp_lt (pins := pins) (σ := σ) (H := H2) T st2
  refine wpAny_newObj_type ?_
  have I3 : Inv X pins σ (upd H2 s2.heap.objs.size (.lst [])) { s2 with heap := s2.heap.push { cls := .type "list", dict := none, data := .seq ([] : List Value).toArray } } :=
    I2.laid (t' := s2.toks) (o := .lst []) (fun b u e => Heap.get?_push_of_some _ e) (Nat.le_refl _) ⟨Nat.zero_le _, [], 0, .nil, Heap.get?_push_size _ rfl⟩
  have hsz : s2.heap.objs.size < (s2.heap.push { cls := .type "list", dict := none, data := .seq ([] : List Value).toArray }).objs.size := by rw [Heap.size_push]; exact Nat.lt_succ_self _
  refine comp_block (s0 := s0) (QQ := fun x H1 => gName i x σ H1 D.nx) (W := W) (m0 := m0) S hc (hl σ I2.len) (hσ σ) hg ht he I3 T (T.keep _ _ _ st2 fun b hb o e => Heap.get?_push_of_some _ e) (fun b hb => ?_) (fun b hb => Nat.lt_trans (hlt b hb) hsz) hsz w0 turn fun s' ⟨m, hn⟩ hq => ?_
  · obtain ⟨f0, f1, f2, f3⟩ := f2 b hb
    exact ⟨by rw [upd_ne (Nat.ne_of_lt (hlt b hb))]; exact f0, f1, f2, f3⟩
  · obtain ⟨v, H5, I5, r5, q5, hC⟩ := hq s'.heap (.refl ..)
    have I5 : Inv X pins σ H5 s' := I5
    show wpAny _ X.A (assign (.Name y py) X.env _) _ _ s'
    refine wpAny_assign_Name (store_ok2 I5 hN hiN (.inl hy) r5 (fun s6 I6 ⟨a, sb, ha⟩ => ?_) (.inr hy))
    have lt3 := I3.lt
    have ca : ∀ x c, X.env.cells.lookup x = some c → c < (s2.heap.push { cls := .type "list", dict := none, data := .seq ([] : List Value).toArray }).objs.size := fun x c e => by
      obtain ⟨v, z⟩ := I3.cell x c e
      exact z.lt
    have hne : (s2.heap.push { cls := .type "list", dict := none, data := .seq ([] : List Value).toArray }).objs.size ≠ a := by
      rcases ha with rfl | ha
      · exact Nat.ne_of_gt lt3
      · exact Nat.ne_of_gt (ca _ _ ha)
    refine ⟨m, hn.sameBut sb hne, fun h' sb' => ⟨_, H5, ?_, q5⟩⟩
    refine I6.turned (t' := s6.toks) (it := (s2.heap.push { cls := .type "list", dict := none, data := .seq ([] : List Value).toArray }).objs.size) (fun b o hb e => (sb'.2 b hb).trans e) hC (Nat.ne_of_gt lt3) (.inr I3.sz) (fun x c e => Nat.ne_of_lt (ca x c e)) fun p hp => ?_
    exact Nat.ne_of_lt (Heap.lt_size (I3.pin p hp).1)
end
end FD
set_option Elab.async false
set_option linter.all false
set_option maxRecDepth 100000
namespace FD
open PySem PySem.Spec PyProof.Rows L2
variable [Tabs]
def compL (set : FG) (ft : FT) (fe : FE) (τ : DS) : List D → Rs (List D)
  | [] => .ok []
  | d :: r => match set d τ with
    | .ok τ1 => match ft τ1 with
      | .ok true => match fe τ1 with
        | .ok x => (compL set ft fe τ r).bind fun xs => .ok (x :: xs)
        | _ => .no
      | .ok false => compL set ft fe τ r
      | _ => .no
    | _ => .no
def valOnly : Option (Option Sl) → Option Sl
  | some (some (.val d)) => some (.val d)
  | _ => none
def tau0 (k : Nat) (idx : List Nat) (τ : DS) : DS := List.replicate k none ++ idx.map fun j => valOnly τ[j]?
def sig0 (k : Nat) (idx : List Nat) (σ : St) : St := List.replicate k none ++ idx.map fun j => (σ[j]?).join
def eComp (k : Nat) (idx : List Nat) (fi : FA) (set : FG) (ft : FT) (fe : FE) : FA := fun τ => (fi τ).bind fun ds => match compL set ft fe (tau0 k idx τ) ds with
  | .ok xs => if xs.length ≤ sizeLine then .ok xs else .no
  | _ => .no
def noOwn (τ : DS) : Prop := ∀ (i : Nat) es, τ[i]? ≠ some (some (.own es))
structure SetOk (set : FG) : Prop where
  ov : ∀ d e τ τ1, set e τ = .ok τ1 → set d τ1 = set d τ
  no : ∀ d τ τ1, set d τ = .ok τ1 → noOwn τ → noOwn τ1
theorem noOwn_set {τ : DS} {i : Nat} {d : D} (h : noOwn τ) : noOwn (τ.set i (some (.val d))) := fun j es e => by
  by_cases hij : i = j
  · subst hij
    rw [List.getElem?_set] at e
    simp only [if_true] at e
    split at e <;> cases e
  · rw [List.getElem?_set_ne hij] at e; exact h j es e
theorem setOk_nm (i : Nat) : SetOk (gNm i) := ⟨fun d e τ τ1 h => by
  unfold gNm at h ⊢; cases h; rw [List.set_set], fun d τ τ1 h n => by unfold gNm at h; cases h; exact noOwn_set n⟩
theorem setOk_pr (i j : Nat) : SetOk (gPr i j) := ⟨fun d e τ τ1 h => by
  unfold gPr at h ⊢
  cases q : pair2 e with
  | none => rw [q] at h; cases h
  | some xy =>
    obtain ⟨x, y⟩ := xy
    rw [q] at h; cases h
    cases q2 : pair2 d with
    | none => rfl
    | some zw =>
      obtain ⟨z, w⟩ := zw
      by_cases hij : i = j
      · subst hij; simp [List.set_set]
      · have e1 : ((τ.set i (some (.val x))).set j (some (.val y))).set i (some (.val z)) = (τ.set i (some (.val z))).set j (some (.val y)) := by
          rw [List.set_comm _ _ (Ne.symm hij), List.set_set]
        simp only
        rw [e1, List.set_set]
        , fun d τ τ1 h n => by
  unfold gPr at h
  cases q : pair2 d with
  | none => rw [q] at h; cases h
  | some xy =>
    obtain ⟨x, y⟩ := xy
    rw [q] at h; cases h
    exact noOwn_set (noOwn_set n)⟩
theorem noOwn_tau0 (k : Nat) (idx : List Nat) (τ : DS) : noOwn (tau0 k idx τ) := fun i es e => by
  unfold tau0 at e
  by_cases hi : i < k
  · rw [List.getElem?_append_left (by simpa using hi), List.getElem?_replicate] at e
    simp [hi] at e
  · rw [List.getElem?_append_right (by simpa using hi), List.getElem?_map] at e
    cases q : idx[i - (List.replicate k (none : Option Sl)).length]? with
    | none => rw [q] at e; cases e
    | some j =>
      rw [q] at e
      simp only [Option.map_some, Option.some.injEq] at e
      unfold valOnly at e
      split at e <;> cases e
theorem RV.free_upd {K : PySem.W.Frag} {F H : Hp} {τ : DS} {σ : St} {p : Addr} {o : HO} (R : RV K F τ σ H) (n : noOwn τ) (hp : F p = none) (hl : H p = none ∨ ∃ vs, H p = some (.lst vs)) : RV K F τ σ (upd H p o) :=
  ⟨fun b u e => by
    have : b ≠ p := fun z => by subst z; rw [hp] at e; cases e
    rw [upd_ne this]; exact R.fh b u e, R.len, R.val, fun i es e => absurd e (n i es), fun i j ds es a _ h => absurd h (n i ds), R.tt.step (fun _ _ e => .inl e) fun b o e n => by
    have : b ≠ p := fun z => by
      subst z
      rcases hl with z | ⟨vs, z⟩
      · rw [z] at e; cases e
      · rw [z] at e; cases e; exact n _ rfl
    rw [upd_ne this]; exact e⟩
theorem rv_comp {K : PySem.W.Frag} {F H : Hp} {τ : DS} {σ : St} (k : Nat) (idx : List Nat) (R : RV K F τ σ H) : RV K F (tau0 k idx τ) (sig0 k idx σ) H := by
  refine ⟨R.fh, by simp [tau0, sig0], fun i d e => ?_, fun i es e => absurd e (noOwn_tau0 k idx τ i es), fun i j ds es a _ h => absurd h (noOwn_tau0 k idx τ i ds), R.tt⟩
  unfold tau0 at e
  unfold sig0
  by_cases hi : i < k
  · rw [List.getElem?_append_left (by simpa using hi), List.getElem?_replicate] at e
    simp [hi] at e
  · rw [List.getElem?_append_right (by simpa using hi), List.getElem?_map] at e
    rw [List.getElem?_append_right (by simpa using hi), List.getElem?_map]
    simp only [List.length_replicate] at e ⊢
    cases q : idx[i - k]? with
    | none => rw [q] at e; cases e
    | some j =>
      rw [q] at e
      simp only [Option.map_some, Option.some.injEq] at e
      have : τ[j]? = some (some (.val d)) := by
        unfold valOnly at e
        split at e <;> cases e
        assumption
      obtain ⟨v, h1, h2⟩ := R.val j d this
      exact ⟨v, by simp [h1], h2⟩
def hideAt (H : Hp) (p : Addr) : Hp := fun b => if b = p then none else H b
theorem hideAt_same (H : Hp) (p : Addr) : hideAt H p p = none := by unfold hideAt; rw [if_pos rfl]
theorem hideAt_ne {H : Hp} {p b : Addr} (h : b ≠ p) : hideAt H p b = H b := by unfold hideAt; rw [if_neg h]
theorem upd_hide (H : Hp) (p : Addr) (o : HO) : upd (hideAt H p) p o = upd H p o := by
  funext b; unfold upd hideAt; split <;> rfl
theorem ext_hide {F1 H1 F2 Hm F5 H5 : Hp} {acc : Addr} {ls : List V} (a : Ext F1 H1 F2 Hm) (hm : Hm acc = none) (b : Ext F2 (upd Hm acc (.lst ls)) F5 H5) : Ext F1 H1 F5 (hideAt H5 acc) ∧ F5 acc = none := by
  have hf5 : F5 acc = none := by
    cases q : F5 acc with
    | none => rfl
    | some o =>
      rcases b.nw acc o q with z | z
      · rw [none_of_same a.fh hm] at z; cases z
      · rw [upd_same] at z; cases z
  have h1 : H1 acc = none := none_of_hh a.hh hm
  have ha : H5 acc = some (.lst ls) := b.hh acc _ upd_same
  refine ⟨⟨a.ff.trans b.ff, fun c o e => ?_, fun c o e => ?_, fun c o e => ?_, fun t => ?_⟩, hf5⟩
  · have n : c ≠ acc := fun z => by subst z; rw [h1] at e; cases e
    rw [hideAt_ne n]
    exact ((a.hh.trans (.of (same_upd hm))).trans b.hh) c o e
  · have n : c ≠ acc := fun z => by subst z; rw [hf5] at e; cases e
    rw [hideAt_ne n]; exact b.fh c o e
  · rcases b.nw c o e with z | z
    · exact a.nw c o z
    · have n : c ≠ acc := fun z' => by subst z'; rw [upd_same] at z; cases z
      rw [upd_ne n] at z
      exact .inr (none_of_hh a.hh z)
  · have t2 := b.tt ((a.tt t).step (F' := F2) (H' := upd Hm acc (.lst ls)) (fun _ _ e => .inl e) fun c o e _ => by rw [upd_ne (ne_of_none e hm)]; exact e)
    exact t2.step (fun _ _ e => .inl e) fun c o e n => by
      have : c ≠ acc := fun z => by subst z; rw [ha] at e; cases e; exact n _ rfl
      rw [hideAt_ne this]; exact e
def FreeOk (scope : Scope) (N : List Str) : List Str → List Nat → Prop
  | [], [] => True
  | x :: xs, j :: js => N[j]? = some x ∧ scope.names.lookup x = some .free ∧ FreeOk scope N xs js
  | _, _ => False
theorem FreeOk.len {scope : Scope} {N : List Str} : ∀ {xs : List Str} {js : List Nat}, FreeOk scope N xs js → xs.length = js.length
  | [], [], _ => rfl
  | _ :: xs, _ :: js, h => by rw [List.length_cons, List.length_cons, FreeOk.len h.2.2]
theorem FreeOk.get {scope : Scope} {N : List Str} : ∀ {xs : List Str} {js : List Nat} {p j : Nat}, FreeOk scope N xs js → js[p]? = some j → ∃ x, xs[p]? = some x ∧ N[j]? = some x ∧ scope.names.lookup x = some .free
  | [], [], _, _, _, e => by simp at e
  | x :: xs, i :: js, 0, j, h, e => by simp at e; subst e; exact ⟨x, rfl, h.1, h.2.1⟩
  | x :: xs, i :: js, p + 1, j, h, e => by
    obtain ⟨y, h1, h2⟩ := FreeOk.get (p := p) h.2.2 (by simpa using e)
    exact ⟨y, by simpa using h1, h2⟩
def compOkB (osc scope : Scope) : Bool := (match scope.kind with | .function => true | _ => false) && scope.names.all (fun y => match y.2 with
  | .cell => false
  | .local => (match scope.names.lookup y.1 with | some .local => true | _ => false)
  | .free => (match osc.names.lookup y.1 with | some .cell => true | some .free => true | _ => false)
  | _ => true)
theorem compScope_of {X : Cx} {scope : Scope} (h : compOkB X.env.scope scope = true) : CompScope X scope := by
  unfold compOkB at h
  rw [Bool.and_eq_true, List.all_eq_true] at h
  obtain ⟨h1, h2⟩ := h
  refine ⟨?_, fun y hy z => ?_, fun y hy z => ?_, fun y hy z => ?_⟩
  · split at h1
    · assumption
    · cases h1
  · have := h2 y hy; rw [z] at this; cases this
  · have := h2 y hy; rw [z] at this
    simp only at this
    split at this
    · assumption
    · cases this
  · have := h2 y hy; rw [z] at this
    simp only at this
    split at this
    · left; assumption
    · right; assumption
    · cases this
def PDTs (Y : Cx) (ifs : List Expr) (f : FT) : Prop := PTs Y ifs (tTs Y f)
theorem pdts_nil {Y : Cx} : PDTs Y [] (fun _ => .ok true) := fun pins s σ H Q I ⟨F, τ, R, h⟩ => pts_nil pins s σ H Q I (h F H (Ext.refl R.fh))
theorem pdts_one {Y : Cx} {c : Expr} {f : FT} (h : PDT Y c f) : PDTs Y [c] f := pts_one h
section
variable {X : Cx} {scope : Scope} {tn fr : List Str} {idx : List Nat} {tg iter elt : Expr} {ifs : List Expr} {pos : Pos} {fi : FA} {set : FG} {ft : FT} {fe : FE}
theorem comp_read (so : SetOk set) {Y : Cx} (hK : Y.K = X.K) (σ : St) (H : Hp) (Q : VK) (h : tFr X (eComp tn.length idx fi set ft fe) σ H Q) : tComp (sig0 tn.length idx) (tI X fi) (tG Y set) (tTs Y ft) (tE Y fe) σ H Q := by
  obtain ⟨F, τ, R, h⟩ := h
  refine ⟨F, τ, R, h.bind.imp fun ds gds J F1 H1 x io => fun acc hacc => ?_⟩
  cases q : compL set ft fe (tau0 tn.length idx τ) ds with
  | no => rw [q] at gds; exact gds.elim
  | ex c => rw [q] at gds; exact gds.elim
  | ok xs =>
    rw [q] at gds
    obtain ⟨hz, k⟩ := ok_ite gds
    have R1 := R.ext x
    have hF1 : F1 acc = none := none_of_same x.fh hacc
    refine ⟨fun i m σ1 Hc => m = ds.length - i ∧ i ≤ ds.length ∧ ∃ F2 Hm τ1 dn rs vs, Ext F1 H1 F2 Hm ∧ Hm acc = none ∧ Hc = upd Hm acc (.lst vs) ∧ Reps X.K F2 dn vs ∧ RV X.K F2 τ1 σ1 Hc ∧ noOwn τ1 ∧ (∀ d, set d τ1 = set d (tau0 tn.length idx τ)) ∧
      compL set ft fe (tau0 tn.length idx τ) (ds.drop i) = .ok rs ∧ xs = dn ++ rs, ⟨ds.length, by simp, Nat.zero_le _, F1, H1, _, [], xs, [], Ext.refl x.fh, hacc, rfl, Reps.nil, ?_, noOwn_tau0 _ _ _, fun _ => rfl, q, rfl⟩, ?_⟩
    · exact (rv_comp tn.length idx R1).free_upd (noOwn_tau0 _ _ _) hF1 (.inl hacc)
    rintro i m σ1 Hc ⟨rfl, hi, F2, Hm, τ1, dn, rs, vs, x2, hm, rfl, r2, R2, n2, so2, cl, ex⟩
    obtain ⟨i1, i2⟩ := io i F2 _ x2.ff R2.fh
    by_cases hlt : i < ds.length
    · have hd : ds.drop i = ds[i] :: ds.drop (i + 1) := List.drop_eq_getElem_cons hlt
      rw [hd, compL] at cl
      obtain ⟨go, yl⟩ := i2 ds[i] (by simp [hlt])
      refine .inr ⟨go, fun y H' yy => ?_⟩
      obtain ⟨F3, x3, r3⟩ := yl y H' yy
      refine ⟨F3, τ1, ds[i], by rw [hK]; exact R2.ext x3, by rw [hK]; exact r3, ?_⟩
      rw [so2]
      cases e1 : set ds[i] (tau0 tn.length idx τ) with
      | no => rw [e1] at cl; cases cl
      | ex c => rw [e1] at cl; cases cl
      | ok τ2 =>
        rw [e1] at cl
        simp only at cl
        intro σ2 RR _ _
        rw [hK] at RR
        have n3 := so.no _ _ _ e1 (noOwn_tau0 _ _ _)
        have so3 : ∀ d, set d τ2 = set d (tau0 tn.length idx τ) := fun d => so.ov d _ _ _ e1
        cases e2 : ft τ2 with
        | no => rw [e2] at cl; cases cl
        | ex c => rw [e2] at cl; cases cl
        | ok b =>
          rw [e2] at cl
          refine ⟨F3, τ2, by rw [hK]; exact RR, ?_⟩
          rw [e2]
          intro F4 H4 x4
          have x34 := x3.trans x4
          cases b with
          | false =>
            simp only at cl
            rw [if_neg (by simp)]
            obtain ⟨y1, y2⟩ := ext_hide x2 hm x34
            have ha : H4 acc = some (.lst vs) := x34.hh acc _ upd_same
            have eH : H4 = upd (hideAt H4 acc) acc (.lst vs) := by
              rw [upd_hide]; funext b; unfold upd; split
              · rename_i z; subst z; exact ha
              · rfl
            refine ⟨ds.length - (i + 1), by omega, rfl, hlt, F4, hideAt H4 acc, τ2, dn, rs, vs, y1, hideAt_same _ _, eH, r2.mono x34.ff, RR.ext x4, n3, so3, cl, ex⟩
          | true =>
            simp only at cl
            rw [if_pos rfl]
            cases e3 : fe τ2 with
            | no => rw [e3] at cl; cases cl
            | ex c => rw [e3] at cl; cases cl
            | ok z =>
              rw [e3] at cl
              simp only at cl
              cases e4 : compL set ft fe (tau0 tn.length idx τ) (ds.drop (i + 1)) with
              | no => rw [e4] at cl; cases cl
              | ex c => rw [e4] at cl; cases cl
              | ok rs' =>
                rw [e4] at cl
                have ers : z :: rs' = rs := by simpa using cl
                refine ⟨F4, τ2, by rw [hK]; exact RR.ext x4, ?_⟩
                rw [e3]
                intro v F5 H5 x5 r5
                rw [hK] at r5
                have x35 := x34.trans x5
                obtain ⟨y1, y2⟩ := ext_hide x2 hm x35
                refine ⟨vs, x35.hh acc _ upd_same, ?_, ds.length - (i + 1), by omega, rfl, hlt, F5, hideAt H5 acc, τ2, dn ++ [z], rs', vs ++ [v], y1, hideAt_same _ _, by rw [upd_hide], (r2.mono x35.ff).append (Reps.cons r5 Reps.nil), ?_, n3, so3, e4, ?_⟩
                · have := congrArg List.length ex
                  rw [← ers, List.length_append, List.length_cons, r2.length] at this
                  omega
                · exact ((RR.ext x4).ext x5).free_upd n3 y2 (.inr ⟨_, x35.hh acc _ upd_same⟩)
                · rw [ex, ← ers, List.append_assoc]; rfl
    · have e : i = ds.length := by omega
      subst e
      rw [List.drop_length, compL] at cl
      cases cl
      rw [List.append_nil] at ex
      subst ex
      exact .inl ⟨i1 (Nat.le_refl _), k acc vs F2 Hm (x.trans x2) hm r2⟩
theorem sig0_ok (hfr : FreeOk scope X.N fr idx) (σ : St) (i : Nat) (v : V) (h : (sig0 tn.length idx σ)[i]? = some (some v)) : ∃ (x : Str) (j : Nat), (tn ++ fr)[i]? = some x ∧ X.N[j]? = some x ∧ σ[j]? = some (some v) ∧ scope.names.lookup x = some .free := by
  unfold sig0 at h
  by_cases hi : i < tn.length
  · rw [List.getElem?_append_left (by simpa using hi), List.getElem?_replicate] at h
    simp [hi] at h
  · rw [List.getElem?_append_right (by simpa using hi), List.getElem?_map] at h
    simp only [List.length_replicate] at h
    cases q : idx[i - tn.length]? with
    | none => rw [q] at h; cases h
    | some j =>
      rw [q] at h
      simp only [Option.map_some, Option.some.injEq] at h
      obtain ⟨x, h1, h2, h3⟩ := hfr.get q
      refine ⟨x, j, by rw [List.getElem?_append_right (by omega)]; exact h1, h2, ?_, h3⟩
      cases z : σ[j]? with
      | none => rw [z] at h; cases h
      | some o => rw [z] at h; simp at h; rw [h]
theorem pdf_comp (hb : compOkB X.env.scope scope = true) (hc : X.calm = true) (hfr : FreeOk scope X.N fr idx) (so : SetOk set) (hi : PDI X tg iter fi)
    (hg : ∀ s H C fp, PDG (X.comp scope (tn ++ fr) s H C fp) tg set) (ht : ∀ s H C fp, PDTs (X.comp scope (tn ++ fr) s H C fp) ifs ft) (he : ∀ s H C fp, PDE (X.comp scope (tn ++ fr) s H C fp) elt fe)
    (hs : ∀ x, foldedSetIterable iter X.env x = pure x := by intro _; rfl) : PDF X (.ListComp elt [⟨tg, iter, ifs, 0⟩] scope pos) (eComp tn.length idx fi set ft fe) :=
  PE.imp (pe_comp (s0 := sig0 tn.length idx) (g := tG (X.comp scope (tn ++ fr) X.s₀ X.H₀ 0 []) set) (ti := tTs (X.comp scope (tn ++ fr) X.s₀ X.H₀ 0 []) ft) (te := tE (X.comp scope (tn ++ fr) X.s₀ X.H₀ 0 []) fe)
    (compScope_of hb) hc (fun σ _ => by simp [sig0, hfr.len]) (sig0_ok hfr) hi hg ht he hs) (comp_read so rfl)
theorem pds_comp {i : Nat} {y : Str} {py spos : Pos} (hN : X.N.Nodup) (hiN : X.N[i]? = some y) (hy : X.env.scope.names.lookup y = some .local)
    (hsw : swapsWith (.ListComp elt [⟨tg, iter, ifs, 0⟩] scope pos) (some (.Name y py)) spos.line X.env = pure true)
    (hb : compOkB X.env.scope scope = true) (hc : X.calm = true) (hfr : FreeOk scope X.N fr idx) (so : SetOk set) (hi : PDI X tg iter fi)
    (hg : ∀ s H C fp, PDG (X.comp scope (tn ++ fr) s H C fp) tg set) (ht : ∀ s H C fp, PDTs (X.comp scope (tn ++ fr) s H C fp) ifs ft) (he : ∀ s H C fp, PDE (X.comp scope (tn ++ fr) s H C fp) elt fe)
    (hs : ∀ x, foldedSetIterable iter X.env x = pure x := by intro _; rfl) : PDS X (.Assign [.Name y py] (.ListComp elt [⟨tg, iter, ifs, 0⟩] scope pos) spos) (sSet i fun τ => (eComp tn.length idx fi set ft fe τ).bind fun ds => .ok (.lst ds)) :=
  PS.imp (ps_comp (s0 := sig0 tn.length idx) (g := tG (X.comp scope (tn ++ fr) X.s₀ X.H₀ 0 []) set) (ti := tTs (X.comp scope (tn ++ fr) X.s₀ X.H₀ 0 []) ft) (te := tE (X.comp scope (tn ++ fr) X.s₀ X.H₀ 0 []) fe) hN hiN hy hsw
    (compScope_of hb) hc (fun σ _ => by simp [sig0, hfr.len]) (sig0_ok hfr) hi hg ht he hs) fun E σ H ⟨B, Z, F, τ, R, h⟩ => by
    refine comp_read (X := X) (tn := tn) (idx := idx) (fi := fi) (ft := ft) (fe := fe) so (Y := X.comp scope (tn ++ fr) X.s₀ X.H₀ 0 []) rfl σ H (fun x H1 => gName i x σ H1 E.nx) ⟨F, τ, R.rv, ?_⟩
    have h' := h.of.bind
    refine h'.imp fun ds g p vs F1 H1 x hp r => ?_
    have x2 := x.trans (Ext.new (o := .lst vs) x.fh hp)
    refine g _ _ _ x2.ff ((R.ext x2).set ?_)
    simp only [Rep]
    exact ⟨p, vs, rfl, upd_same, r.mono (same_upd (none_of_same x.fh hp))⟩
theorem pds_compO {i : Nat} {y : Str} {py spos : Pos} (hN : X.N.Nodup) (hiN : X.N[i]? = some y) (hy : X.env.scope.names.lookup y = some .local)
    (hsw : swapsWith (.ListComp elt [⟨tg, iter, ifs, 0⟩] scope pos) (some (.Name y py)) spos.line X.env = pure true)
    (hb : compOkB X.env.scope scope = true) (hc : X.calm = true) (hfr : FreeOk scope X.N fr idx) (so : SetOk set) (hi : PDI X tg iter fi)
    (hg : ∀ s H C fp, PDG (X.comp scope (tn ++ fr) s H C fp) tg set) (ht : ∀ s H C fp, PDTs (X.comp scope (tn ++ fr) s H C fp) ifs ft) (he : ∀ s H C fp, PDE (X.comp scope (tn ++ fr) s H C fp) elt fe)
    (hs : ∀ x, foldedSetIterable iter X.env x = pure x := by intro _; rfl) : PDS X (.Assign [.Name y py] (.ListComp elt [⟨tg, iter, ifs, 0⟩] scope pos) spos) (sSetO i (eComp tn.length idx fi set ft fe)) :=
  PS.imp (ps_comp (s0 := sig0 tn.length idx) (g := tG (X.comp scope (tn ++ fr) X.s₀ X.H₀ 0 []) set) (ti := tTs (X.comp scope (tn ++ fr) X.s₀ X.H₀ 0 []) ft) (te := tE (X.comp scope (tn ++ fr) X.s₀ X.H₀ 0 []) fe) hN hiN hy hsw
    (compScope_of hb) hc (fun σ _ => by simp [sig0, hfr.len]) (sig0_ok hfr) hi hg ht he hs) fun E σ H ⟨B, Z, F, τ, R, h⟩ => by
    refine comp_read (X := X) (tn := tn) (idx := idx) (fi := fi) (ft := ft) (fe := fe) so (Y := X.comp scope (tn ++ fr) X.s₀ X.H₀ 0 []) rfl σ H (fun x H1 => gName i x σ H1 E.nx) ⟨F, τ, R.rv, ?_⟩
    exact h.of.imp fun ds g p vs F1 H1 x hp r => g _ F1 _ x.ff ((R.ext x).setO hp r)
end
end FD
set_option Elab.async false
set_option linter.all false
set_option maxRecDepth 100000
namespace FD
open PySem PySem.Spec PyProof.Rows L2
variable [Tabs]
structure Drw (prog : Program) (w : World) (A : Around) (i : Addr) (n : Nat) (P : Nat → Value → Prop) (st : Nat → Heap → Prop) (rd : Heap → Prop) : Prop where
  at_ : ∀ k h h', st k h → (∀ o, h.get? i = some o → h'.get? i = some o) → st k h'
  live : ∀ k h, st k h → ∃ o n, h.get? i = some o ∧ o.cls = .type n ∧ n ≠ "zip" ∧ n ≠ "tuple" ∧ ∀ v, o.data ≠ .cell v
  rdk : ∀ (h h' : Heap), rd h → (∀ b o, h.get? b = some o → o.cls = .type "list" → h'.get? b = some o) → rd h'
  item : ∀ k (s : Shared) (Q : Value → Shared → Prop) (E : Value → Shared → Prop), k < n → st k s.heap → rd s.heap →
    (∀ x h' tk, P k x → st (k + 1) h' → Heap.SameBut i s.heap h' → Q x { s with heap := h', toks := tk }) → wpAny (model prog w) A (Builtin.SmallTypes.nextOf (.ref i)) Q E s
  done : ∀ k (s : Shared) (Q : Value → Shared → Prop) (E : Value → Shared → Prop), n ≤ k → st k s.heap → rd s.heap →
    (∀ h' e, Heap.ExtBut i s.heap h' → (∃ o, h'.get? e = some o ∧ o.cls = .type "StopIteration") → E (.ref e) { s with heap := h' }) → wpAny (model prog w) A (Builtin.SmallTypes.nextOf (.ref i)) Q E s
theorem Drw.list {prog : Program} {w : World} {A : Around} (hh : A.handled = none) (i l : Addr) (items : Array Value) :
    Drw prog w A i items.size (fun k v => items[k]? = some v) (fun k h => h.IsListIter i l k) (fun h => h.IsList l items) where
  at_ := fun k h h' st hk => st.at hk
  live := fun k h ⟨o, e, c, d⟩ => ⟨o, _, e, c, by decide, by decide, fun v z => by rw [d] at z; cases z⟩
  rdk := fun h h' ⟨o, e, c, r⟩ hk => ⟨o, hk l o e c, c, r⟩
  item := fun k s Q E hk st rd hQ => wpAny_nextOf_list_item st rd (x := items[k]) (by simp [hk]) fun h' st' sb => hQ _ h' s.toks (by simp [hk]) st' sb
  done := fun k s Q E hk st rd hE => wpAny_nextOf_list_end hh st rd (by simp; omega) hE
theorem Drw.str {prog : Program} {w : World} {A : Around} (hh : A.handled = none) (i : Addr) (x : Str) (t : Tok) (ty : String) (hty : ty = "str_ascii_iterator" ∨ ty = "str_iterator") :
    Drw prog w A i x.cps.size (SignAt x) (fun k h => h.IsStrIter i ty x t k) (fun _ => True) where
  at_ := fun k h h' ⟨o, e, r⟩ hk => ⟨o, hk o e, r⟩
  live := fun k h ⟨o, e, c, d⟩ => ⟨o, ty, e, c, by rcases hty with rfl | rfl <;> decide, by rcases hty with rfl | rfl <;> decide, fun v z => by rw [d] at z; cases z⟩
  rdk := fun _ _ _ _ => trivial
  item := fun k s Q E hk st _ hQ => by
    rcases hty with rfl | rfl
    · exact wpAny_nextOf_ascii_item st (c := x.cps[k]) (by simp [hk]) fun h' st' sb => hQ _ h' _ ⟨_, _, by simp [hk], rfl⟩ st' sb
    · exact wpAny_nextOf_wide_item st (c := x.cps[k]) (by simp [hk]) fun h' st' sb => hQ _ h' _ ⟨_, _, by simp [hk], rfl⟩ st' sb
  done := fun k s Q E hk st _ hE => by
    rcases hty with rfl | rfl
    · exact wpAny_nextOf_ascii_end hh st (by simp; omega) hE
    · exact wpAny_nextOf_wide_end hh st (by simp; omega) hE
structure Apart5 (z TI TO i1 i2 : Addr) : Prop where
  TIz : TI ≠ z
  TOz : TO ≠ z
  i1z : i1 ≠ z
  i2z : i2 ≠ z
  TITO : TI ≠ TO
  TIi1 : TI ≠ i1
  TIi2 : TI ≠ i2
  TOi1 : TO ≠ i1
  TOi2 : TO ≠ i2
  i12 : i1 ≠ i2
section
variable {prog : Program} {w : World} {A : Around} {E : Value → Shared → Prop} {s : Shared} {z TI TO i1 i2 : Addr} {n1 n2 : Nat} {P1 P2 : Nat → Value → Prop} {st1 st2 : Nat → Heap → Prop} {rd1 rd2 : Heap → Prop}
theorem notList {h : Heap} {c : Addr} {o : Obj} {n : String} (e : h.get? c = some o) (hc : o.cls = .type n) (hn : n ≠ "list") {b : Addr} {u : Obj} (eb : h.get? b = some u) (hb : u.cls = .type "list") : b ≠ c := by
  rintro rfl
  rw [e] at eb; cases eb
  rw [hc] at hb
  injection hb with q
  exact hn q
theorem zipG_item {k : Nat} {a b : Value} {Q : Value → Shared → Prop} (D : Apart5 z TI TO i1 i2) (D1 : Drw prog w A i1 n1 P1 st1 rd1) (D2 : Drw prog w A i2 n2 P2 st2 rd2) (h1lt : k < n1) (h2lt : k < n2)
    (hz : IsZip s.heap z TI TO .none) (hTI : IsPair s.heap TI (.ref i1) (.ref i2)) (hTO : IsPair s.heap TO a b) (h1 : st1 k s.heap) (h2 : st2 k s.heap) (r1 : rd1 s.heap) (r2 : rd2 s.heap)
    (hn1 : ∀ b o, s.heap.get? b = some o → o.cls = .type "list" → b ≠ i1) (hn2 : ∀ b o, s.heap.get? b = some o → o.cls = .type "list" → b ≠ i2)
    (hQ : ∀ x y h' tk, P1 k x → P2 k y → IsZip h' z TI TO (rawInt s.heap.objs.size) → IsPair h' TO x y → st1 (k + 1) h' → st2 (k + 1) h' → IsPair h' s.heap.objs.size x y → h'.objs.size = s.heap.objs.size + 1 →
      (∀ c o, c ≠ z → c ≠ TO → c ≠ i1 → c ≠ i2 → s.heap.get? c = some o → h'.get? c = some o) → Q (.ref s.heap.objs.size) { s with heap := h', toks := tk }) :
    wpAny (model prog w) A (Builtin.«zip.__next__» ⟨[.ref z], []⟩) (fun fin s' => ∃ v, fin = .done (.ret v) ∧ Q v s') E s := by
  have nz : ∀ b o, s.heap.get? b = some o → o.cls = .type "list" → b ≠ z := fun b o e c => notList hz rfl (by decide) e c
  have nTO : ∀ b o, s.heap.get? b = some o → o.cls = .type "list" → b ≠ TO := fun b o e c => notList hTO rfl (by decide) e c
  show wpAny _ _ (field (.ref z) 2 >>= _) _ _ _
  refine wpAny_bind (wpAny_field hz rfl (x := .bool false) rfl ?_)
  show wpAny _ _ (field (.ref z) 3 >>= _) _ _ _
  refine wpAny_bind (wpAny_field hz rfl (x := .ref TI) rfl ?_)
  refine wpAny_bind (wpAny_seqItems hTI rfl ?_)
  show wpAny _ _ (Builtin.SmallTypes.ownedTupleIsFree (.ref z) >>= _) _ _ _
  refine wpAny_bind ?_
  unfold Builtin.SmallTypes.ownedTupleIsFree
  refine wpAny_bind (wpAny_field hz rfl (x := .none) rfl (wpAny_pure ?_))
  simp only [if_true]
  refine wpAny_bind (wpAny_rule ?_)
  refine wpAny_bind (wpAny_field hz rfl (x := .ref TO) rfl ?_)
  refine wpAny_bind (wpAny_setField_rec hz (by simp) fun h₁ hz₁ hs₁ => ?_)
  replace hz₁ : IsZip h₁ z TI TO .ellipsis := hz₁
  refine wpAny_bind ?_
  simp only [List.zipIdx_cons, List.zipIdx_nil, List.forIn_cons, List.forIn_nil]
  refine wpAny_bind (wpAny_bind (wpAny_onRaise ?_))
  show wpAny _ _ (Builtin.SmallTypes.nextOf (.ref i1) >>= _) _ _ _
  refine wpAny_bind (D1.item k _ _ _ h1lt (D1.at_ _ _ _ h1 fun o e => hs₁.extBut _ o D.i1z e) (D1.rdk _ _ r1 fun b o e c => hs₁.extBut _ _ (nz b o e c) e) fun x h₂ tk2 px h1₂ hs₂ => wpAny_pure ?_)
  have hs₂ : Heap.SameBut i1 h₁ h₂ := hs₂
  have hTO₂ : IsPair h₂ TO a b := hs₂.extBut _ _ D.TOi1 (hs₁.extBut _ _ D.TOz hTO)
  refine wpAny_bind (wpAny_seqItems hTO₂ rfl ?_)
  refine wpAny_bind (wpAny_updateSeq_pair hTO₂ fun h₃ hTO₃ hs₃ => ?_)
  replace hTO₃ : IsPair h₃ TO x b := hTO₃
  have hs₃ : Heap.SameBut TO h₂ h₃ := hs₃
  refine wpAny_bind (wpAny_letGo (wpAny_pure ?_))
  refine wpAny_bind (wpAny_bind (wpAny_onRaise ?_))
  show wpAny _ _ (Builtin.SmallTypes.nextOf (.ref i2) >>= _) _ _ _
  refine wpAny_bind (D2.item k _ _ _ h2lt (D2.at_ _ _ _ h2 fun o e => hs₃.extBut _ o D.TOi2.symm (hs₂.extBut _ o D.i12.symm (hs₁.extBut _ o D.i2z e)))
    (D2.rdk _ _ r2 fun b o e c => hs₃.extBut _ _ (nTO b o e c) (hs₂.extBut _ _ (hn1 b o e c) (hs₁.extBut _ _ (nz b o e c) e))) fun y h₄ tk4 py h2₄ hs₄ => wpAny_pure ?_)
  have hs₄ : Heap.SameBut i2 h₃ h₄ := hs₄
  have hTO₄ : IsPair h₄ TO x b := hs₄.extBut _ _ D.TOi2 hTO₃
  refine wpAny_bind (wpAny_seqItems hTO₄ rfl ?_)
  refine wpAny_bind (wpAny_updateSeq_pair hTO₄ fun h₅ hTO₅ hs₅ => ?_)
  replace hTO₅ : IsPair h₅ TO x y := hTO₅
  have hs₅ : Heap.SameBut TO h₄ h₅ := hs₅
  refine wpAny_bind (wpAny_letGo (wpAny_pure (wpAny_pure ?_)))
  refine wpAny_bind (wpAny_seqItems hTO₅ rfl ?_)
  refine wpAny_bind (wpAny_newTuple ?_)
  have hsz : h₅.objs.size = s.heap.objs.size := by rw [hs₅.1, hs₄.1, hs₃.1, hs₂.1, hs₁.1]
  have hz₅ : IsZip h₅ z TI TO .ellipsis := hs₅.extBut _ _ D.TOz.symm (hs₄.extBut _ _ D.i2z.symm (hs₃.extBut _ _ D.TOz.symm (hs₂.extBut _ _ D.i1z.symm hz₁)))
  have hk₅ : ∀ c o, c ≠ z → c ≠ TO → c ≠ i1 → c ≠ i2 → s.heap.get? c = some o → h₅.get? c = some o := fun c o c1 c2 c3 c4 e =>
    hs₅.extBut _ _ c2 (hs₄.extBut _ _ c4 (hs₃.extBut _ _ c2 (hs₂.extBut _ _ c3 (hs₁.extBut _ _ c1 e))))
  have h1₅ : st1 (k + 1) h₅ := D1.at_ _ _ _ h1₂ fun o e => hs₅.extBut _ _ D.TOi1.symm (hs₄.extBut _ _ D.i12 (hs₃.extBut _ _ D.TOi1.symm e))
  have h2₅ : st2 (k + 1) h₅ := D2.at_ _ _ _ h2₄ fun o e => hs₅.extBut _ _ D.TOi2.symm e
  have hzlt : z < h₅.objs.size := Heap.lt_size hz₅
  show wpAny _ _ (Builtin.SmallTypes.ownedTupleHandOut (.ref z) (.ref h₅.objs.size) >>= _) _ _ _
  refine wpAny_bind ?_
  unfold Builtin.SmallTypes.ownedTupleHandOut
  have hz₆ : IsZip (h₅.push { cls := .type "tuple", data := .seq #[x, y] }) z TI TO .ellipsis := Heap.get?_push_of_some _ hz₅
  refine wpAny_bind (wpAny_setField_rec hz₆ (by simp) fun h₇ hz₇ hs₇ => ?_)
  replace hz₇ : IsZip h₇ z TI TO (rawInt h₅.objs.size) := hz₇
  refine wpAny_setField_rec hz₇ (by simp) fun h₈ hz₈ hs₈ => ?_
  replace hz₈ : IsZip h₈ z TI TO (rawInt h₅.objs.size) := hz₈
  have up : ∀ c o, c ≠ z → h₅.get? c = some o → h₈.get? c = some o := fun c o c1 e => hs₈.extBut _ _ c1 (hs₇.extBut _ _ c1 (Heap.get?_push_of_some _ e))
  have hT₈ : IsPair h₈ h₅.objs.size x y := hs₈.extBut _ _ (Nat.ne_of_gt hzlt) (hs₇.extBut _ _ (Nat.ne_of_gt hzlt) (Heap.get?_push_size _ rfl))
  have hz8 : h₈.objs.size = h₅.objs.size + 1 := by rw [hs₈.1, hs₇.1, Heap.size_push]
  rw [hsz] at hz₈ hT₈ hz8
  refine wpAny_pure ⟨_, rfl, ?_⟩
  show Q (.ref h₅.objs.size) _
  rw [hsz]
  exact hQ x y h₈ _ px py hz₈ (up _ _ D.TOz hTO₅) (D1.at_ _ _ _ h1₅ fun o e => up _ o D.i1z e) (D2.at_ _ _ _ h2₅ fun o e => up _ o D.i2z e) hT₈ hz8 fun c o c1 c2 c3 c4 e => up c o c1 (hk₅ c o c1 c2 c3 c4 e)
theorem zipG_end {k : Nat} {a b : Value} {Q : Fin → Shared → Prop} (D : Apart5 z TI TO i1 i2) (D1 : Drw prog w A i1 n1 P1 st1 rd1) (D2 : Drw prog w A i2 n2 P2 st2 rd2) (hend : n1 ≤ k ∨ n2 ≤ k)
    (hz : IsZip s.heap z TI TO .none) (hTI : IsPair s.heap TI (.ref i1) (.ref i2)) (hTO : IsPair s.heap TO a b) (h1 : st1 k s.heap) (h2 : st2 k s.heap) (r1 : rd1 s.heap) (r2 : rd2 s.heap)
    (hn1 : ∀ b o, s.heap.get? b = some o → o.cls = .type "list" → b ≠ i1)
    (hE : ∀ h' e tk, (∀ c o, c ≠ z → c ≠ TO → c ≠ i1 → c ≠ i2 → s.heap.get? c = some o → h'.get? c = some o) → (∃ o, h'.get? e = some o ∧ o.cls = .type "StopIteration") → E (.ref e) { s with heap := h', toks := tk }) :
    wpAny (model prog w) A (Builtin.«zip.__next__» ⟨[.ref z], []⟩) Q E s := by
  have nz : ∀ b o, s.heap.get? b = some o → o.cls = .type "list" → b ≠ z := fun b o e c => notList hz rfl (by decide) e c
  have nTO : ∀ b o, s.heap.get? b = some o → o.cls = .type "list" → b ≠ TO := fun b o e c => notList hTO rfl (by decide) e c
  show wpAny _ _ (field (.ref z) 2 >>= _) _ _ _
  refine wpAny_bind (wpAny_field hz rfl (x := .bool false) rfl ?_)
  show wpAny _ _ (field (.ref z) 3 >>= _) _ _ _
  refine wpAny_bind (wpAny_field hz rfl (x := .ref TI) rfl ?_)
  refine wpAny_bind (wpAny_seqItems hTI rfl ?_)
  show wpAny _ _ (Builtin.SmallTypes.ownedTupleIsFree (.ref z) >>= _) _ _ _
  refine wpAny_bind ?_
  unfold Builtin.SmallTypes.ownedTupleIsFree
  refine wpAny_bind (wpAny_field hz rfl (x := .none) rfl (wpAny_pure ?_))
  simp only [if_true]
  refine wpAny_bind (wpAny_rule ?_)
  refine wpAny_bind (wpAny_field hz rfl (x := .ref TO) rfl ?_)
  refine wpAny_bind (wpAny_setField_rec hz (by simp) fun h₁ hz₁ hs₁ => ?_)
  replace hz₁ : IsZip h₁ z TI TO .ellipsis := hz₁
  refine wpAny_bind ?_
  simp only [List.zipIdx_cons, List.zipIdx_nil, List.forIn_cons, List.forIn_nil]
  refine wpAny_bind (wpAny_bind (wpAny_onRaise ?_))
  show wpAny _ _ (Builtin.SmallTypes.nextOf (.ref i1) >>= _) _ _ _
  have s1 := D1.at_ _ _ h₁ h1 fun o e => hs₁.extBut _ o D.i1z e
  have d1 := D1.rdk _ h₁ r1 fun b o e c => hs₁.extBut _ _ (nz b o e c) e
  by_cases hk : n1 ≤ k
  · refine wpAny_bind (D1.done k _ _ _ hk s1 d1 fun h₂ e hs₂ he => ?_)
    obtain ⟨oe, hoe, hce⟩ := he
    have hz₂ : IsZip h₂ z TI TO .ellipsis := hs₂ _ _ D.i1z.symm hz₁
    have hez : e ≠ z := fun x => by subst x; rw [hz₂] at hoe; cases hoe; simp at hce
    refine wpAny_setField_rec hz₂ (by simp) fun h₃ _ hs₃ => hE h₃ e _ (fun c o c1 _ c3 _ x => hs₃.extBut _ _ c1 (hs₂ _ _ c3 (hs₁.extBut _ _ c1 x))) ⟨oe, hs₃.extBut _ _ hez hoe, hce⟩
  · have hk2 : n2 ≤ k := by rcases hend with h | h; exact absurd h hk; exact h
    refine wpAny_bind (D1.item k _ _ _ (by omega) s1 d1 fun x h₂ tk2 px h1₂ hs₂ => wpAny_pure ?_)
    have hs₂ : Heap.SameBut i1 h₁ h₂ := hs₂
    have hTO₂ : IsPair h₂ TO a b := hs₂.extBut _ _ D.TOi1 (hs₁.extBut _ _ D.TOz hTO)
    refine wpAny_bind (wpAny_seqItems hTO₂ rfl ?_)
    refine wpAny_bind (wpAny_updateSeq_pair hTO₂ fun h₃ hTO₃ hs₃ => ?_)
    have hs₃ : Heap.SameBut TO h₂ h₃ := hs₃
    refine wpAny_bind (wpAny_letGo (wpAny_pure ?_))
    refine wpAny_bind (wpAny_bind (wpAny_onRaise ?_))
    show wpAny _ _ (Builtin.SmallTypes.nextOf (.ref i2) >>= _) _ _ _
    refine wpAny_bind (D2.done k _ _ _ hk2 (D2.at_ _ _ _ h2 fun o e => hs₃.extBut _ o D.TOi2.symm (hs₂.extBut _ o D.i12.symm (hs₁.extBut _ o D.i2z e)))
      (D2.rdk _ _ r2 fun b o e c => hs₃.extBut _ _ (nTO b o e c) (hs₂.extBut _ _ (hn1 b o e c) (hs₁.extBut _ _ (nz b o e c) e))) fun h₄ e hs₄ he => ?_)
    obtain ⟨oe, hoe, hce⟩ := he
    have hs₄ : Heap.ExtBut i2 h₃ h₄ := hs₄
    have hz₄ : IsZip h₄ z TI TO .ellipsis := hs₄ _ _ D.i2z.symm (hs₃.extBut _ _ D.TOz.symm (hs₂.extBut _ _ D.i1z.symm hz₁))
    have hez : e ≠ z := fun x => by subst x; rw [hz₄] at hoe; cases hoe; simp at hce
    refine wpAny_setField_rec hz₄ (by simp) fun h₅ _ hs₅ => hE h₅ e _ (fun c o c1 c2 c3 c4 x => hs₅.extBut _ _ c1 (hs₄ _ _ c4 (hs₃.extBut _ _ c2 (hs₂.extBut _ _ c3 (hs₁.extBut _ _ c1 x))))) ⟨oe, hs₅.extBut _ _ hez hoe, hce⟩
theorem zipG_next {k : Nat} {a b : Value} {Q : Option Value → Shared → Prop} (D : Apart5 z TI TO i1 i2) (D1 : Drw prog w A.in1 i1 n1 P1 st1 rd1) (D2 : Drw prog w A.in1 i2 n2 P2 st2 rd2) (h1lt : k < n1) (h2lt : k < n2)
    (hz : IsZip s.heap z TI TO .none) (hTI : IsPair s.heap TI (.ref i1) (.ref i2)) (hTO : IsPair s.heap TO a b) (h1 : st1 k s.heap) (h2 : st2 k s.heap) (r1 : rd1 s.heap) (r2 : rd2 s.heap)
    (hn1 : ∀ b o, s.heap.get? b = some o → o.cls = .type "list" → b ≠ i1) (hn2 : ∀ b o, s.heap.get? b = some o → o.cls = .type "list" → b ≠ i2)
    (hQ : ∀ x y h' tk, P1 k x → P2 k y → IsZip h' z TI TO (rawInt s.heap.objs.size) → IsPair h' TO x y → st1 (k + 1) h' → st2 (k + 1) h' → IsPair h' s.heap.objs.size x y → h'.objs.size = s.heap.objs.size + 1 →
      (∀ c o, c ≠ z → c ≠ TO → c ≠ i1 → c ≠ i2 → s.heap.get? c = some o → h'.get? c = some o) → Q (some (.ref s.heap.objs.size)) { s with heap := h', toks := tk }) :
    wpAny (model prog w) A (pyNext (.ref z)) Q E s := by
  have hT : s.TypeIs (.ref z) "zip" := ⟨_, hz, rfl⟩
  unfold pyNext
  exact wpAny_bind (wpAny_attempt (wpAny_callSpecial?_slot (name := Str.ofString "__next__") hT F.slot_zip_next
    (wpAny_call_entry F.slot_zip_next hT F.entry_zip_next
      (zipG_item D D1 D2 h1lt h2lt hz hTI hTO h1 h2 r1 r2 hn1 hn2 fun x y h' tk a1 a2 a3 a4 a5 a6 a7 a8 a9 => wpAny_pure (hQ x y h' tk a1 a2 a3 a4 a5 a6 a7 a8 a9)) (F.args_zip_next_1 _))))
theorem zipG_stop {k : Nat} {a b : Value} {Q : Option Value → Shared → Prop} (D : Apart5 z TI TO i1 i2) (D1 : Drw prog w A.in1 i1 n1 P1 st1 rd1) (D2 : Drw prog w A.in1 i2 n2 P2 st2 rd2) (hend : n1 ≤ k ∨ n2 ≤ k)
    (hz : IsZip s.heap z TI TO .none) (hTI : IsPair s.heap TI (.ref i1) (.ref i2)) (hTO : IsPair s.heap TO a b) (h1 : st1 k s.heap) (h2 : st2 k s.heap) (r1 : rd1 s.heap) (r2 : rd2 s.heap)
    (hn1 : ∀ b o, s.heap.get? b = some o → o.cls = .type "list" → b ≠ i1)
    (hQ : ∀ h' tk, (∀ c o, c ≠ z → c ≠ TO → c ≠ i1 → c ≠ i2 → s.heap.get? c = some o → h'.get? c = some o) → Q none { s with heap := h', toks := tk }) : wpAny (model prog w) A (pyNext (.ref z)) Q E s := by
  have hT : s.TypeIs (.ref z) "zip" := ⟨_, hz, rfl⟩
  unfold pyNext
  refine wpAny_bind (wpAny_attempt (wpAny_callSpecial?_slot (name := Str.ofString "__next__") hT F.slot_zip_next
    (wpAny_call_entry F.slot_zip_next hT F.entry_zip_next (zipG_end D D1 D2 hend hz hTI hTO h1 h2 r1 r2 hn1 fun h' e tk hk he => ?_) (F.args_zip_next_1 _))))
  obtain ⟨o, ho, hc⟩ := he
  refine wpAny_bind (wpAny_isInstance (T := "StopIteration") (b := true) ⟨o, ho, hc⟩ isSubtype_stop ?_)
  exact wpAny_pure (hQ _ tk hk)
end
end FD
set_option Elab.async false
set_option linter.all false
set_option maxRecDepth 100000
namespace FD
open PySem PySem.Spec PyProof.Rows L2
variable [Tabs]
theorem turnedL {X : Cx} {pins : List (Addr × Obj)} {σ : St} {H : Hp} {s : Shared} {h' : Heap} {t' : Nat} {ch : List Addr} (I : Inv X pins σ H s) (k : ∀ b o, b ∉ ch → s.heap.get? b = some o → h'.get? b = some o) (hf : ∀ b ∈ ch, FpOk X pins H b) (he : ∀ b ∈ ch, H b = none) :
    Inv X pins σ H { s with heap := h', toks := t' } := by
  refine I.step (g' := s.gens) (d' := s.drawn) (ch := ch) (fun b hb => ?_) (fun b o _ _ hc e _ => k b o hc e) (fun b o _ _ hc e _ => ⟨o.slots, k b o hc e⟩) (fun _ _ _ _ n => n)
    (fun b o hc e => ⟨o, k b o hc e⟩) (fun _ _ e => e) (fun _ _ _ e => e) (fun b ps e => ⟨#[], by rw [e]; simp⟩) (fun m hm => ?_) (fun b u e => ?_) I.bare
  · obtain ⟨f0, f1, f2, f3, f4, f5⟩ := hf b hb
    exact ⟨f3, f1, f4, f5⟩
  · obtain ⟨o, es, ep, ho, r⟩ := hm
    exact ⟨o, es, ep, k _ o (fun z => (hf _ z).2.1 rfl) ho, r⟩
  · refine (I.hok b u e).stay (fun c v hc q => k c v ?_ q) (fun _ q => q) fun _ _ q => q
    intro z
    rcases hc with q | q
    · subst q; rw [he c z] at e; cases e
    · rw [he c z] at q; cases q
theorem turnedT {X : Cx} {pins : List (Addr × Obj)} {σ : St} {H : Hp} {s : Shared} {h' : Heap} {t' : Nat} {ch : List Addr} {p : Addr} {xs : List V} {its : List Value} (I : Inv X pins σ H s) (k : ∀ b o, b ∉ ch → s.heap.get? b = some o → h'.get? b = some o) (hf : ∀ b ∈ ch, FpOk X pins H b)
    (hp : s.heap.objs.size ≤ p) (ht : IsTup h' p its.toArray) (hv : Vals xs its) (hz : xs.length ≤ sizeLine) :
    Inv X pins σ (upd H p (.tup xs)) { s with heap := h', toks := t' } := by
  have hn : H p = none := I.hok.fresh hp
  have lt : ∀ {b : Addr} {o : Obj}, s.heap.get? b = some o → b ≠ p := fun e => Nat.ne_of_lt (Nat.lt_of_lt_of_le (Heap.lt_size e) hp)
  refine I.step (g' := s.gens) (d' := s.drawn) (ch := ch) (fun b hb => ?_) (fun b o _ _ hc e _ => k b o hc e) (fun b o _ _ hc e _ => ⟨o.slots, k b o hc e⟩) (fun b o _ e n => by rw [upd_ne (lt e)]; exact n)
    (fun b o hc e => ⟨o, k b o hc e⟩) (fun b ys e => by rw [upd_ne (ne_of_none e hn)]; exact e) (fun b o u e => by rw [upd_ne (ne_of_none e hn)]; exact e) (fun b ps e => ⟨#[], by rw [upd_ne (ne_of_none e hn), e]; simp⟩) (fun m hm => ?_) (fun b u e => ?_) I.bare
  · obtain ⟨f0, f1, f2, f3, f4, f5⟩ := hf b hb
    exact ⟨f3, f1, f4, f5⟩
  · obtain ⟨o, es, ep, ho, r⟩ := hm
    exact ⟨o, es, ep, k _ o (fun z => (hf _ z).2.1 rfl) ho, r⟩
  · by_cases hb : b = p
    · subst hb; rw [upd_same] at e; cases e
      exact ⟨hz, its, hv, ht⟩
    · rw [upd_ne hb] at e
      refine (I.hok b u e).stay (fun c v hc q => k c v ?_ q) (fun c q => by rw [upd_ne (ne_of_none q hn)]; exact q) fun c ys q => by rw [upd_ne (ne_of_none q hn)]; exact q
      intro z
      rcases hc with q | q
      · subst q; rw [(hf c z).1] at e; cases e
      · rw [(hf c z).1] at q; cases q
end FD
set_option Elab.async false
set_option linter.all false
set_option maxRecDepth 100000
namespace FD
open PySem PySem.Spec PyProof.Rows L2
variable [Tabs]
end FD
set_option Elab.async false
set_option linter.all false
set_option maxRecDepth 100000
namespace FD
open PySem PySem.Spec PyProof.Rows L2
variable [Tabs]
def signD (c : Nat) : D := .str ⟨#[c]⟩
def signsD (x : Str) : List D := x.cps.toList.map signD
def Its (x : Str) : It := ⟨fun i _ => i < x.cps.size, fun i H y H' => H' = H ∧ ∃ c, x.cps[i]? = some c ∧ y = .str ⟨#[c]⟩, fun i _ => x.cps.size ≤ i⟩
theorem turn_str {P : Program} {w : World} {K : PySem.W.Frag} {tg : Expr} {it : Addr} {x : Str} {t : Tok} {ty : String} (hty : ty = "str_ascii_iterator" ∨ ty = "str_iterator") : Turn P w K tg (Its x) [it] it (fun k h => h.IsStrIter it ty x t k) where
  mem := by simp
  obj := fun i h ⟨o, e, c, d⟩ b hb => by
    have z : b = it := by simpa using hb
    subst z
    exact ⟨o, e, fun v z => by rw [d] at z; cases z⟩
  keep := fun i h h' ⟨o, e, r⟩ k => ⟨o, k it (by simp) o e, r⟩
  item := by
    intro X hP hw hK hc i pins s σ H E I hf st hg
    subst hP hw hK
    obtain ⟨f0, f1, f2, f3, f4, f5⟩ := hf it (by simp)
    have hh : X.A.handled = none := I.ok.hd hc
    have W : Walks X.prog X.w X.A it [it] [it] x.cps.size (SignAt x) (fun i h => h.IsStrIter it ty x t i) := by
      rcases hty with rfl | rfl
      · exact Walks.strAscii hh it x t
      · exact Walks.strWide hh it x t
    refine W.item i s _ _ hg st fun v h' tk hv st' kk => ?_
    obtain ⟨c, u, ec, rfl⟩ := hv
    have I1 : Inv X pins σ H { s with heap := h', toks := tk } := I.turned (fun b o hb e => kk b o (by simpa using hb) e) f0 f1 f3 f4 f5
    obtain ⟨o, e, cc, d⟩ := id st'
    exact ⟨_, rfl, go_of (s := { s with heap := h', toks := tk }) e cc d (by rcases hty with rfl | rfl <;> decide) ⟨.str ⟨#[c]⟩, H, I1, ⟨u, rfl⟩, ⟨rfl, c, ec, rfl⟩, st', fun b hb => (hf b hb).1⟩⟩
  done := by
    intro X hP hw hK hc i pins s σ H E I hf st hg
    subst hP hw hK
    obtain ⟨f0, f1, f2, f3, f4, f5⟩ := hf it (by simp)
    have hh : X.A.handled = none := I.ok.hd hc
    have hx : x.cps[i]? = none := by have : x.cps.size ≤ i := hg; simp; omega
    rcases hty with rfl | rfl
    · exact wpAny_pyNext_ascii_end hh st hx fun h' eb => ⟨rfl, I.turned (t' := s.toks) (fun b o hb e => eb b o hb e) f0 f1 f3 f4 f5⟩
    · exact wpAny_pyNext_wide_end hh st hx fun h' eb => ⟨rfl, I.turned (t' := s.toks) (fun b o hb e => eb b o hb e) f0 f1 f3 f4 f5⟩
  self := fun _ _ _ _ _ st h => by
    rcases hty with rfl | rfl
    · exact wpAny_pyIter_striter_ascii st h
    · exact wpAny_pyIter_striter_wide st h
section
variable {X : Cx} {pos : Pos} {e tg : Expr} {es : List Expr} {fe : FE} {fs : FA}
theorem it_str {K : PySem.W.Frag} {F1 : Hp} {x : Str} : ItOk K (Its x) F1 (signsD x) := fun i F H f1 f2 => by
  have hl : (signsD x).length = x.cps.size := by simp [signsD]
  refine ⟨fun h => by rw [hl] at h; exact h, fun d hd => ?_⟩
  have hi : i < x.cps.size := by have := (List.getElem?_eq_some_iff.mp hd).1; rw [hl] at this; exact this
  refine ⟨hi, fun y H' yy => ?_⟩
  obtain ⟨e1, c, ec, rfl⟩ := yy
  subst e1
  refine ⟨F, Ext.refl f2, ?_⟩
  have : d = signD c := by
    simp only [signsD, List.getElem?_map] at hd
    have e2 : x.cps.toList[i]? = some c := by simpa using ec
    rw [e2] at hd
    exact (Option.some.inj hd).symm
  subst this
  simp only [signD, Rep]
def Itd (hi : Int) (n : Nat) : It := ⟨fun i _ => i < n, fun i H x H' => H' = H ∧ x = .int (hi - i), fun i _ => n ≤ i⟩
theorem turn_rangeD {P : Program} {w : World} {K : PySem.W.Frag} {tg : Expr} (it : Addr) (hi : Int) (n : Nat) : Turn P w K tg (Itd hi n) [it] it (fun i h => IsRangeIter h it (hi + (i : Nat) * (-1)) ((n : Int) - (i : Nat)) (-1)) where
  mem := by simp
  obj := fun i h st b hb => by
    have e : b = it := by simpa using hb
    subst e
    exact ⟨_, st, fun v z => by
      have z' : Data.fields _ = Data.cell v := z
      cases z'⟩
  keep := fun i h h' st k => k it (by simp) _ st
  item := by
    intro X hP hw hK hc i pins s σ H E I hf st hg
    subst hP hw hK
    obtain ⟨f0, f1, f2, f3, f4, f5⟩ := hf it (by simp)
    have W := Walks.range (prog := X.prog) (w := X.w) (I.ok.hd hc) it hi (-1) n
    refine W.item i s _ _ hg st fun v h' tk hv st' kk => ?_
    obtain ⟨t, rfl⟩ := hv
    have I1 : Inv X pins σ H { s with heap := h', toks := tk } := I.turned (fun b o hb e => kk b o (by simpa using hb) e) f0 f1 f3 f4 f5
    refine ⟨_, rfl, go_of (s := { s with heap := h', toks := tk }) (n := "range_iterator") st' rfl rfl (by decide) ⟨.int (hi - i), H, I1, ⟨t, ?_⟩, ⟨rfl, rfl⟩, st', fun b hb => (hf b hb).1⟩⟩
    congr 1
    omega
  done := by
    intro X hP hw hK hc i pins s σ H E I hf st hg
    subst hP hw hK
    obtain ⟨f0, f1, f2, f3, f4, f5⟩ := hf it (by simp)
    exact wpAny_pyNext_range_end (I.ok.hd hc) st (by have : n ≤ i := hg; omega) fun h' eb => ⟨rfl, I.turned (t' := s.toks) (fun b o hb e => eb b o hb e) f0 f1 f3 f4 f5⟩
  self := fun _ _ _ _ _ st h => wpAny_pyIter_rangeiter st h
end
end FD
set_option Elab.async false
set_option linter.all false
set_option maxRecDepth 100000
namespace FD
open PySem PySem.Spec PyProof.Rows L2
variable [Tabs]
section
variable {X : Cx} {pos : Pos} {e tg : Expr} {es : List Expr} {fe : FE} {fs : FA}
def len1 : D → Rs D
  | .lst ds => .ok (.int ds.length)
  | .tup ds => .ok (.int ds.length)
  | .scr ns => .ok (.int ns.length)
  | .str x => if x.length ≤ sizeLine then .ok (.int x.length) else .no
  | _ => .no
def lenD : List D → Rs D
  | [d] => len1 d
  | _ => .no
theorem cd_len : CallD X (.builtin "len") lenD := ⟨_, call_len_seq.or call_len_str, fun F H vs ds Q fh r h => by
  match ds, r, h with
  | [d], r, h =>
    obtain ⟨v, rfl, q⟩ := r.one
    cases d with
    | lst ds =>
      simp only [Rep] at q; obtain ⟨a, ws, rfl, e1, t⟩ := q
      refine .inl ⟨a, ws, rfl, .inl (SqL.of (fh _ _ e1)), ?_⟩
      rw [← t.length]; exact h _ F H (Ext.refl fh) (by simp only [Rep])
    | tup ds =>
      simp only [Rep] at q; obtain ⟨a, ws, rfl, e1, t⟩ := q
      refine .inl ⟨a, ws, rfl, .inr (Same.seqT fh e1), ?_⟩
      rw [← t.length]; exact h _ F H (Ext.refl fh) (by simp only [Rep])
    | scr ns =>
      simp only [Rep] at q; obtain ⟨a, rfl, e1⟩ := q
      refine .inl ⟨a, _, rfl, .inl (fh.seq e1), ?_⟩
      rw [List.length_map]; exact h _ F H (Ext.refl fh) (by simp only [Rep])
    | str x =>
      simp only [Rep] at q; subst q
      obtain ⟨z, h⟩ := ok_ite h
      exact .inr ⟨x, rfl, z, h _ F H (Ext.refl fh) (by simp only [Rep])⟩
    | _ => exact h.elim
  | [], _, h => exact h.elim
  | _ :: _ :: _, _, h => exact (show False from h).elim⟩
def min2D (ds : List D) : Rs D := match int2 ds with
  | some (i, j) => .ok (.int (if j < i then j else i))
  | none => .no
def max2D (ds : List D) : Rs D := match int2 ds with
  | some (i, j) => .ok (.int (if j > i then j else i))
  | none => .no
theorem cd_min2 (hc : X.calm = true) : CallD X (.builtin "min") min2D := ⟨_, call_min2 hc, fun F H vs ds Q fh r h => by
  unfold min2D at h
  cases q : int2 ds with
  | none => rw [q] at h; exact h.elim
  | some ij =>
    obtain ⟨i, j⟩ := ij
    rw [q] at h
    have e := int2_eq q
    subst e
    obtain ⟨v, w, rfl, r1, r2⟩ := r.two
    simp only [Rep] at r1 r2; subst r1; subst r2
    exact ⟨i, j, rfl, h _ F H (Ext.refl fh) (by simp only [Rep])⟩⟩
theorem cd_max2 (hc : X.calm = true) : CallD X (.builtin "max") max2D := ⟨_, call_max2 hc, fun F H vs ds Q fh r h => by
  unfold max2D at h
  cases q : int2 ds with
  | none => rw [q] at h; exact h.elim
  | some ij =>
    obtain ⟨i, j⟩ := ij
    rw [q] at h
    have e := int2_eq q
    subst e
    obtain ⟨v, w, rfl, r1, r2⟩ := r.two
    simp only [Rep] at r1 r2; subst r1; subst r2
    exact ⟨i, j, rfl, h _ F H (Ext.refl fh) (by simp only [Rep])⟩⟩
theorem rangeSize_down (a b : Int) : Builtin.Range.rangeSize a b (-1) = ((a - b).toNat : Int) := by
  unfold Builtin.Range.rangeSize
  rw [if_neg (by decide)]
  by_cases h : a > b
  · rw [if_pos h, show (- -1 : Int) = 1 from rfl, Int.ediv_one]; omega
  · rw [if_neg h]; omega
theorem small_down {a b : Int} (ha : -(2 ^ 62) ≤ a) (ha' : a < 2 ^ 62) (hb : -(2 ^ 62) ≤ b) (hb' : b < 2 ^ 62) : Builtin.Range.small a b (-1) = true := by
  unfold Builtin.Range.small
  rw [rangeSize_down]
  simp only [Builtin.Range.rangeFitsLong, Bool.and_eq_true, Bool.or_eq_true, decide_eq_true_eq, beq_iff_eq, show ¬ (-1 : Int) > 0 by decide, if_false]
  omega
def iRngD (ta : TA) : TI := fun σ H R => ta σ H fun vs H1 => ∃ i j : Int, vs = [.int i, .int j, .int (-1)] ∧ (-(2 ^ 62) ≤ i ∧ i < 2 ^ 62 ∧ -(2 ^ 62) ≤ j ∧ j < 2 ^ 62) ∧ R (Itd i (i - j).toNat) H1
theorem pi_rangeD {a b c : Expr} {ta : TA} {p pos : Pos} (hg : Gl X "range") (hm : X.mg "range" = none) (ha : PA X [a, b, c] ta) (hs : starEach [a, b, c] X.env = [(false, eval a X.env), (false, eval b X.env), (false, eval c X.env)] := by rfl) (hs2 : starEach [b, c] X.env = [(false, eval b X.env), (false, eval c X.env)] := by rfl) :
    PI X tg (.Call (.Name "range" p) [a, b, c] [] pos) (iRngD ta) := by
  intro pins s σ H R I h
  refine Call_ (ld_blt I hg hm boot_range (PyProof.Rows.callWith_type1 (thn (ha pos pins s σ H _ I h) fun us s1 ⟨vs, H1, I1, r1, q1⟩ => ?_) (by rw [hs, hs2]) (by rw [hs2]; rfl)))
  obtain ⟨i, j, e, ⟨q1, q2, q3, q4⟩, q⟩ := q1
  subst e
  cases r1 with
  | cons r rr =>
    cases rr with
    | cons r' rr =>
      cases rr with
      | cons r'' rr =>
        cases rr
        obtain ⟨t, rfl⟩ := r
        obtain ⟨t', rfl⟩ := r'
        obtain ⟨t'', rfl⟩ := r''
        refine call_range_3 (by decide) ?_ (.inl (PyProof.noPylong_small (by decide)))
        have I2 : Inv X pins σ H1 { s1 with heap := s1.heap.push { cls := .type "range", data := .fields #[.int i t, .int j t', .int (-1) t''] }, toks := s1.toks } := I1.kept fun b o e => Heap.get?_push_of_some _ e
        refine wpAny_pyIter_range (IsRange.new ..) (small_down q1 q2 q3 q4) ?_
        refine ⟨(s1.heap.push { cls := .type "range", data := .fields #[.int i t, .int j t', .int (-1) t''] }).objs.size, [(s1.heap.push { cls := .type "range", data := .fields #[.int i t, .int j t', .int (-1) t''] }).objs.size], _, _, H1, rfl,
          I2.kept (t' := s1.toks) fun b o e => Heap.get?_push_of_some _ e, turn_rangeD _ i (i - j).toNat, ?_, fun b hb => ?_, q⟩
        · have e1 : i + ((0 : Nat) : Int) * (-1) = i := by simp
          have e2 : (((i - j).toNat : Nat) : Int) - ((0 : Nat) : Int) = Builtin.Range.rangeSize i j (-1) := by rw [rangeSize_down]; omega
          show IsRangeIter _ _ (i + ((0 : Nat) : Int) * (-1)) ((((i - j).toNat : Nat) : Int) - ((0 : Nat) : Int)) (-1)
          rw [e1, e2]
          exact Heap.get?_push_size _ rfl
        · have e : b = (s1.heap.push { cls := .type "range", data := .fields #[.int i t, .int j t', .int (-1) t''] }).objs.size := by simpa using hb
          subst e
          exact I2.fpOk (Nat.le_refl _) (I2.hok.fresh (Nat.le_refl _))
def rngDn (hi : Int) (n : Nat) : List D := (List.range n).map fun (k : Nat) => D.int (hi - k)
theorem it_rngD {K : PySem.W.Frag} {F1 : Hp} {lo : Int} {n : Nat} : ItOk K (Itd lo n) F1 (rngDn lo n) := fun i F H f1 f2 => by
  have hl : (rngDn lo n).length = n := by simp [rngDn]
  refine ⟨fun h => by rw [hl] at h; exact h, fun d hd => ?_⟩
  have hi : i < n := by have := (List.getElem?_eq_some_iff.mp hd).1; rw [hl] at this; exact this
  refine ⟨hi, fun x H' y => ?_⟩
  obtain ⟨e1, y⟩ := y
  subst e1
  refine ⟨F, Ext.refl f2, ?_⟩
  simp [rngDn, hi] at hd
  subst hd
  simp only [Rep]; exact y
def int3d : List D → Option (Int × Int)
  | [.int i, .int j, .int (-1)] => some (i, j)
  | _ => none
theorem int3d_eq {ds : List D} {i j : Int} (h : int3d ds = some (i, j)) : ds = [.int i, .int j, .int (-1)] := by
  unfold int3d at h; split at h <;> cases h; rfl
def iRg3 (fs : FA) : FA := fun τ => (fs τ).bind fun ds => match int3d ds with
  | some (i, j) => if (-(2 ^ 62) ≤ i ∧ i < 2 ^ 62) ∧ -(2 ^ 62) ≤ j ∧ j < 2 ^ 62 then .ok (rngDn i (i - j).toNat) else .no
  | none => .no
theorem pdi_rangeD {a b c : Expr} {p : Pos} (hg : Gl X "range") (hm : X.mg "range" = none) (ha : PDA X [a, b, c] fs) (hs : starEach [a, b, c] X.env = [(false, eval a X.env), (false, eval b X.env), (false, eval c X.env)] := by rfl) (hs2 : starEach [b, c] X.env = [(false, eval b X.env), (false, eval c X.env)] := by rfl) :
    PDI X tg (.Call (.Name "range" p) [a, b, c] [] pos) (iRg3 fs) :=
  PI.imp (pi_rangeD hg hm ha hs hs2) fun σ H R ⟨F, τ, Rv, h⟩ => tAs.of Rv h.bind fun ds vs F1 H1 g x R1 r => by
    cases q1 : int3d ds with
    | none => rw [q1] at g; exact g.elim
    | some ij =>
      obtain ⟨i, j⟩ := ij
      rw [q1] at g
      have e := int3d_eq q1
      subst e
      simp only [Reps] at r
      obtain ⟨v, r1, e1, q, w, r2, e2, q', u, r3, e3, q'', e4⟩ := r
      simp only [Rep] at q q' q''; subst q q' q'' e4 e3 e2 e1
      obtain ⟨z, g⟩ := ok_ite g
      exact ⟨i, j, rfl, ⟨z.1.1, z.1.2, z.2.1, z.2.2⟩, g _ F1 H1 x it_rngD⟩
def MtD (X : Cx) (id : String) (g : D → List D → Rs D) : Prop := ∃ r, MtR X id r ∧ ∀ F H v vs d ds Q, Same F H → Rep X.K F d v → Reps X.K F ds vs → Ok X (g d ds) (Ev X.K F H Q) → r v vs H Q
def isTy (T : String) : D → Bool
  | .str _ => T = "str"
  | .int _ => T = "int"
  | .lst _ => T = "list"
  | .scr _ => T = "list"
  | _ => false
def eMt0 (T : String) (g : D → List D → Rs D) (fo : FE) : FE := fun τ => (fo τ).bind fun d => if isTy T d = true then g d [] else .no
def eMt (T : String) (g : D → List D → Rs D) (fo : FE) (fa : FA) : FE := fun τ => (fo τ).bind fun d => if isTy T d = true then (fa τ).bind fun ds => g d ds else .no
theorem tyV_of {F H : Hp} {d : D} {v : V} {T : String} (fh : Same F H) (r : Rep X.K F d v) (h : isTy T d = true) : tyV X.K T v H := by
  cases d with
  | str x => simp only [Rep] at r; subst r; show T = "str"; simpa [isTy] using h
  | int x => simp only [Rep] at r; subst r; show T = "int"; simpa [isTy] using h
  | lst ds => simp only [Rep] at r; obtain ⟨a, vs, rfl, e, t⟩ := r; exact .inl ⟨by simpa [isTy] using h, vs, SqL.of (fh _ _ e)⟩
  | scr ds => simp only [Rep] at r; obtain ⟨a, rfl, e⟩ := r; exact .inl ⟨by simpa [isTy] using h, _, fh.seq e⟩
  | _ => simp [isTy] at h
theorem ok_if {X : Cx} {α : Type} {c : Prop} [Decidable c] {r : Rs α} {P : α → Prop} (h : Ok X (if c then r else .no) P) : c ∧ Ok X r P := by
  by_cases z : c
  · rw [if_pos z] at h; exact ⟨z, h⟩
  · rw [if_neg z] at h; exact h.elim
theorem pde_mt0 {T id : String} {name : Str} {o : Expr} {apos cpos : Pos} {fo : FE} {g : D → List D → Rs D} (pa : PlainAttrs T) (slot : Slot T name id) (hty : typeOf (.builtin id) = pure (.type "method_descriptor")) (hm : MtD X id g) (ho : PDE X o fo)
    (hbase : attributeBase o name X.env (eval o X.env) = eval o X.env := by rfl) (hline : (apos.endLine == cpos.line) = true := by rfl) : PDE X (.Call (.Attribute o name apos) [] [] cpos) (eMt0 T g fo) := by
  obtain ⟨r, h1, h2⟩ := hm
  exact PE.imp (pe_bm0 pa slot hty h1 ho hbase hline) fun σ H Q ⟨Fz, τ, R, h⟩ => tE.of R h.bind fun d v F1 H1 q x R1 rr => by
    obtain ⟨z, q⟩ := ok_if q
    exact ⟨tyV_of R1.fh rr z, h2 F1 H1 v [] d [] Q R1.fh rr Reps.nil (q.imp fun d e => e.ext x)⟩
theorem pde_mt {T id : String} {name : Str} {o : Expr} {apos cpos : Pos} {fo : FE} {g : D → List D → Rs D} (pa : PlainAttrs T) (slot : Slot T name id) (hty : typeOf (.builtin id) = pure (.type "method_descriptor")) (hm : MtD X id g) (ho : PDE X o fo) (ha : PDA X (e :: es) fs)
    (hbase : attributeBase o name X.env (eval o X.env) = eval o X.env := by rfl)
    (hfew : ((backTo cpos (starEach (e :: es) X.env)).all (fun x => !x.1) && (backToKw cpos (keywordEach [] X.env)).all (fun x => x.1.isSome)
      && decide ((e :: es).length + ([] : List Keyword).length + (if ([] : List Keyword).isEmpty then 0 else 1) < 30)) = true := by rfl)
    (hline : (apos.endLine == cpos.line) = true := by rfl) (hs : starEach (e :: es) X.env = (false, eval e X.env) :: starEach es X.env := by rfl) (hplain : (backTo cpos (starEach es X.env)).any (·.1) = false := by rfl) :
    PDE X (.Call (.Attribute o name apos) (e :: es) [] cpos) (eMt T g fo fs) := by
  obtain ⟨r, h1, h2⟩ := hm
  exact PE.imp (pe_bm pa slot hty h1 ho ha hbase hfew hline hs hplain) fun σ H Q ⟨Fz, τ, R, h⟩ => tE.of R h.bind fun d v F1 H1 q x R1 rr => by
    obtain ⟨z, q⟩ := ok_if q
    exact ⟨tyV_of R1.fh rr z, tAs.of R1 q.bind fun ds vs F2 H2 q2 x2 R2 rs => h2 F2 H2 v vs d ds Q R2.fh (rr.mono x2.ff) rs (q2.imp fun d e => e.ext (x.trans x2))⟩
def upD : D → List D → Rs D
  | .str x, [] => if x.length ≤ 5000000 then .ok (.str (Txt.upper x)) else .no
  | _, _ => .no
def loD : D → List D → Rs D
  | .str x, [] => if x.length ≤ 5000000 then .ok (.str (Txt.lower x)) else .no
  | _, _ => .no
theorem mt_up : MtR X "str.upper" (fun v vs H Q => ∃ x, v = .str x ∧ vs = [] ∧ x.length ≤ 5000000 ∧ Q (.str (Txt.upper x)) H) := by
  intro pins s σ H v vs u us Q I r rs h
  obtain ⟨x, rfl, rfl, hx, q⟩ := h
  obtain ⟨t, rfl⟩ := r
  cases rs
  exact SC.upper (fit_upper (by omega)) ⟨.str (Txt.upper x), H, I.tok _, ⟨_, rfl⟩, q⟩
theorem mt_lo : MtR X "str.lower" (fun v vs H Q => ∃ x, v = .str x ∧ vs = [] ∧ x.length ≤ 5000000 ∧ Q (.str (Txt.lower x)) H) := by
  intro pins s σ H v vs u us Q I r rs h
  obtain ⟨x, rfl, rfl, hx, q⟩ := h
  obtain ⟨t, rfl⟩ := r
  cases rs
  exact SC.lower (fit_lower (by omega)) ⟨.str (Txt.lower x), H, I.tok _, ⟨_, rfl⟩, q⟩
theorem md_up : MtD X "str.upper" upD := ⟨_, mt_up, fun F H v vs d ds Q fh r rs h => by
  cases d with
  | str x =>
    cases ds with
    | nil =>
      simp only [Rep] at r; subst r
      simp only [Reps] at rs; subst rs
      obtain ⟨z, h⟩ := ok_ite h
      exact ⟨x, rfl, rfl, z, h _ F H (Ext.refl fh) (by simp only [Rep])⟩
    | cons a b => exact h.elim
  | _ => cases ds <;> exact h.elim⟩
theorem md_lo : MtD X "str.lower" loD := ⟨_, mt_lo, fun F H v vs d ds Q fh r rs h => by
  cases d with
  | str x =>
    cases ds with
    | nil =>
      simp only [Rep] at r; subst r
      simp only [Reps] at rs; subst rs
      obtain ⟨z, h⟩ := ok_ite h
      exact ⟨x, rfl, rfl, z, h _ F H (Ext.refl fh) (by simp only [Rep])⟩
    | cons a b => exact h.elim
  | _ => cases ds <;> exact h.elim⟩
theorem pde_upper {o : Expr} {apos cpos : Pos} {fo : FE} (ho : PDE X o fo) (hbase : attributeBase o "upper" X.env (eval o X.env) = eval o X.env := by rfl) (hline : (apos.endLine == cpos.line) = true := by rfl) : PDE X (.Call (.Attribute o "upper" apos) [] [] cpos) (eMt0 "str" upD fo) :=
  pde_mt0 F.plainAttrs_str F.slot_str_upper F.type_str_upper md_up ho hbase hline
theorem pde_lower {o : Expr} {apos cpos : Pos} {fo : FE} (ho : PDE X o fo) (hbase : attributeBase o "lower" X.env (eval o X.env) = eval o X.env := by rfl) (hline : (apos.endLine == cpos.line) = true := by rfl) : PDE X (.Call (.Attribute o "lower" apos) [] [] cpos) (eMt0 "str" loD fo) :=
  pde_mt0 F.plainAttrs_str F.slot_str_lower F.type_str_lower md_lo ho hbase hline
end
end FD
set_option Elab.async false
set_option linter.all false
set_option maxRecDepth 100000
namespace FD
open PySem PySem.Spec PyProof.Rows L2
variable [Tabs]
section
variable {X : Cx} {pos : Pos} {e tg : Expr} {es : List Expr} {fe : FE} {fs : FA}
end
end FD
set_option Elab.async false
set_option linter.all false
set_option maxRecDepth 100000
namespace FD
open PySem PySem.Spec PyProof.Rows L2
variable [Tabs]
section
variable {X : Cx} {pos : Pos} {e tg : Expr} {es : List Expr} {fe : FE} {fs : FA}
def rSlS : V → Option Int → Option Int → Hp → VK → Prop := fun x lo hi H Q => ∃ z, x = .str z ∧ z.length ≤ sizeLine ∧ Q (.str (Txt.slice z lo hi)) H
theorem sl_str : SlR X rSlS := by
  intro pins s σ H x v vl vu lo hi sl Q I rx hs pl pu h
  obtain ⟨z, rfl, hz, q⟩ := h
  obtain ⟨t, rfl⟩ := rx
  refine ⟨"str", _, F.slot_str_getitem.lookup, typeIs_str _ _ _, ?_⟩
  obtain ⟨o, e, c, d⟩ := hs
  have fin : ∀ t' k, EP X pins σ Q (.str (Txt.slice z lo hi) t') { s with toks := k } := fun t' k => ⟨.str _, H, I.tok _, ⟨_, rfl⟩, q⟩
  have hl := Nat.le_trans (Txt.slice_le z lo hi) hz
  cases pl with
  | none =>
    cases pu with
    | none => exact wpAny_getItem_str_slice (l := none) (u := none) (st := none) ⟨o, e, c, d⟩ rfl (post_val_or_str ⟨hl, fin⟩)
    | int j uj => exact wpAny_getItem_str_slice (l := none) (u := some (j, uj)) (st := none) ⟨o, e, c, d⟩ rfl (post_val_or_str ⟨hl, fin⟩)
  | int i ui =>
    cases pu with
    | none => exact wpAny_getItem_str_slice (l := some (i, ui)) (u := none) (st := none) ⟨o, e, c, d⟩ rfl (post_val_or_str ⟨hl, fin⟩)
    | int j uj => exact wpAny_getItem_str_slice (l := some (i, ui)) (u := some (j, uj)) (st := none) ⟨o, e, c, d⟩ rfl (post_val_or_str ⟨hl, fin⟩)
def cutD (xs : List D) (lo hi : Option Int) : List D := (xs.drop (HT.sIx xs.length 0 lo)).take (HT.sIx xs.length xs.length hi - HT.sIx xs.length 0 lo)
def slD (d : D) (lo hi : Option Int) : Rs D := match d with
  | .str x => if x.length ≤ sizeLine then .ok (.str (Txt.slice x lo hi)) else .no
  | .lst ds => .ok (.lst (cutD ds lo hi))
  | _ => .no
abbrev FO := DS → Rs (Option Int)
def oNone : FO := fun _ => .ok none
def oSome (fe : FE) : FO := fun τ => (fe τ).bind fun d => match d with
  | .int i => .ok (some i)
  | _ => .no
def tOs (X : Cx) (f : FO) : TO := fun σ H Q => ∃ F τ, RV X.K F τ σ H ∧ Ok X (f τ) fun o => ∀ F' H', Ext F H F' H' → Q o H'
def PDO (X : Cx) (e : Option Expr) (f : FO) : Prop := PO X e (tOs X f)
theorem PO.imp {e : Option Expr} {t t' : TO} (h : PO X e t) (f : ∀ σ H Q, t' σ H Q → t σ H Q) : PO X e t' := fun pins s σ H Q I q => h pins s σ H Q I (f _ _ _ q)
theorem pdo_none : PDO X none oNone := PO.imp po_none fun σ H Q ⟨F, τ, R, h⟩ => h F H (Ext.refl R.fh)
theorem pdo_some (h : PDE X e fe) : PDO X (some e) (oSome fe) := PO.imp (po_some h) fun σ H Q ⟨F, τ, R, h⟩ => tE.of R h.bind fun d v F1 H1 g x R1 r => by
  cases d with
  | int i => simp only [Rep] at r; exact ⟨i, r, g F1 H1 x⟩
  | _ => exact g.elim
def eSl (fe : FE) (fl fh : FO) : FE := fun τ => (fe τ).bind fun d => (fl τ).bind fun l => (fh τ).bind fun u => slD d l u
theorem pde_sl {lo hi : Option Expr} {fl fh : FO} {p2 : Pos} (he : PDE X e fe) (hl : PDO X lo fl) (hu : PDO X hi fh) : PDE X (.Subscript e (.Slice lo hi none p2) pos) (eSl fe fl fh) :=
  PE.imp (pe_slice (sl_str.or sl_list) he hl hu) fun σ H Q ⟨F, τ, R, h⟩ => tE.of R h.bind fun d v F1 H1 g x R1 r => by
    refine ⟨F1, τ, R1, g.bind.imp fun l gl F2 H2 x2 => ⟨F2, τ, R1.ext x2, gl.bind.imp fun u gu F3 H3 x3 => ?_⟩⟩
    have f3 := x3.fh
    have x13 := x.trans (x2.trans x3)
    cases d with
    | str z =>
      simp only [Rep] at r
      obtain ⟨zz, gu⟩ := ok_ite gu
      exact .inl ⟨z, r, zz, gu _ F3 H3 x13 (by simp only [Rep])⟩
    | lst ds =>
      simp only [Rep] at r; obtain ⟨a, vs, rfl, e1, t⟩ := r
      have gu : Ev X.K F H Q (.lst (cutD ds l u)) := gu
      refine .inr ⟨a, vs, rfl, SqL.of (f3 _ _ (x3.ff _ _ (x2.ff _ _ e1))), fun p hp => gu _ _ _ (x13.trans (Ext.new f3 hp)) ?_⟩
      simp only [Rep]
      refine ⟨p, _, rfl, upd_same, ?_⟩
      have t3 : Reps X.K F3 (cutD ds l u) (cutV vs l u) := by
        unfold cutD cutV
        rw [← t.length]
        exact ((t.mono (x2.ff.trans x3.ff)).drop _).take _
      exact t3.mono (same_upd (none_of_same f3 hp))
    | _ => exact gu.elim
theorem pde_gl {x : Str} {v : V} {u : Value} {d : D} (hg : Gl X x) (hm : X.mg x = some u) (r : RelV v u) (rd : ∀ F, Rep X.K F d v) (hd : (x == ("__debug__" : Str)) = false := by decide) : PDE X (.Name x pos) (eC d) := pde_c (pe_glob hg hm r hd) rd
theorem pde_glS {x : Str} {y : Str} {t : Tok} (hg : Gl X x) (hm : X.mg x = some (.str y t)) (hd : (x == ("__debug__" : Str)) = false := by decide) : PDE X (.Name x pos) (eC (.str y)) := pde_gl (v := .str y) hg hm ⟨t, rfl⟩ (fun _ => by simp only [Rep]) hd
theorem pde_glI {x : Str} {y : Int} {t : Tok} (hg : Gl X x) (hm : X.mg x = some (.int y t)) (hd : (x == ("__debug__" : Str)) = false := by decide) : PDE X (.Name x pos) (eC (.int y)) := pde_gl (v := .int y) hg hm ⟨t, rfl⟩ (fun _ => by simp only [Rep]) hd
end
end FD
set_option Elab.async false
set_option linter.all false
set_option maxRecDepth 100000
namespace FD
open PySem PySem.Spec PyProof.Rows L2
variable [Tabs]
section
variable {X : Cx} {pos : Pos} {e tg : Expr} {es : List Expr} {fe : FE} {fs : FA}
def iAnyT (K : PySem.W.Frag) (tl : TE) : TI := fun σ H R => tl σ H fun x H1 => (∃ a, x = .ref a ∧ (∃ xs, SqL K H1 a xs) ∧ R (Itl K a) H1) ∨ (∃ a, x = .ref a ∧ (∃ xs, SqT K H1 a xs) ∧ R (Itt K a) H1) ∨ ∃ z, x = .str z ∧ R (Its z) H1
theorem pi_any {l : Expr} {tl : TE} (hl : PE X l tl) : PI X tg l (iAnyT X.K tl) := by
  intro pins s σ H R I h
  refine thn (hl pins s σ H _ I h) fun v s1 ⟨x, H1, I1, r1, q1⟩ => ?_
  rcases q1 with ⟨a, e, ⟨xs, hq⟩, q⟩ | ⟨a, e, ⟨xs, hq⟩, q⟩ | ⟨z, e, q⟩
  · subst e
    cases r1
    obtain ⟨its, rv, p, hz⟩ := I1.list hq
    refine wpAny_pyIter_list p.isList ?_
    refine ⟨s1.heap.objs.size, [s1.heap.objs.size], _, _, H1, rfl, I1.kept (t' := s1.toks) fun b o e => Heap.get?_push_of_some _ e, turn_list a _, ⟨_, Heap.get?_push_size _ rfl, rfl, rfl⟩, fun b hb => ?_, q⟩
    have e : b = s1.heap.objs.size := by simpa using hb
    subst e
    exact I1.fpOk (Nat.le_refl _) (I1.hok.fresh (Nat.le_refl _))
  · subst e
    cases r1
    obtain ⟨its, rv, p, hz⟩ := I1.tuple hq
    refine wpAny_pyIter_tuple (show s1.heap.IsTuple a its.toArray from p) ?_
    refine ⟨s1.heap.objs.size, [s1.heap.objs.size], _, _, H1, rfl, I1.kept (t' := s1.toks) fun b o e => Heap.get?_push_of_some _ e, turn_tuple a _, ⟨_, Heap.get?_push_size _ rfl, rfl, rfl⟩, fun b hb => ?_, q⟩
    have e : b = s1.heap.objs.size := by simpa using hb
    subst e
    exact I1.fpOk (Nat.le_refl _) (I1.hok.fresh (Nat.le_refl _))
  · subst e
    obtain ⟨t, rfl⟩ := r1
    have fin : ∀ (ty : String), (ty = "str_ascii_iterator" ∨ ty = "str_iterator") → PIE X pins σ tg R (.ref s1.heap.objs.size) { s1 with heap := s1.heap.push { cls := .type ty, data := .fields #[.str z t, .int 0 0] } } := fun ty hty => by
      refine ⟨s1.heap.objs.size, [s1.heap.objs.size], _, _, H1, rfl, I1.kept (t' := s1.toks) fun b o e => Heap.get?_push_of_some _ e, turn_str hty, ⟨_, Heap.get?_push_size _ rfl, rfl, rfl⟩, fun b hb => ?_, q⟩
      have e : b = s1.heap.objs.size := by simpa using hb
      subst e
      exact I1.fpOk (Nat.le_refl _) (I1.hok.fresh (Nat.le_refl _))
    cases ha : z.cps.all (· < 128)
    · exact wpAny_pyIter_wide ha (fin _ (.inr rfl))
    · exact wpAny_pyIter_ascii ha (fin _ (.inl rfl))
def iterD : D → Rs (List D)
  | .lst ds => .ok ds
  | .scr ns => .ok (ns.map .int)
  | .tup ds => .ok ds
  | .str x => .ok (signsD x)
  | _ => .no
def iAny (fe : FE) : FA := fun τ => (fe τ).bind iterD
theorem pdi_any (he : PDE X e fe) : PDI X tg e (iAny fe) :=
  PI.imp (pi_any he) fun σ H R ⟨F, τ, Rv, h⟩ => tE.of Rv h.bind fun d v F1 H1 g x R1 r => by
    cases d with
    | lst ds =>
      simp only [Rep] at r; obtain ⟨a, vs, rfl, q, t⟩ := r
      exact .inl ⟨a, rfl, ⟨vs, SqL.of (R1.fh _ _ q)⟩, g _ F1 H1 x (it_list (SqL.of q) t)⟩
    | scr ns =>
      simp only [Rep] at r; obtain ⟨a, rfl, q⟩ := r
      exact .inl ⟨a, rfl, ⟨_, R1.fh.seq q⟩, g _ F1 H1 x (it_list q (Reps.ints ns))⟩
    | tup ds =>
      simp only [Rep] at r; obtain ⟨a, vs, rfl, q, t⟩ := r
      exact .inr (.inl ⟨a, rfl, ⟨vs, Same.seqT R1.fh q⟩, g _ F1 H1 x (it_tup q t)⟩)
    | str z => simp only [Rep] at r; exact .inr (.inr ⟨z, r, g _ F1 H1 x it_str⟩)
    | _ => exact g.elim
end
def DefOk (P : Program) (w : World) (K : PySem.W.Frag) (mg : Str → Option Value) (base : Heap) (x : Str) (k n : Nat) (ps : List Str) (g : List D → Rs D) : Prop :=
  ∃ f fd, FnOk P w K mg base CX0 k f fd ps (spD K n g) ∧ Binds K fd ps [] ∧ PySem.W.keepIn K (.ref f) = true ∧ mg x = some (.ref f)
structure DefAt (K : PySem.W.Frag) (mg : Str → Option Value) (x : Str) (st : Stmt) (f : Addr) (fd : FuncData) : Prop where
  fn : Fun K x x st f fd
  at_ : mg x = some (.ref f)
section
variable {P : Program} {w : World} {K : PySem.W.Frag} {mg : Str → Option Value} {base : Heap}
theorem DefOk.mk {x : Str} {st : Stmt} {f : Addr} {fd : FuncData} {N ps : List Str} {k n : Nat} {fb : FS} {g : List D → Rs D} (D : DefAt K mg x st f fd) (S : FnScope N ps (defScope st)) (hn : ps.length = n)
    (hb : ∀ (kV doc pm : Value) (an : Option Addr) (cdv ct : Value) (us : List Value), us.length = ps.length → bindArgs (PySem.W.fnOf x x (defArgs st) (defBody st) (defScope st) .none kV doc pm an cdv ct) ⟨us, []⟩ = pure (ps.zip us))
    (hbody : ∀ (cdv : Value) (A : Around) (outer : List Env) (s : Shared) (H : Hp) (E : XK), Room k (A.deeper (envOfC x (defScope st) s.heap.objs.size f cdv)) →
      PDSs (cxOf CX0 P w K mg base N x (defScope st) f cdv A outer s H E).nox (defBody st) fb)
    (hg : ∀ ds d, ds.length = n → g ds = .ok d → runF N.length fb ds = .ok d) : DefOk P w K mg base x (k + 1) n ps g :=
  ⟨f, fd, FnD.to (fnD D.fn S hn hbody) hg, D.fn.binds hb, D.fn.kp, D.at_⟩
theorem DefOk.up {x : Str} {j k n : Nat} {ps : List Str} {g : List D → Rs D} (D : DefOk P w K mg base x j n ps g) (h : j ≤ k) : DefOk P w K mg base x k n ps g :=
  let ⟨f, fd, F, r⟩ := D; ⟨f, fd, F.mono h, r⟩
end
section
variable {X : Cx} {pos : Pos} {e tg : Expr} {es : List Expr} {fe : FE} {fs : FA}
theorem pde_def {k n : Nat} {ps : List Str} {g : List D → Rs D} {x : Str} {p : Pos} (D : DefOk X.prog X.w X.K X.mg X.base x k n ps g) (hr : Room k X.A) (ha : PDA X (e :: es) fs) (hfs : ∀ τ ds, fs τ = .ok ds → ds.length = (e :: es).length) (hn : (e :: es).length = n := by rfl) (hg : Gl X x := by rfl) (hdb : (x == ("__debug__" : Str)) = false := by decide)
    (he : starEach (e :: es) X.env = (false, eval e X.env) :: starEach es X.env := by rfl) (hpl : (backTo pos (starEach es X.env)).any (·.1) = false := by rfl) : PDE X (.Call (.Name x p) (e :: es) [] pos) (eCall g fs) := by
  obtain ⟨f, fd, F, hb, hk, hm⟩ := D
  exact pde_call F hr hg hm hk hb ha hn hfs hdb he hpl
end
theorem room128 {k : Nat} {A : Around} (r : Room k A) : A.units + 128 < cLine := by have := r.un; omega
end FD
set_option Elab.async false
set_option linter.all false
set_option maxRecDepth 100000
namespace FD
open PySem PySem.Spec PyProof.Rows L2
variable [Tabs]
section
variable {X : Cx} {pos : Pos} {e a b : Expr} {fe fa fb : FE}
def lst2 : D → D → Option (List D × List D)
  | .lst x, .lst y => some (x, y)
  | _, _ => none
def eCat (fa fb : FE) : FA := fun τ => (fa τ).bind fun x => (fb τ).bind fun y => match lst2 x y with
  | some (i, j) => if i.length + j.length ≤ sizeLine then .ok (i ++ j) else .no
  | none => .no
theorem pds_augA {i : Nat} {x : Str} {pos' : Pos} (hN : X.N.Nodup) (hi : X.N[i]? = some x) (hx : Loc X.env.scope x) (he : PDE X e fe)
    (hf : X.fn x = true ∨ X.env.scope.names.lookup x = some .local := by first | exact .inl rfl | exact .inr rfl | assumption) : PDS X (.AugAssign (.Name x pos') .Add e pos) (sAug i (intOp0 fun i j => .int (i + j)) fe) :=
  pds_aug hN hi hx he ip_add (fun F H x y dx dy Q fh r1 r2 q => by
    cases dx with
    | int i =>
      cases dy with
      | int j =>
        simp only [Rep] at r1 r2; subst r1; subst r2
        exact ⟨i, j, rfl, rfl, q _ F H (Ext.refl fh) (by simp only [Rep])⟩
      | _ => exact q.elim
    | _ => cases dy <;> exact q.elim) hf
end
def spLaw (K : PySem.W.Frag) : Sp := fun vs H Q _ => ∃ (a : Addr) (ns : List Int) (F : Hp), vs = [.ref a] ∧ Same F H ∧ TbT F H ∧ SqL K F a (ns.map V.int) ∧ ns.length ≤ 63 ∧ ∀ H', Q (.bl true) H'
theorem law_fn {P : Program} {w : World} {K : PySem.W.Frag} {mg : Str → Option Value} {base : Heap} {k : Nat} {g : List D → Rs D} {p : Str} {f : Addr} {fd : FuncData} (F : FnOk P w K mg base CX0 k f fd [p] (spD K 1 g)) (h : ∀ ns : List Int, ns.length ≤ 63 → g [.scr ns] = .ok (.bl true)) :
    FnOk P w K mg base CX0 k f fd [p] (spLaw K) := by
  refine F.imp fun vs H Q E ⟨a, ns, Fz, e, fh, tt, hS, h63, q⟩ => ?_
  subst e
  refine ⟨rfl, [.scr ns], Fz, fh, tt, Reps.cons (by simp only [Rep]; exact ⟨a, rfl, hS⟩) Reps.nil, ?_⟩
  rw [h ns h63]
  intro v F' H' _ r
  simp only [Rep] at r
  subst r
  exact q H'
end FD
set_option Elab.async false
set_option linter.all false
set_option maxRecDepth 100000
namespace FD
open PySem PySem.Spec PyProof.Rows L2
variable [Tabs]
section
variable {X : Cx} {pos : Pos} {e tg : Expr} {es : List Expr} {fe : FE} {fs : FA}
def sTup (set : FG) (fe : FE) : FS := fun τ => Fl.of (fe τ) fun d => Fl.of (set d τ) fun τ' => .nx τ'
theorem pds_pair {set : FG} {tg : Expr} (he : PDE X e fe) (hg : PDG X tg set) (hs : swapsWithSole [tg] e pos.line X.env = pure false := by rfl) (hw : swappedStores [tg] e X.env = pure none := by rfl)
    (h1 : (assignEach [tg] X.env).map (·.2) = [assign tg X.env] := by rfl) : PDS X (.Assign [tg] e pos) (sTup set fe) :=
  PS.imp (ps_asg he hg hs hw h1) fun E σ H ⟨B, Z, F, τ, R, h⟩ => tE.at R h.of fun d v F1 H1 g x R1 r =>
    ⟨F1, τ, d, R1.rv, r, g.of.imp fun τ' g' σ' _ RS' _ => g' σ' F1 H1 x.ff (RS' B Z R1)⟩
theorem reps_rng {K : PySem.W.Frag} {F : Hp} (lo : Int) (n : Nat) : Reps K F (rngD lo n) ((List.range n).map fun (k : Nat) => V.int (lo + k)) := by
  unfold rngD
  generalize List.range n = l
  induction l with
  | nil => exact Reps.nil
  | cons a r ih => exact Reps.cons (by simp only [Rep]) ih
theorem vals_rng {lo : Int} {acc : Array Value} {n : Nat} (h : ItemsOf (fun i v => ∃ t, v = Value.int (lo + i * 1) t) acc n) : Vals ((List.range n).map fun (k : Nat) => V.int (lo + k)) acc.toList := by
  obtain ⟨hn, hi⟩ := h
  have key : ∀ (l : List Value) (j : Nat), (∀ k v, l[k]? = some v → ∃ t, v = Value.int (lo + ((j + k : Nat) : Int)) t) → Vals ((List.range' j l.length).map fun (k : Nat) => V.int (lo + k)) l := fun l => by
    induction l with
    | nil => intro j _; exact .nil
    | cons a r ih =>
      intro j hj
      rw [List.length_cons, List.range'_succ, List.map_cons]
      refine .cons ?_ (ih (j + 1) fun k v hv => ?_)
      · obtain ⟨t, rfl⟩ := hj 0 a rfl
        exact ⟨t, by simp⟩
      · obtain ⟨t, e⟩ := hj (k + 1) v (by simpa using hv)
        exact ⟨t, by rw [e]; congr 2; omega⟩
  have := key acc.toList 0 fun k v hv => by
    obtain ⟨t, e⟩ := hi k v (by simpa using hv)
    exact ⟨t, by rw [e]; simp⟩
  rw [Array.length_toList, hn, ← List.range_eq_range'] at this
  exact this
def lstRg (fi : FA) : FA := fun τ => (fi τ).bind fun ds => if ds.length ≤ 16777216 then .ok ds else .no
theorem list_rng {pins : List (Addr × Obj)} {σ : St} {F H F1 H1 : Hp} {s1 : Shared} {Q : VK} {lo hi : Int} {t u v : Tok} {tk : Nat} (hc : X.calm = true) (I1 : Inv X pins σ H1 s1) (h1 : -(2 ^ 62) ≤ lo) (h2 : lo < 2 ^ 62) (h3 : -(2 ^ 62) ≤ hi) (h4 : hi < 2 ^ 62) (hz : (rngD lo (hi - lo).toNat).length ≤ 16777216)
    (x : Ext F H F1 H1) (q : ∀ p vs F' H', Ext F H F' H' → H' p = none → Reps X.K F' (rngD lo (hi - lo).toNat) vs → Q (.ref p) (upd H' p (.lst vs))) :
    wpAny (model X.prog X.w) X.A (call (.type "list") [.ref s1.heap.objs.size]) (EP X pins σ Q) X.xe { s1 with heap := s1.heap.push { cls := .type "range", data := .fields #[.int lo t, .int hi u, .int 1 v] }, toks := tk } := by
  have I2 : Inv X pins σ H1 { s1 with heap := s1.heap.push { cls := .type "range", data := .fields #[.int lo t, .int hi u, .int 1 v] }, toks := tk } := I1.kept fun b o e => Heap.get?_push_of_some _ e
  have hl : (rngD lo (hi - lo).toNat).length = (hi - lo).toNat := by simp [rngD]
  rw [hl] at hz
  refine call_list_range (n := (hi - lo).toNat) (I2.ok.hd hc) (IsRange.new ..) (small_one h1 h2 h3 h4) (by rw [rangeSize_one]; split <;> omega) (by omega) fun h' tk' acc' c' hk hS' hacc => ?_
  have rel := vals_rng hacc
  refine ⟨.ref _, _, I2.laid (t' := tk') hk (Nat.le_refl _) (o := .lst ((List.range (hi - lo).toNat).map fun (k : Nat) => V.int (lo + k))) ⟨by rw [List.length_map, List.length_range, sizeLine_eq]; exact hz, acc'.toList, c', rel, by simpa using hS'⟩, rfl, q _ _ _ _ x (I2.hok.fresh (Nat.le_refl _)) (reps_rng _ _)⟩
theorem pdf_list_range1 {a : Expr} {p p2 pos2 : Pos} (hc : X.calm = true) (hl : Gl X "list") (hml : X.mg "list" = none) (hg : Gl X "range") (hm : X.mg "range" = none) (ha : PDA X [a] fs) (hs : starEach [a] X.env = [(false, eval a X.env)] := by rfl)
    (he : starEach [.Call (.Name "range" p2) [a] [] pos2] X.env = (false, eval (.Call (.Name "range" p2) [a] [] pos2) X.env) :: starEach [] X.env := by rfl) (hpl : (backTo pos (starEach [] X.env)).any (·.1) = false := by rfl) :
    PDF X (.Call (.Name "list" p) [.Call (.Name "range" p2) [a] [] pos2] [] pos) (lstRg (iRg1 fs)) := by
  intro pins s σ H Q I ⟨F, τ, R, h⟩
  refine wpAny_Call_Name_kw (ld_blt I hl hml PyProof.Rows.boot_list ?_)
  refine PyProof.Rows.callWith_type1 ?_ he hpl
  rw [he]
  show wpAny _ _ (spliced ((false, eval (.Call (.Name "range" p2) [a] [] pos2) X.env) :: backTo pos (starEach [] X.env))) _ _ s
  refine Calls.spliced_cons ?_
  have h := h.bind
  unfold iRg1 at h
  have h := h.bind
  generalize hG : (fun ds => Ok X (match int1 ds with | some j => if -(2 ^ 62) ≤ j ∧ j < 2 ^ 62 then Rs.ok (rngD 0 j.toNat) else Rs.no | none => Rs.no) fun a => Ok X (if a.length ≤ 16777216 then Rs.ok a else Rs.no) fun ds => ∀ (p : Addr) (vs : List V) (F' H' : Hp), Ext F H F' H' → H' p = none → Reps X.K F' ds vs → Q (V.ref p) (upd H' p (HO.lst vs))) = G at h
  refine Call_ (ld_blt I hg hm boot_range (PyProof.Rows.callWith_type1 (thn (ha pos2 pins s σ H (fun vs H1 => ∃ ds F1, G ds ∧ Ext F H F1 H1 ∧ RV X.K F1 τ σ H1 ∧ Reps X.K F1 ds vs) I (tAs.of R h fun ds vs F1 H1 g x R1 r => ⟨ds, F1, g, x, R1, r⟩)) fun us s1 ⟨vs, H1, I1, r1, ds, F1, g, x, R1, r⟩ => ?_) hs rfl))
  subst hG
  cases q1 : int1 ds with
  | none => simp only [q1] at g; exact g.elim
  | some j =>
    simp only [q1] at g
    have e := int1_eq q1
    subst e
    obtain ⟨v, rfl, q⟩ := r.one
    simp only [Rep] at q; subst q
    obtain ⟨z, g⟩ := ok_ite g
    obtain ⟨zl, g⟩ := ok_ite g
    cases r1 with
    | cons ra rr =>
      cases rr
      obtain ⟨t, rfl⟩ := ra
      refine call_range_1 ?_
      refine Calls.spliced_nil ?_
      exact list_rng hc I1 (by decide) (by decide) z.1 z.2 (by rw [Int.sub_zero]; exact zl) x (by rw [Int.sub_zero]; exact g)
end
end FD
set_option Elab.async false
set_option linter.all false
set_option maxRecDepth 100000
namespace FD
open PySem PySem.Spec PyProof.Rows L2
variable [Tabs]
section
variable {X : Cx}
end
section
variable {rest : List Expr} {env : Env}
end
end FD
set_option Elab.async false
set_option linter.all false
set_option maxRecDepth 100000
namespace FD
open PySem PySem.Spec PyProof.Rows L2
variable [Tabs]
def Itn (K : PySem.W.Frag) (l : Addr) : It :=
  ⟨fun k H => ∃ vs, SqL K H l vs ∧ k < vs.length,
   fun k H y H' => ∃ p v, H p = none ∧ (∀ vs, SqL K H l vs → vs[k]? = some v) ∧ y = .ref p ∧ H' = upd H p (.tup [.int k, v]),
   fun k H => ∃ vs, SqL K H l vs ∧ vs.length ≤ k⟩
theorem turn_enum {P : Program} {w : World} {K : PySem.W.Frag} {elts : List Expr} {x1} {pos : Pos} {e it l : Addr} (D : e ≠ it) :
    Turn P w K (.Tuple elts x1 pos) (Itn K l) [e, it] e (fun k h => (∃ old, IsEnum h e it (k : Nat) old) ∧ h.IsListIter it l k) where
  mem := by simp
  obj := fun k h ⟨⟨old, h1⟩, ⟨o5, e5, c5, d5⟩⟩ b hb => by
    simp at hb
    rcases hb with rfl | rfl
    · exact ⟨_, h1, fun v z => by cases z⟩
    · exact ⟨_, e5, fun v z => by rw [d5] at z; cases z⟩
  keep := fun k h h' ⟨⟨old, h1⟩, h5⟩ hk => ⟨⟨old, hk e (by simp) _ h1⟩, h5.at fun o q => hk it (by simp) o q⟩
  item := by
    intro X hP hw hK hc k pins s σ H E I hf ⟨⟨old, h1⟩, h5⟩ hg
    subst hP hw hK
    obtain ⟨vs, hq, l2⟩ := hg
    obtain ⟨its, rv, p, hz⟩ := I.list hq
    have hlen := rv.length
    have hvk : vs[k]? = some vs[k] := by simp [l2]
    obtain ⟨u2, eu, ru⟩ := rv.get hvk
    refine wpAny_pyNext_enum_item (x := u2) h1 h5 p.isList (by simpa using eu) D fun h' q1 q2 q3 q4 q5 => ?_
    have np : s.heap.objs.size ≠ e := Nat.ne_of_gt (Heap.lt_size h1)
    refine ⟨_, rfl, wpAny_letOwnedTupleGo_enum (s := { s with heap := h', toks := s.toks + 1 }) q1 fun h'' z1 sb => ?_⟩
    refine ⟨.ref s.heap.objs.size, upd H s.heap.objs.size (.tup [.int k, vs[k]]), ?_, rfl, ⟨_, vs[k], I.hok.fresh (Nat.le_refl _), fun ws hw => by rw [I.list_inj hw hq]; exact hvk, rfl, rfl⟩, ⟨⟨_, by simpa using z1⟩, ?_⟩, fun b hb => ?_⟩
    · refine (turnedT (s := s) (h' := h'') (t' := s.toks + 1) (xs := [.int k, vs[k]]) (ch := [e, it]) I (fun b o hb q => ?_) hf (Nat.le_refl _) ⟨_, sb.extBut _ _ np q3, rfl, _, rfl⟩ (.cons ⟨_, rfl⟩ (.cons ru .nil)) (by show 2 ≤ sizeLine; decide) : Inv X pins σ _ { s with heap := h'', toks := s.toks + 1 })
      simp at hb
      exact sb.extBut _ _ hb.1 (q5 b o hb.1 hb.2 q)
    · obtain ⟨o, q, r⟩ := q2
      exact ⟨o, sb.extBut _ _ (Ne.symm D) q, r⟩
    · have lt : b < s.heap.objs.size := by
        simp at hb
        rcases hb with rfl | rfl
        · exact Heap.lt_size h1
        · obtain ⟨o, q, r⟩ := h5
          exact Heap.lt_size q
      rw [upd_ne (Nat.ne_of_lt lt)]
      exact (hf b hb).1
  done := by
    intro X hP hw hK hc k pins s σ H E I hf ⟨⟨old, h1⟩, h5⟩ hg
    subst hP hw hK
    obtain ⟨vs, hq, hend⟩ := hg
    obtain ⟨its, rv, p, hz⟩ := I.list hq
    have hlen := rv.length
    obtain ⟨f0, f1, f2, f3, f4, f5⟩ := hf it (by simp)
    exact wpAny_pyNext_enum_end (I.ok.hd hc) h1 h5 p.isList (by simp; omega) fun h' eb => ⟨rfl, I.turned (t' := s.toks) (fun b o hb q => eb b o hb q) f0 f1 f3 f4 f5⟩
  self := fun _ _ _ _ _ ⟨⟨_, h1⟩, _⟩ h => wpAny_pyIter_enum h1 h
section
variable {X : Cx} {pos : Pos} {e a b : Expr} {es : List Expr} {fe fa fb : FE} {fs : FA}
def iEnumT (K : PySem.W.Frag) (ta : TA) : TI := fun σ H R => ta σ H fun vs H1 => ∃ l ws, vs = [.ref l] ∧ SqL K H1 l ws ∧ R (Itn K l) H1
theorem pi_enum {ta : TA} {p : Pos} {elts : List Expr} {x1} {tpos : Pos} (hg : Gl X "enumerate") (hm : X.mg "enumerate" = none) (ha : PA X [a] ta) (hs : starEach [a] X.env = [(false, eval a X.env)] := by rfl) :
    PI X (.Tuple elts x1 tpos) (.Call (.Name "enumerate" p) [a] [] pos) (iEnumT X.K ta) := by
  intro pins s σ H R I h
  refine Call_ (ld_blt I hg hm boot_enumerate (PyProof.Rows.callWith_type1 (thn (ha pos pins s σ H _ I h) fun us s1 ⟨vs, H1, I1, r1, q1⟩ => ?_) (by rw [hs]; rfl) rfl))
  obtain ⟨l, ws, e, hq, q⟩ := q1
  subst e
  obtain ⟨u1, rfl, ru⟩ := vals1 r1
  cases ru
  obtain ⟨its, rr, pp, hz⟩ := I1.list hq
  refine call_enumerate_list pp.isList fun h' g1 g2 g3 g4 => ?_
  have I5 : Inv X pins σ H1 { s1 with heap := h' } := I1.kept (t' := s1.toks) g4
  refine wpAny_pyIter_enum (s := { s1 with heap := h' }) g1 ?_
  refine ⟨s1.heap.objs.size + 1, [s1.heap.objs.size + 1, s1.heap.objs.size], _, _, H1, rfl, I5, turn_enum (l := l) (by show (_ : Nat) ≠ _; omega), ⟨⟨_, g1⟩, g2⟩, fun b hb => ?_, q⟩
  have hb' : s1.heap.objs.size ≤ b := by
    simp at hb
    rcases hb with rfl | rfl <;> (show s1.heap.objs.size ≤ (_ : Nat); omega)
  obtain ⟨f0, f1, f2, f3, f4, f5⟩ := I1.fpOk (H' := H1) hb' (I1.hok.fresh hb')
  exact ⟨f0, f1, f2, f3, f4, f5⟩
def enumFrom (n : Nat) : List D → List D
  | [] => []
  | d :: r => .tup [.int n, d] :: enumFrom (n + 1) r
theorem enumFrom_len : ∀ (ds : List D) (n : Nat), (enumFrom n ds).length = ds.length
  | [], _ => rfl
  | _ :: r, n => by simp [enumFrom, enumFrom_len r]
theorem enumFrom_get : ∀ {ds : List D} {n i : Nat} {p : D}, (enumFrom n ds)[i]? = some p → ∃ d, ds[i]? = some d ∧ p = .tup [.int ((n + i : Nat) : Int), d]
  | [], _, _, _, h => by simp [enumFrom] at h
  | d :: ds, n, 0, p, h => by simp [enumFrom] at h; exact ⟨d, rfl, by simpa using h.symm⟩
  | d :: ds, n, i + 1, p, h => by
    obtain ⟨d', h2, h3⟩ := enumFrom_get (n := n + 1) (i := i) (by simpa [enumFrom] using h)
    exact ⟨d', by simpa using h2, by rw [h3]; congr 3; show ((n + 1 + i : Nat) : Int) = _; congr 1; omega⟩
theorem it_enum {K : PySem.W.Frag} {F1 : Hp} {l : Addr} {ds : List D} {vs : List V} (e : SqL K F1 l vs) (r : Reps K F1 ds vs) : ItOk K (Itn K l) F1 (enumFrom 0 ds) := fun i F H f1 f2 => by
  have q : SqL K H l vs := (f1.trans f2).seq e
  have hl := enumFrom_len ds 0
  have hr := r.length
  refine ⟨fun h => ⟨vs, q, by omega⟩, fun p hp => ?_⟩
  obtain ⟨d, h2, rfl⟩ := enumFrom_get hp
  have l2 : i < vs.length := by have := (List.getElem?_eq_some_iff.mp h2).1; omega
  refine ⟨⟨vs, q, l2⟩, fun y H' yy => ?_⟩
  obtain ⟨pa, v, hp, q', rfl, rfl⟩ := yy
  refine ⟨upd F pa (.tup [.int i, v]), Ext.new f2 hp, ?_⟩
  simp only [Rep]
  refine ⟨pa, _, rfl, SqT.of upd_same, Reps.cons (by simp only [Rep, Nat.zero_add]) (Reps.cons ?_ Reps.nil)⟩
  obtain ⟨v', hv', rv'⟩ := r.get h2
  have e3 := q' vs q
  rw [hv'] at e3; cases e3
  exact (rv'.mono f1).mono (same_upd (none_of_same f2 hp))
def lstq : List D → Option (List D)
  | [.lst ds] => some ds
  | _ => none
theorem lstq_eq {ds xs : List D} (h : lstq ds = some xs) : ds = [.lst xs] := by
  unfold lstq at h; split at h <;> cases h; rfl
def iEn (fs : FA) : FA := fun τ => (fs τ).bind fun ds => match lstq ds with
  | some xs => .ok (enumFrom 0 xs)
  | none => .no
theorem pdi_enum {p : Pos} {elts : List Expr} {x1} {tpos : Pos} (hg : Gl X "enumerate") (hm : X.mg "enumerate" = none) (ha : PDA X [a] fs) (hs : starEach [a] X.env = [(false, eval a X.env)] := by rfl) :
    PDI X (.Tuple elts x1 tpos) (.Call (.Name "enumerate" p) [a] [] pos) (iEn fs) :=
  PI.imp (pi_enum hg hm ha hs) fun σ H R ⟨F, τ, Rv, h⟩ => tAs.of Rv h.bind fun ds vs F1 H1 g x R1 r => by
    cases q1 : lstq ds with
    | none => rw [q1] at g; exact g.elim
    | some xs =>
      rw [q1] at g
      have e := lstq_eq q1
      subst e
      obtain ⟨v, rfl, r1⟩ := r.one
      simp only [Rep] at r1
      obtain ⟨l, ws, rfl, e1, t⟩ := r1
      exact ⟨l, ws, rfl, SqL.of (R1.fh _ _ e1), g _ F1 H1 x (it_enum (SqL.of e1) t)⟩
end
end FD
set_option Elab.async false
set_option linter.all false
set_option maxRecDepth 100000
namespace FD
open PySem PySem.Spec PyProof.Rows L2
variable [Tabs]
section
variable {X : Cx} {pos : Pos} {e a b : Expr} {es : List Expr} {fe fa fb : FE} {fs : FA}
end
end FD
set_option Elab.async false
set_option linter.all false
set_option maxRecDepth 100000
namespace FD
open PySem PySem.Spec PyProof.Rows L2
variable [Tabs]
section
variable {X : Cx} {pos : Pos} {e a b : Expr} {es : List Expr} {fe fa fb : FE} {fs : FA}
def intsQ : List D → Option (List Int)
  | [] => some []
  | .int i :: r => (intsQ r).map (i :: ·)
  | _ => none
theorem intsQ_eq : ∀ {ds : List D} {is : List Int}, intsQ ds = some is → ds = is.map D.int
  | [], is, h => by cases h; rfl
  | d :: r, is, h => by
    cases d with
    | int i =>
      simp only [intsQ] at h
      cases q : intsQ r with
      | none => rw [q] at h; cases h
      | some l => rw [q] at h; cases h; rw [intsQ_eq q]; rfl
    | _ => cases h
theorem reps_ints_inv {K : PySem.W.Frag} {F : Hp} : ∀ {is : List Int} {vs : List V}, Reps K F (is.map D.int) vs → vs = is.map V.int
  | [], vs, r => by simpa only [List.map_nil, Reps] using r
  | i :: is, vs, r => by
    simp only [List.map_cons, Reps, Rep] at r
    obtain ⟨v, r', rfl, rfl, t⟩ := r
    rw [reps_ints_inv t]; rfl
theorem vals_get {is : List Int} {us : List Value} (h : Vals (is.map V.int) us) {i : Nat} {u : Value} (hu : us[i]? = some u) : ∃ t, u = Value.int (is.getD i 0) t := by
  have hl := h.length
  have hi : i < is.length := by
    have := (List.getElem?_eq_some_iff.mp hu).1
    rw [List.length_map] at hl; omega
  obtain ⟨w, h1, h2⟩ := h.get (i := i) (x := V.int is[i]) (by simp [hi])
  rw [hu] at h1; cases h1
  obtain ⟨t, rfl⟩ := h2
  exact ⟨t, by simp [List.getD_eq_getElem?_getD, hi]⟩
def mxI (is : List Int) : Int := is.getD (argBest (fun i j => decide (is.getD i 0 > is.getD j 0)) (is.length - 1)) 0
theorem mxI_spec (is : List Int) (h : is ≠ []) : mxI is ∈ is ∧ ∀ i ∈ is, i ≤ mxI is := by
  obtain ⟨h1, h2⟩ := argBest_gt (fun i => is.getD i 0) (is.length - 1)
  have hl := List.length_pos_iff.mpr h
  refine ⟨?_, fun i hi => ?_⟩
  · unfold mxI
    have : argBest (fun i j => decide (is.getD i 0 > is.getD j 0)) (is.length - 1) < is.length := by omega
    rw [List.getD_eq_getElem?_getD, List.getElem?_eq_getElem this]
    exact List.getElem_mem this
  · obtain ⟨j, hj, rfl⟩ := List.mem_iff_getElem.mp hi
    have := h2 j (by omega)
    unfold mxI
    simpa [List.getD_eq_getElem?_getD, hj] using this
end
end FD
set_option Elab.async false
set_option linter.all false
set_option maxRecDepth 100000
namespace FD
open PySem PySem.Spec PyProof.Rows L2
variable [Tabs]
def Ins (x : Str) : It :=
  ⟨fun k _ => k < x.cps.size,
   fun k H y H' => ∃ p c, H p = none ∧ x.cps[k]? = some c ∧ y = .ref p ∧ H' = upd H p (.tup [.int k, .str ⟨#[c]⟩]),
   fun k _ => x.cps.size ≤ k⟩
theorem strIter_or (x : Str) : strIterType x = "str_ascii_iterator" ∨ strIterType x = "str_iterator" := by
  unfold strIterType; split <;> simp
theorem draws_str {prog : Program} {w : World} {A : Around} (hh : A.handled = none) (it : Addr) (x : Str) (t : Tok) : Draws prog w A it [it] x.cps.size (SignAt x) (fun i h => h.IsStrIter it (strIterType x) x t i) := by
  rcases strIter_or x with e | e <;> rw [e]
  · exact Draws.strAscii hh it x t
  · exact Draws.strWide hh it x t
theorem turn_enumS {P : Program} {w : World} {K : PySem.W.Frag} {elts : List Expr} {x1} {pos : Pos} {e it : Addr} {x : Str} {t : Tok} (D : e ≠ it) :
    Turn P w K (.Tuple elts x1 pos) (Ins x) [e, it] e (fun k h => (∃ old, IsEnum h e it (k : Nat) old) ∧ h.IsStrIter it (strIterType x) x t k ∧ k ≤ x.cps.size) where
  mem := by simp
  obj := fun k h ⟨⟨old, h1⟩, ⟨o5, e5, c5, d5⟩, _⟩ b hb => by
    simp at hb
    rcases hb with rfl | rfl
    · exact ⟨_, h1, fun v z => by cases z⟩
    · exact ⟨_, e5, fun v z => by rw [d5] at z; cases z⟩
  keep := fun k h h' ⟨⟨old, h1⟩, ⟨o, q, r⟩, l⟩ hk => ⟨⟨old, hk e (by simp) _ h1⟩, ⟨o, hk it (by simp) o q, r⟩, l⟩
  item := by
    intro X hP hw hK hc k pins s σ H E I hf ⟨⟨old, h1⟩, h5, _⟩ hg
    subst hP hw hK
    have hg : k < x.cps.size := hg
    refine wpAny_pyNext_enum_itemD (draws_str (show X.A.in1.handled = none from I.ok.hd hc) it x t) h1 h5 hg D (by simpa using D) fun v h' tk pv q1 q2 q3 q4 q5 => ?_
    obtain ⟨c, u, hc', rfl⟩ := pv
    have np : s.heap.objs.size ≠ e := Nat.ne_of_gt (Heap.lt_size h1)
    refine ⟨_, rfl, wpAny_letOwnedTupleGo_enum (s := { s with heap := h', toks := tk + 1 }) q1 fun h'' z1 sb => ?_⟩
    refine ⟨.ref s.heap.objs.size, upd H s.heap.objs.size (.tup [.int k, .str ⟨#[c]⟩]), ?_, rfl, ⟨_, c, I.hok.fresh (Nat.le_refl _), hc', rfl, rfl⟩, ⟨⟨_, by simpa using z1⟩, ?_, hg⟩, fun b hb => ?_⟩
    · refine (turnedT (s := s) (h' := h'') (t' := tk + 1) (xs := [.int k, .str ⟨#[c]⟩]) (ch := [e, it]) I (fun b o hb q => ?_) hf (Nat.le_refl _) ⟨_, sb.extBut _ _ np q3, rfl, _, rfl⟩ (.cons ⟨_, rfl⟩ (.cons ⟨_, rfl⟩ .nil)) (by show 2 ≤ sizeLine; decide) : Inv X pins σ _ { s with heap := h'', toks := tk + 1 })
      simp at hb
      exact sb.extBut _ _ hb.1 (q5 b o hb.1 hb.2 q)
    · obtain ⟨o, q, r⟩ := q2
      exact ⟨o, sb.extBut _ _ (Ne.symm D) q, r⟩
    · have lt : b < s.heap.objs.size := by
        simp at hb
        rcases hb with rfl | rfl
        · exact Heap.lt_size h1
        · obtain ⟨o, q, r⟩ := h5
          exact Heap.lt_size q
      rw [upd_ne (Nat.ne_of_lt lt)]
      exact (hf b hb).1
  done := by
    intro X hP hw hK hc k pins s σ H E I hf ⟨⟨old, h1⟩, h5, hk⟩ hg
    subst hP hw hK
    have hg : x.cps.size ≤ k := hg
    have e1 : k = x.cps.size := Nat.le_antisymm hk hg
    subst e1
    obtain ⟨f0, f1, f2, f3, f4, f5⟩ := hf it (by simp)
    exact wpAny_pyNext_enum_endD (draws_str (show X.A.in1.handled = none from I.ok.hd hc) it x t) h1 h5 fun h' eb => ⟨rfl, I.turned (t' := s.toks) (fun b o hb q => eb b o hb q) f0 f1 f3 f4 f5⟩
  self := fun _ _ _ _ _ ⟨⟨_, h1⟩, _⟩ h => wpAny_pyIter_enum h1 h
section
variable {X : Cx} {pos : Pos} {e a b : Expr} {es : List Expr} {fe fa fb : FE} {fs : FA}
def iEnumS (ta : TA) : TI := fun σ H R => ta σ H fun vs H1 => ∃ x, vs = [.str x] ∧ R (Ins x) H1
theorem pi_enumS {ta : TA} {p : Pos} {elts : List Expr} {x1} {tpos : Pos} (hg : Gl X "enumerate") (hm : X.mg "enumerate" = none) (ha : PA X [a] ta) (hs : starEach [a] X.env = [(false, eval a X.env)] := by rfl) :
    PI X (.Tuple elts x1 tpos) (.Call (.Name "enumerate" p) [a] [] pos) (iEnumS ta) := by
  intro pins s σ H R I h
  refine Call_ (ld_blt I hg hm boot_enumerate (PyProof.Rows.callWith_type1 (thn (ha pos pins s σ H _ I h) fun us s1 ⟨vs, H1, I1, r1, q1⟩ => ?_) (by rw [hs]; rfl) rfl))
  obtain ⟨x, e, q⟩ := q1
  subst e
  obtain ⟨u1, rfl, ru⟩ := vals1 r1
  obtain ⟨t, rfl⟩ := ru
  refine call_enumerate_str fun h' g1 g2 g3 g4 => ?_
  have I5 : Inv X pins σ H1 { s1 with heap := h' } := I1.kept (t' := s1.toks) g4
  refine wpAny_pyIter_enum (s := { s1 with heap := h' }) g1 ?_
  refine ⟨s1.heap.objs.size + 1, [s1.heap.objs.size + 1, s1.heap.objs.size], _, _, H1, rfl, I5, turn_enumS (x := x) (t := t) (by show (_ : Nat) ≠ _; omega), ⟨⟨_, g1⟩, g2, Nat.zero_le _⟩, fun b hb => ?_, q⟩
  have hb' : s1.heap.objs.size ≤ b := by
    simp at hb
    rcases hb with rfl | rfl <;> (show s1.heap.objs.size ≤ (_ : Nat); omega)
  obtain ⟨f0, f1, f2, f3, f4, f5⟩ := I1.fpOk (H' := H1) hb' (I1.hok.fresh hb')
  exact ⟨f0, f1, f2, f3, f4, f5⟩
theorem it_enumS {K : PySem.W.Frag} {F1 : Hp} {x : Str} : ItOk K (Ins x) F1 (enumFrom 0 (signsD x)) := fun i F H f1 f2 => by
  have hl := enumFrom_len (signsD x) 0
  have hz : (signsD x).length = x.cps.size := by simp [signsD]
  refine ⟨fun h => ?_, fun p hp => ?_⟩
  · show x.cps.size ≤ i
    omega
  obtain ⟨d, h2, rfl⟩ := enumFrom_get hp
  have l2 : i < x.cps.size := by have := (List.getElem?_eq_some_iff.mp h2).1; omega
  refine ⟨l2, fun y H' yy => ?_⟩
  obtain ⟨pa, c, hp, q', rfl, rfl⟩ := yy
  refine ⟨upd F pa (.tup [.int i, .str ⟨#[c]⟩]), Ext.new f2 hp, ?_⟩
  have ed : d = .str ⟨#[c]⟩ := by
    unfold signsD at h2
    rw [List.getElem?_map] at h2
    have : x.cps.toList[i]? = some c := by simpa using q'
    rw [this] at h2
    exact (Option.some.inj h2).symm
  subst ed
  simp only [Rep]
  refine ⟨pa, _, rfl, SqT.of upd_same, Reps.cons (by simp only [Rep, Nat.zero_add]) (Reps.cons (by simp only [Rep]) Reps.nil)⟩
def sq1 : List D → Option Str
  | [.str x] => some x
  | _ => none
theorem sq1_eq {ds : List D} {x : Str} (h : sq1 ds = some x) : ds = [.str x] := by
  unfold sq1 at h; split at h <;> cases h; rfl
def iEnS (fs : FA) : FA := fun τ => (fs τ).bind fun ds => match sq1 ds with
  | some x => .ok (enumFrom 0 (signsD x))
  | none => .no
theorem pdi_enumS {p : Pos} {elts : List Expr} {x1} {tpos : Pos} (hg : Gl X "enumerate") (hm : X.mg "enumerate" = none) (ha : PDA X [a] fs) (hs : starEach [a] X.env = [(false, eval a X.env)] := by rfl) :
    PDI X (.Tuple elts x1 tpos) (.Call (.Name "enumerate" p) [a] [] pos) (iEnS fs) :=
  PI.imp (pi_enumS hg hm ha hs) fun σ H R ⟨F, τ, Rv, h⟩ => tAs.of Rv h.bind fun ds vs F1 H1 g x R1 r => by
    cases q1 : sq1 ds with
    | none => rw [q1] at g; exact g.elim
    | some z =>
      rw [q1] at g
      have e := sq1_eq q1
      subst e
      obtain ⟨v, rfl, r1⟩ := r.one
      simp only [Rep] at r1
      subst r1
      exact ⟨z, rfl, g _ F1 H1 x it_enumS⟩
end
end FD
set_option Elab.async false
set_option linter.all false
set_option maxRecDepth 100000
namespace FD
open PySem PySem.Spec PyProof.Rows L2
variable [Tabs]
def Itzl (K : PySem.W.Frag) (l1 l2 : Addr) : It :=
  ⟨fun k H => ∃ vs ws, SqL K H l1 vs ∧ SqL K H l2 ws ∧ k < vs.length ∧ k < ws.length,
   fun k H y H' => ∃ p v w, H p = none ∧ (∀ vs, SqL K H l1 vs → vs[k]? = some v) ∧ (∀ ws, SqL K H l2 ws → ws[k]? = some w) ∧ y = .ref p ∧ H' = upd H p (.tup [v, w]),
   fun k H => ∃ vs ws, SqL K H l1 vs ∧ SqL K H l2 ws ∧ (vs.length ≤ k ∨ ws.length ≤ k)⟩
theorem turn_zipL {P : Program} {w : World} {K : PySem.W.Frag} {elts : List Expr} {x1} {pos : Pos} {z TI TO i1 i2 l1 l2 : Addr} (D : Apart5 z TI TO i1 i2) :
    Turn P w K (.Tuple elts x1 pos) (Itzl K l1 l2) [z, TI, TO, i1, i2] z (fun k h => IsZip h z TI TO .none ∧ IsPair h TI (.ref i1) (.ref i2) ∧ (∃ a b, IsPair h TO a b) ∧ h.IsListIter i1 l1 k ∧ h.IsListIter i2 l2 k) where
  mem := by simp
  obj := fun k h ⟨h1, h2, ⟨a, b, h3⟩, ⟨o4, e4, c4, d4⟩, ⟨o5, e5, c5, d5⟩⟩ b hb => by
    simp at hb
    rcases hb with rfl | rfl | rfl | rfl | rfl
    · exact ⟨_, h1, fun v z => by cases z⟩
    · exact ⟨_, h2, fun v z => by cases z⟩
    · exact ⟨_, h3, fun v z => by cases z⟩
    · exact ⟨_, e4, fun v z => by rw [d4] at z; cases z⟩
    · exact ⟨_, e5, fun v z => by rw [d5] at z; cases z⟩
  keep := fun k h h' ⟨h1, h2, ⟨a, b, h3⟩, h4, h5⟩ hk => ⟨hk z (by simp) _ h1, hk TI (by simp) _ h2, ⟨a, b, hk TO (by simp) _ h3⟩, h4.at fun o e => hk i1 (by simp) o e, h5.at fun o e => hk i2 (by simp) o e⟩
  item := by
    intro X hP hw hK hc k pins s σ H E I hf ⟨h1, h2, ⟨a, b, h3⟩, h4, h5⟩ hg
    subst hP hw hK
    obtain ⟨vs, ws, hq1, hq2, l1', l2'⟩ := hg
    obtain ⟨its1, rv1, p1, hz1⟩ := I.list hq1
    obtain ⟨its2, rv2, p2, hz2⟩ := I.list hq2
    have hh : X.A.in1.handled = none := I.ok.hd hc
    have hlen1 := rv1.length
    have hlen2 := rv2.length
    obtain ⟨o4, e4, c4, d4⟩ := id h4
    obtain ⟨o5, e5, c5, d5⟩ := id h5
    have n1 : ∀ b o, s.heap.get? b = some o → o.cls = .type "list" → b ≠ i1 := fun b o e c => notList e4 c4 (by decide) e c
    have n2 : ∀ b o, s.heap.get? b = some o → o.cls = .type "list" → b ≠ i2 := fun b o e c => notList e5 c5 (by decide) e c
    refine zipG_next D (Drw.list hh i1 l1 its1.toArray) (Drw.list hh i2 l2 its2.toArray) (by simpa [← hlen1] using l1') (by simpa [← hlen2] using l2') h1 h2 h3 h4 h5 p1.isList p2.isList n1 n2 fun u1 u2 h' tk pp1 pp2 q1 q2 q3 q4 q5 q6 q7 => ?_
    have pp1' : its1[k]? = some u1 := by simpa using pp1
    have pp2' : its2[k]? = some u2 := by simpa using pp2
    have hvk : vs[k]? = some vs[k] := by simp [l1']
    have hwk : ws[k]? = some ws[k] := by simp [l2']
    obtain ⟨w1, ew1, rw1⟩ := rv1.get hvk
    rw [pp1'] at ew1; cases ew1
    obtain ⟨w2, ew2, rw2⟩ := rv2.get hwk
    rw [pp2'] at ew2; cases ew2
    refine ⟨_, rfl, wpAny_letOwnedTupleGo_zip (s := { s with heap := h', toks := tk }) q1 fun h'' z1 sb => ?_⟩
    have np : s.heap.objs.size ≠ z := Nat.ne_of_gt (Heap.lt_size h1)
    refine ⟨.ref s.heap.objs.size, upd H s.heap.objs.size (.tup [vs[k], ws[k]]), ?_, rfl, ⟨_, vs[k], ws[k], I.hok.fresh (Nat.le_refl _), fun us hu => by rw [I.list_inj hu hq1]; exact hvk, fun us hu => by rw [I.list_inj hu hq2]; exact hwk, rfl, rfl⟩, ⟨z1, ?_, ⟨_, _, sb.extBut _ _ D.TOz q2⟩, ?_, ?_⟩, fun b hb => ?_⟩
    · refine (turnedT (s := s) (h' := h'') (t' := tk) (xs := [vs[k], ws[k]]) (ch := [z, TI, TO, i1, i2]) I (fun b o hb e => ?_) hf (Nat.le_refl _) ⟨_, sb.extBut _ _ np q5, rfl, _, rfl⟩ (.cons rw1 (.cons rw2 .nil)) (by show 2 ≤ sizeLine; decide) : Inv X pins σ _ { s with heap := h'', toks := tk })
      simp at hb
      exact sb.extBut _ _ hb.1 (q7 b o hb.1 hb.2.2.1 hb.2.2.2.1 hb.2.2.2.2 e)
    · exact sb.extBut _ _ D.TIz (q7 _ _ D.TIz D.TITO D.TIi1 D.TIi2 h2)
    · obtain ⟨o, e, r⟩ := q3
      exact ⟨o, sb.extBut _ _ D.i1z e, r⟩
    · obtain ⟨o, e, r⟩ := q4
      exact ⟨o, sb.extBut _ _ D.i2z e, r⟩
    · have lt : b < s.heap.objs.size := by
        simp at hb
        rcases hb with rfl | rfl | rfl | rfl | rfl
        · exact Heap.lt_size h1
        · exact Heap.lt_size h2
        · exact Heap.lt_size h3
        · exact Heap.lt_size e4
        · exact Heap.lt_size e5
      rw [upd_ne (Nat.ne_of_lt lt)]
      exact (hf b hb).1
  done := by
    intro X hP hw hK hc k pins s σ H E I hf ⟨h1, h2, ⟨a, b, h3⟩, h4, h5⟩ hg
    subst hP hw hK
    obtain ⟨vs, ws, hq1, hq2, hend⟩ := hg
    obtain ⟨its1, rv1, p1, hz1⟩ := I.list hq1
    obtain ⟨its2, rv2, p2, hz2⟩ := I.list hq2
    have hh : X.A.in1.handled = none := I.ok.hd hc
    have hlen1 := rv1.length
    have hlen2 := rv2.length
    obtain ⟨o4, e4, c4, d4⟩ := id h4
    have n1 : ∀ b o, s.heap.get? b = some o → o.cls = .type "list" → b ≠ i1 := fun b o e c => notList e4 c4 (by decide) e c
    refine zipG_stop D (Drw.list hh i1 l1 its1.toArray) (Drw.list hh i2 l2 its2.toArray) (by simpa [← hlen1, ← hlen2] using hend) h1 h2 h3 h4 h5 p1.isList p2.isList n1 fun h' tk hk => ⟨rfl, turnedL (ch := [z, TI, TO, i1, i2]) I (fun b o hb e => ?_) hf fun b hb => (hf b hb).1⟩
    simp at hb
    exact hk b o hb.1 hb.2.2.1 hb.2.2.2.1 hb.2.2.2.2 e
  self := fun _ _ _ _ _ ⟨h1, _⟩ h => wpAny_pyIter_zip h1 h
section
variable {X : Cx} {pos : Pos} {e a b : Expr} {es : List Expr} {fe fa fb : FE} {fs : FA}
def iZipL (K : PySem.W.Frag) (ta : TA) : TI := fun σ H R => ta σ H fun vs H1 => ∃ l1 l2 us ws, vs = [.ref l1, .ref l2] ∧ SqL K H1 l1 us ∧ SqL K H1 l2 ws ∧ R (Itzl K l1 l2) H1
theorem pi_zipL {ta : TA} {p : Pos} {elts : List Expr} {x1} {tpos : Pos} (hg : Gl X "zip") (hm : X.mg "zip" = none) (ha : PA X [a, b] ta) (hs : starEach [a, b] X.env = [(false, eval a X.env), (false, eval b X.env)] := by rfl) (hs2 : starEach [b] X.env = [(false, eval b X.env)] := by rfl) :
    PI X (.Tuple elts x1 tpos) (.Call (.Name "zip" p) [a, b] [] pos) (iZipL X.K ta) := by
  intro pins s σ H R I h
  refine Call_ (ld_blt I hg hm boot_zip (PyProof.Rows.callWith_type1 (thn (ha pos pins s σ H _ I h) fun us s1 ⟨vs, H1, I1, r1, q1⟩ => ?_) (by rw [hs, hs2]) (by rw [hs2]; rfl)))
  obtain ⟨l1, l2, us', ws, e, hq1, hq2, q⟩ := q1
  subst e
  obtain ⟨u1, u2, rfl, ru1, ru2⟩ := vals2 r1
  cases ru1; cases ru2
  obtain ⟨its1, rr1, pp1, hz1⟩ := I1.list hq1
  obtain ⟨its2, rr2, pp2, hz2⟩ := I1.list hq2
  refine call_zip_2 pp1.isList pp2.isList fun h' g5 g3 g4 g1 g2 sz keep => ?_
  have I5 : Inv X pins σ H1 { s1 with heap := h' } := I1.kept (t' := s1.toks) keep
  refine wpAny_pyIter_zip (s := { s1 with heap := h' }) g5 ?_
  refine ⟨s1.heap.objs.size + 4, [s1.heap.objs.size + 4, s1.heap.objs.size + 2, s1.heap.objs.size + 3, s1.heap.objs.size, s1.heap.objs.size + 1], _, _, H1, rfl, I5, turn_zipL (l1 := l1) (l2 := l2) ⟨?_, ?_, ?_, ?_, ?_, ?_, ?_, ?_, ?_, ?_⟩, ⟨g5, g3, ⟨_, _, g4⟩, g1, g2⟩, fun b hb => ?_, q⟩
  all_goals try (show (_ : Nat) ≠ _; omega)
  have hb' : s1.heap.objs.size ≤ b := by
    simp at hb
    rcases hb with rfl | rfl | rfl | rfl | rfl <;> (show s1.heap.objs.size ≤ (_ : Nat); omega)
  obtain ⟨f0, f1, f2, f3, f4, f5⟩ := I1.fpOk (H' := H1) hb' (I1.hok.fresh hb')
  exact ⟨f0, f1, f2, f3, f4, f5⟩
def zipDs (as bs : List D) : List D := (as.zip bs).map fun t => .tup [t.1, t.2]
theorem it_zipL {K : PySem.W.Frag} {F1 : Hp} {l1 l2 : Addr} {ds es : List D} {vs ws : List V} (e1 : SqL K F1 l1 vs) (r1 : Reps K F1 ds vs) (e2 : SqL K F1 l2 ws) (r2 : Reps K F1 es ws) : ItOk K (Itzl K l1 l2) F1 (zipDs ds es) := fun i F H f1 f2 => by
  have q1 : SqL K H l1 vs := (f1.trans f2).seq e1
  have q2 : SqL K H l2 ws := (f1.trans f2).seq e2
  have hr1 := r1.length
  have hr2 := r2.length
  have hl : (zipDs ds es).length = min ds.length es.length := by simp [zipDs]
  refine ⟨fun h => ⟨vs, ws, q1, q2, by rw [hl] at h; omega⟩, fun p hp => ?_⟩
  unfold zipDs at hp
  rw [List.getElem?_map] at hp
  cases z : (ds.zip es)[i]? with
  | none => rw [z] at hp; cases hp
  | some t =>
    rw [z] at hp
    obtain ⟨h1, h2⟩ := List.getElem?_zip_eq_some.mp z
    obtain rfl := (Option.some.inj hp)
    have k1 : i < vs.length := by have := (List.getElem?_eq_some_iff.mp h1).1; omega
    have k2 : i < ws.length := by have := (List.getElem?_eq_some_iff.mp h2).1; omega
    refine ⟨⟨vs, ws, q1, q2, k1, k2⟩, fun y H' yy => ?_⟩
    obtain ⟨pa, v, w, hp, z1, z2, rfl, rfl⟩ := yy
    refine ⟨upd F pa (.tup [v, w]), Ext.new f2 hp, ?_⟩
    obtain ⟨v', hv', rv'⟩ := r1.get h1
    obtain ⟨w', hw', rw'⟩ := r2.get h2
    have y1 := z1 vs q1
    have y2 := z2 ws q2
    rw [hv'] at y1; cases y1
    rw [hw'] at y2; cases y2
    simp only [Rep]
    exact ⟨pa, _, rfl, SqT.of upd_same, Reps.cons ((rv'.mono f1).mono (same_upd (none_of_same f2 hp))) (Reps.cons ((rw'.mono f1).mono (same_upd (none_of_same f2 hp))) Reps.nil)⟩
def lst2q : List D → Option (List D × List D)
  | [.lst a, .lst b] => some (a, b)
  | _ => none
theorem lst2q_eq {ds as bs : List D} (h : lst2q ds = some (as, bs)) : ds = [.lst as, .lst bs] := by
  unfold lst2q at h; split at h <;> cases h; rfl
def iZpL (fs : FA) : FA := fun τ => (fs τ).bind fun ds => match lst2q ds with
  | some (as, bs) => .ok (zipDs as bs)
  | none => .no
theorem pdi_zipL {p : Pos} {elts : List Expr} {x1} {tpos : Pos} (hg : Gl X "zip") (hm : X.mg "zip" = none) (ha : PDA X [a, b] fs) (hs : starEach [a, b] X.env = [(false, eval a X.env), (false, eval b X.env)] := by rfl) (hs2 : starEach [b] X.env = [(false, eval b X.env)] := by rfl) :
    PDI X (.Tuple elts x1 tpos) (.Call (.Name "zip" p) [a, b] [] pos) (iZpL fs) :=
  PI.imp (pi_zipL hg hm ha hs hs2) fun σ H R ⟨F, τ, Rv, h⟩ => tAs.of Rv h.bind fun ds vs F1 H1 g x R1 r => by
    cases q1 : lst2q ds with
    | none => rw [q1] at g; exact g.elim
    | some ij =>
      obtain ⟨as, bs⟩ := ij
      rw [q1] at g
      have e := lst2q_eq q1
      subst e
      obtain ⟨v1, v2, rfl, r1, r2⟩ := r.two
      simp only [Rep] at r1 r2
      obtain ⟨l1, ws1, rfl, e1, t1⟩ := r1
      obtain ⟨l2, ws2, rfl, e2, t2⟩ := r2
      exact ⟨l1, l2, ws1, ws2, rfl, SqL.of (R1.fh _ _ e1), SqL.of (R1.fh _ _ e2), g _ F1 H1 x (it_zipL (SqL.of e1) t1 (SqL.of e2) t2)⟩
end
end FD
set_option Elab.async false
set_option linter.all false
set_option maxRecDepth 100000
namespace FD
open PySem PySem.Spec PyProof.Rows L2
variable [Tabs]
def BM (mg : Str → Option Value) (base : Heap) : Prop := ∃ bm o, mg "__builtins__" = some (.ref bm) ∧ bm ≠ builtinsNs ∧ base.get? bm = some o ∧ o.cls = .type "module" ∧ o.dict = some builtinsNs ∧ o.data = .plain
def OnlyM (ts : List Addr) (H : Hp) : Prop := ∀ b, H b = none ∨ (∃ o xs, H b = some (.frz o (.lst xs))) ∨ (b ∈ ts ∧ H b = some (.tbl #[]))
theorem law_callM {P : Program} {w : World} {K : PySem.W.Frag} {mg mb : Str → Option Value} {CX : CXT} {k : Nat} {fa a : Addr} {fd : FuncData} {x : Str} {sp : Sp} {s₁ : Shared} {vs : List Value} {ns : List Int} {ts : List Addr}
    (KX : K.In s₁.heap) (hns : s₁.heap.Ns mainGlobals mg) (hb : s₁.heap.Ns builtinsNs mb) (hbb : ∀ x : Str, x ≠ "__name__" → mb x = bootBuiltins x) (hlim : s₁.heap.NoLimit) (hg : s₁.gens = #[])
    (ha : s₁.heap.get? a = some { cls := .type "list", data := .seq vs.toArray }) (hi : IntsAre vs ns) (hl : ns.length ≤ sizeLine) (hr : Room k callerA)
    (tb : ∀ p ∈ ts, K.lookup p = none ∧ s₁.heap.get? p = some (PySem.W.tabObj #[]) ∧ isCodeTable s₁.heap p)
    (hbm : BM mg s₁.heap) (F : ∀ base : Heap, K.In base → base.Ns mainGlobals mg → BM mg base → FnOk P w K mg base CX k fa fd [x] sp) (hbind : ∀ (s : Shared) (u : Value), BindsTo s fd ⟨[u], []⟩ [(x, u)])
    (hsp : ∀ H F : Hp, Same F H → (∀ p ∈ ts, F p = none ∧ H p = some (.tbl #[])) → SqL K F a (ns.map V.int) → sp [.ref a] H (fun v H' => v = .bl true) fun _ _ _ => False)
    (hCX : ∀ H e s', CX [] H s₁ (fun _ _ _ => False) e s' → False) :
    codeAny (model P w) callerA (.call (.ref fa) ⟨[.ref a], []⟩) (fun r s' => r = .ok (.ret (.bool true)) ∧ OldK s₁.heap s'.heap ∧ s'.os = s₁.os ∧ AllBare s'.gens) s₁ := by
  have rv := vals_ints hi
  have lenV := hi.length
  have nat : a ∉ ts := fun z => by
    obtain ⟨_, e, _⟩ := tb a z
    rw [ha] at e; cases e
  have core : ∀ H F : Hp, OnlyM ts H → Same F H → (∀ p ∈ ts, F p = none ∧ H p = some (.tbl #[])) → SqL K F a (ns.map V.int) → HOk P w H s₁.heap → (∀ b, H b ≠ none → b = a ∨ b ∈ ts) → (H a ≠ none → K.lookup a = none) →
      codeAny (model P w) callerA (.call (.ref fa) ⟨[.ref a], []⟩) (fun r s' => r = .ok (.ret (.bool true)) ∧ OldK s₁.heap s'.heap ∧ s'.os = s₁.os ∧ AllBare s'.gens) s₁ := by
    intro H Fz hO fh hT hS hok hA hK
    have base_of : ∀ {b : Addr} {o : Obj}, s₁.heap.get? b = some o → H b = none → (hidT s₁.heap H).get? b = some o := fun e n => hidT_get e n
    have noA : ∀ {b : Addr} {o : Obj} {es : Array DictEntry} {ep : Nat}, s₁.heap.get? b = some o → o.data = .dict es ep → H b = none := fun {b o es ep} e d => by
      cases q : H b with
      | none => rfl
      | some u =>
        rcases hA b (by rw [q]; simp) with e' | e'
        · subst e'
          rw [ha] at e; cases e
          have d' : Data.seq vs.toArray _ = Data.dict es ep := d
          cases d'
        · obtain ⟨_, e2, _⟩ := tb b e'
          rw [e] at e2; cases e2
          cases d
    have nsK : ∀ {b : Addr} {m : Str → Option Value}, s₁.heap.Ns b m → (hidT s₁.heap H).Ns b m := fun {b m} ⟨o, es, ep, e, d, r⟩ => ⟨o, es, ep, base_of e (noA e d), d, r⟩
    have hKb : K.In (hidT s₁.heap H) := fun b o e => base_of (KX b o e) (by
      cases q : H b with
      | none => rfl
      | some u =>
        rcases hA b (by rw [q]; simp) with e' | e'
        · subst e'
          rw [hK (by rw [q]; simp)] at e; cases e
        · rw [(tb b e').1] at e; cases e)
    have hM : Mod K mg (hidT s₁.heap H) := ⟨hKb, nsK hns, ⟨mb, nsK hb, hbb⟩, let ⟨mc, h1, h2⟩ := hlim; ⟨mc, nsK h1, h2⟩⟩
    have e0 : Env0 P w K mg (hidT s₁.heap H) callerA [] s₁ H := ⟨rfl, hM, fun b o e => of_hidT e, Nat.le_of_eq (hidT_size _ _), trivial, fun b hb => absurd (show b ∈ ([] : List Addr) from hb) (by simp), hok, .of_eq hg⟩
    have hbb : BM mg (hidT s₁.heap H) := by
      obtain ⟨bm, o, b1, b2, b3, b4, b5, b6⟩ := hbm
      refine ⟨bm, o, b1, b2, base_of b3 ?_, b4, b5, b6⟩
      cases q : H bm with
      | none => rfl
      | some u =>
        rcases hA bm (by rw [q]; simp) with e' | e'
        · subst e'
          rw [ha] at b3; cases b3; cases b6
        · obtain ⟨_, e2, _⟩ := tb bm e'
          rw [b3] at e2; cases e2; cases b6
    refine codeAny_mono ((F _ hKb (nsK hns) hbb).run callerA [] s₁ H ⟨[.ref a], []⟩ [.ref a] [.ref a] _ _ hr e0 (hbind s₁ (.ref a)) (.cons rfl .nil) (hsp H Fz fh hT hS)) fun r s' h => ?_
    cases r with
    | error e => exact (hCX H e s' h).elim
    | ok fl =>
      cases fl with
      | next => exact False.elim h
      | brk => exact False.elim h
      | cont => exact False.elim h
      | ret u =>
        obtain ⟨v, H', os, bare, un, hok', r', q'⟩ := h
        subst q'
        obtain rfl : u = Value.bool true := r'
        have was : ∀ b o, s₁.heap.get? b = some o → asItWas s₁.heap s'.heap b o := fun b o e => by
          cases q : H b with
          | none => exact .inl (un.keep b o e q (by intro z; exact absurd (show b ∈ ([] : List Addr) from z) (by simp)) (by simp))
          | some u =>
            rcases hO b with z | ⟨ob, xs, z⟩ | ⟨hb, z⟩
            · rw [q] at z; cases z
            · have z2 := un.frzs b ob _ z
              obtain ⟨e1, _⟩ := hok b _ z
              obtain ⟨e2, _⟩ := hok' b _ z2
              rw [e] at e1; cases e1
              exact .inl e2
            · obtain ⟨more, z2⟩ := un.tbls b _ z
              have e2 : s'.heap.get? b = some { cls := .none, data := .fields (#[] ++ more) } := hok' b _ z2
              obtain ⟨_, e3, e4⟩ := tb b hb
              rw [e] at e3; cases e3
              exact .inr (.inl ⟨e4, rfl, #[], more, rfl, e2⟩)
        refine ⟨rfl, ⟨was, fun b o e => ?_⟩, os, bare⟩
        obtain ⟨o', e'⟩ := un.there b o e (by simp)
        exact ⟨o', e'⟩
  cases hk : K.lookup a with
  | some o =>
    have e := KX a o hk
    rw [ha] at e
    cases e
    refine core (fun b => if b ∈ ts then some (.tbl #[]) else none) (fun _ => none) (fun b => ?_) (fun _ _ z => nomatch z) (fun p hp => ⟨rfl, if_pos hp⟩) (.inr ⟨_, vs.toArray, _, hk, rfl, rfl, rfl, by rw [List.size_toArray, lenV]; exact hl, by simpa using rv⟩) (fun b u z => ?_) (fun b z => ?_) fun z => absurd (if_neg nat) z
    · by_cases h : b ∈ ts
      · exact .inr (.inr ⟨h, if_pos h⟩)
      · exact .inl (if_neg h)
    · by_cases h : b ∈ ts
      · have z' := (if_pos h).symm.trans z
        cases z'
        exact (tb b h).2.1
      · have z' := (if_neg h).symm.trans z
        cases z'
    · by_cases h : b ∈ ts
      · exact .inr h
      · exact absurd (if_neg h) z
  | none =>
    refine core (fun b => if b ∈ ts then some (.tbl #[]) else if b = a then some (.frz { cls := .type "list", data := .seq vs.toArray } (.lst (ns.map V.int))) else none) (fun b => if b = a then some (.frz { cls := .type "list", data := .seq vs.toArray } (.lst (ns.map V.int))) else none) (fun b => ?_) (fun b o z => ?_) (fun p hp => ⟨if_neg (fun z : p = a => nat (z ▸ hp)), if_pos hp⟩) (.inl (.inr ⟨{ cls := .type "list", data := .seq vs.toArray }, if_pos rfl⟩)) (fun b u z => ?_) (fun b z => ?_) fun _ => hk
    · by_cases h : b ∈ ts
      · exact .inr (.inr ⟨h, if_pos h⟩)
      · by_cases hb : b = a
        · exact .inr (.inl ⟨_, _, (if_neg h).trans (if_pos hb)⟩)
        · exact .inl ((if_neg h).trans (if_neg hb))
    · by_cases hb : b = a
      · have z' := (if_pos hb).symm.trans z
        cases z'
        subst hb
        exact (if_neg nat).trans (if_pos rfl)
      · have z' := (if_neg hb).symm.trans z
        cases z'
    · by_cases h : b ∈ ts
      · have z' := (if_pos h).symm.trans z
        cases z'
        exact (tb b h).2.1
      · have z1 := (if_neg h).symm.trans z
        by_cases hb : b = a
        · have z' := (if_pos hb).symm.trans z1
          cases z'
          subst hb
          exact ⟨ha, by rw [List.length_map]; exact hl, vs, _, rv, ha⟩
        · have z' := (if_neg hb).symm.trans z1
          cases z'
    · by_cases h : b ∈ ts
      · exact .inr h
      · by_cases hb : b = a
        · exact .inl hb
        · exact absurd ((if_neg h).trans (if_neg hb)) z
theorem lookup_none {K : PySem.W.Frag} {p : Addr} (h : p ∉ K.map (·.1)) : K.lookup p = none := by
  rw [show K.lookup p = List.lookup p K from rfl, List.lookup_eq_none_iff]
  intro q hq
  simp only [bne_iff_ne, ne_eq, beq_eq_false_iff_ne]
  intro z
  exact h (List.mem_map.mpr ⟨q, hq, z.symm⟩)
def TabsIn (K : PySem.W.Frag) : Prop := ∀ r ∈ Tabs.rows, ∃ c, PySem.W.codeHdIn K c r.1 = true
theorem walkM {l : PySem.W.OpenLaw} {q : Program} {loose : List Str} {XP : (Str → Option Value) → Heap → Prop} {d : DefRec} {K : Params → PySem.W.Frag} {k : Nat} {p : Str} {as ts : List Addr} {has : ∀ P, as = (K P).map (·.1)} (hn : l.most = some 63) (hdf : d.params.defaults = []) (hk : Room k callerA)
    (hts : (Tabs.rows.all fun r => ts.contains r.1 && !as.contains r.1) = true)
    (F : ∀ (w : World) (mg : Str → Option Value) (fa : Addr) (h : Heap), (K w.params).In h → h.Ns mainGlobals mg → mg d.name = some (.ref fa) → TabsIn (K w.params) ∧
      ∃ fd : FuncData, (∀ (s : Shared) (u : Value), BindsTo s fd ⟨[u], []⟩ [(p, u)]) ∧ ∀ base : Heap, (K w.params).In base → base.Ns mainGlobals mg → BM mg base → FnOk l.prog w (K w.params) mg base CX0 k fa fd [p] (spLaw (K w.params))) :
    PySem.W.WalkO q loose XP (PySem.W.kmHook K as has ts).says l.row.toRowW d [] (fun f vs => PySem.call f vs) := by
  refine Att.attach_call hn hdf fun w s₀ s₁ mg mb fa o pm cd doc a vs ns G Y ho hd hcd hmg hobj hints hlen hg => ?_
  have KX := PySem.W.km_in_of Y
  have hT := PySem.W.km_tabs_of Y
  obtain ⟨tin, fd, hb, hF⟩ := F w mg fa _ KX G.T.g hmg
  refine law_callM (ts := Tabs.rows.map (·.1)) (CX := CX0) (sp := spLaw (K w.params)) KX G.T.g G.T.b G.T.builtins G.T.nolimit hg hobj hints (Nat.le_trans hlen (by decide)) hk (fun p hp => ?_) ?_ hF hb (fun H Fz fh hT hS => ⟨a, ns, Fz, rfl, fh, fun r hr => ?_, hS, hlen, fun _ => rfl⟩) fun H e s' z => z
  · obtain ⟨r, hr, rfl⟩ := List.mem_map.mp hp
    have z := List.all_eq_true.mp hts r hr
    rw [Bool.and_eq_true] at z
    have hp' := hT r.1 (by simpa using z.1)
    obtain ⟨c, hc⟩ := tin r hr
    refine ⟨lookup_none (by rw [← has]; simpa using z.2), hp', ?_⟩
    exact ((PySem.W.codeHd_of_K KX hc).tab hp').isCodeTable
  · obtain ⟨bm, ob, b1, b2, b3, b4, b5, b6⟩ := G.T.bmain
    exact ⟨bm, ob, b1, b2, b3, b4, b5, b6⟩
  · obtain ⟨h1, h2⟩ := hT r.1 (List.mem_map.mpr ⟨r, hr, rfl⟩)
    exact ⟨h1, .inl h2⟩
end FD
set_option Elab.async false
set_option linter.all false
set_option maxRecDepth 100000
namespace FD
open PySem PySem.Spec PyProof.Rows L2 PySem.W
def lxI : List Int → List Int → Bool
  | [], [] => false
  | [], _ :: _ => true
  | _ :: _, [] => false
  | a :: x, b :: y => if a = b then lxI x y else decide (a < b)
theorem lxI_irrefl : ∀ x : List Int, lxI x x = false
  | [] => rfl
  | a :: x => by rw [lxI, if_pos rfl]; exact lxI_irrefl x
theorem lxI_tri : ∀ x y : List Int, lxI x y = false → lxI y x = false → x = y
  | [], [], _, _ => rfl
  | [], _ :: _, h, _ => by simp [lxI] at h
  | _ :: _, [], _, h => by simp [lxI] at h
  | a :: x, b :: y, h1, h2 => by
    rw [lxI] at h1 h2
    by_cases e : a = b
    · subst e
      rw [if_pos rfl] at h1 h2
      rw [lxI_tri x y h1 h2]
    · rw [if_neg e] at h1
      rw [if_neg (Ne.symm e)] at h2
      simp only [decide_eq_false_iff_not] at h1 h2
      omega
theorem lxI_trans : ∀ x y z : List Int, lxI x y = true → lxI y z = true → lxI x z = true
  | [], [], _, h, _ => by simp [lxI] at h
  | _ :: _, [], _, h, _ => by simp [lxI] at h
  | _, _ :: _, [], _, h => by simp [lxI] at h
  | [], _ :: _, _ :: _, _, _ => rfl
  | a :: x, b :: y, c :: z, h1, h2 => by
    rw [lxI] at h1 h2 ⊢
    by_cases e : a = b
    · subst e
      rw [if_pos rfl] at h1
      by_cases e2 : a = c
      · subst e2; rw [if_pos rfl] at h2 ⊢; exact lxI_trans x y z h1 h2
      · rw [if_neg e2] at h2 ⊢; exact h2
    · rw [if_neg e] at h1
      simp only [decide_eq_true_eq] at h1
      by_cases e2 : b = c
      · subst e2; rw [if_neg e]; simpa using h1
      · rw [if_neg e2] at h2
        simp only [decide_eq_true_eq] at h2
        rw [if_neg (by omega)]; simp only [decide_eq_true_eq]; omega
theorem lxI_asymm {x y : List Int} (h : lxI x y = true) : lxI y x = false := by
  cases q : lxI y x with
  | false => rfl
  | true => have := lxI_trans x y x h q; rw [lxI_irrefl] at this; cases this
theorem lxI_not {x y : List Int} (h : lxI x y = false) (n : x ≠ y) : lxI y x = true := by
  cases q : lxI y x with
  | true => rfl
  | false => exact absurd (lxI_tri x y h q) n
def Pw {α : Type} (lt : Nat → Nat → Bool) (n : Nat) : KasT α → (α → Prop) → Prop
  | .ret a, G => G a
  | .ask i j k, G => i < n ∧ j < n ∧ Pw lt n (k (lt i j)) G
section
variable {lt : Nat → Nat → Bool} {n : Nat}
theorem pw_t {α : Type} {t u : KasT α} {G : α → Prop} (h : Pw lt n t G) : Pw lt n (if true = true then t else u) G := by rw [if_pos rfl]; exact h
theorem pw_f {α : Type} {t u : KasT α} {G : α → Prop} (h : Pw lt n u G) : Pw lt n (if false = true then t else u) G := by rw [if_neg (by simp)]; exact h
theorem Pw.bind {α β : Type} {f : α → KasT β} {G : β → Prop} : ∀ (t : KasT α), Pw lt n t (fun a => Pw lt n (f a) G) → Pw lt n (t.bind f) G
  | .ret _, h => h
  | .ask i j k, h => ⟨h.1, h.2.1, Pw.bind (k (lt i j)) h.2.2⟩
theorem Pw.mono {α : Type} {G G' : α → Prop} (hg : ∀ a, G a → G' a) : ∀ (t : KasT α), Pw lt n t G → Pw lt n t G'
  | .ret a, h => hg a h
  | .ask i j k, h => ⟨h.1, h.2.1, Pw.mono hg (k (lt i j)) h.2.2⟩
theorem Pw.wp {α : Type} {cmp : Nat → Nat → (Bool → Shared → Prop) → Shared → Prop} {s : Shared} (hc : ∀ (i j : Nat) (C : Bool → Shared → Prop), i < n → j < n → C (lt i j) s → cmp i j C s) {G : α → Prop} {Q : α → Shared → Prop} (hq : ∀ a, G a → Q a s) :
    ∀ (t : KasT α), Pw lt n t G → t.kasWp cmp Q s
  | .ret a, h => hq a h
  | .ask i j k, h => hc i j _ h.1 h.2.1 (Pw.wp hc hq (k (lt i j)) h.2.2)
end
section
variable {n : Nat} {κ : Nat → List Int} {p : Array Nat}
abbrev ltK (κ : Nat → List Int) (i j : Nat) : Bool := lxI (κ i) (κ j)
abbrev gK (κ : Nat → List Int) (p : Array Nat) (k : Nat) : List Int := κ (p.getD k 0)
abbrev PmK (n : Nat) (p : Array Nat) : Prop := p.toList.Perm (List.range n)
theorem getD_of {p : Array Nat} (k : Nat) : p.getD k 0 = (p[k]?).getD 0 := by simp
theorem pm_size (h : PmK n p) : p.size = n := by have := h.length_eq; simpa using this
theorem pm_lt (h : PmK n p) (hn : 0 < n) (k : Nat) : p.getD k 0 < n := by
  rw [getD_of]
  cases q : p[k]? with
  | none => exact hn
  | some v =>
    have hv : v ∈ p.toList := by
      have q' : p.toList[k]? = some v := by rw [← q]; simp
      exact List.mem_of_getElem? q'
    have := h.mem_iff.mp hv
    simpa using this
theorem pm_inj (h : PmK n p) {i j : Nat} (hi : i < n) (hj : j < n) (hij : i ≠ j) : p.getD i 0 ≠ p.getD j 0 := by
  have nd : p.toList.Nodup := h.symm.nodup List.nodup_range
  have sz := pm_size h
  have key : ∀ a b : Nat, a < b → b < n → p.getD a 0 ≠ p.getD b 0 := fun a b hab hb => by
    have ha' : a < p.toList.length := by simp [sz]; omega
    have hb' : b < p.toList.length := by simp [sz]; omega
    have := List.pairwise_iff_getElem.mp nd a b ha' hb' hab
    rw [getD_of, getD_of]
    have ea : p[a]? = some p.toList[a] := by rw [Array.getElem_toList]; exact Array.getElem?_eq_getElem _
    have eb : p[b]? = some p.toList[b] := by rw [Array.getElem_toList]; exact Array.getElem?_eq_getElem _
    rw [ea, eb]
    exact this
  rcases Nat.lt_or_ge i j with z | z
  · exact key i j z hj
  · exact (key j i (by omega) hi).symm
def Srt (κ : Nat → List Int) (p : Array Nat) (a : Nat) : Prop := ∀ i j, i < j → j < a → lxI (gK κ p i) (gK κ p j) = true
def Dsc (κ : Nat → List Int) (p : Array Nat) (a : Nat) : Prop := ∀ i j, i < j → j < a → lxI (gK κ p j) (gK κ p i) = true
variable (inj : ∀ i j, i < n → j < n → κ i = κ j → i = j)
include inj
theorem g_ne (h : PmK n p) {i j : Nat} (hi : i < n) (hj : j < n) (hij : i ≠ j) : gK κ p i ≠ gK κ p j := fun e =>
  pm_inj h hi hj hij (inj _ _ (pm_lt h (by omega) i) (pm_lt h (by omega) j) e)
theorem srt_succ (h : PmK n p) {a : Nat} (hs : Srt κ p a) (h1 : 1 ≤ a) (ha : a < n) (e : lxI (gK κ p a) (gK κ p (a - 1)) = false) : Srt κ p (a + 1) := fun i j hij hj => by
  rcases Nat.lt_or_ge j a with z | z
  · exact hs i j hij z
  · obtain rfl : j = a := by omega
    have l := lxI_not e (g_ne inj h ha (by omega) (by omega))
    by_cases hi : i = j - 1
    · subst hi; exact l
    · exact lxI_trans _ _ _ (hs i (j - 1) (by omega) (by omega)) l
omit inj in
theorem dsc_succ {a : Nat} (hs : Dsc κ p a) (h1 : 1 ≤ a) (e : lxI (gK κ p a) (gK κ p (a - 1)) = true) : Dsc κ p (a + 1) := fun i j hij hj => by
  rcases Nat.lt_or_ge j a with z | z
  · exact hs i j hij z
  · obtain rfl : j = a := by omega
    by_cases hi : i = j - 1
    · subst hi; exact e
    · exact lxI_trans _ _ _ e (hs i (j - 1) (by omega) (by omega))
theorem asc_pw (hp : PmK n p) : ∀ (f a : Nat), 1 ≤ a → a + f ≤ n → Srt κ p a →
    Pw (ltK κ) n (kas_asc p f a) fun m => a ≤ m ∧ m ≤ a + f ∧ Srt κ p m ∧ (m < a + f → lxI (gK κ p m) (gK κ p (m - 1)) = true)
  | 0, a, h1, h2, hs => ⟨Nat.le_refl _, Nat.le_refl _, hs, fun z => absurd z (Nat.lt_irrefl _)⟩
  | f + 1, a, h1, h2, hs => by
    unfold kas_asc
    refine ⟨pm_lt hp (by omega) _, pm_lt hp (by omega) _, ?_⟩
    cases e : ltK κ (p.getD a 0) (p.getD (a - 1) 0) with
    | true =>
      refine pw_t ?_
      exact ⟨Nat.le_refl _, by omega, hs, fun _ => e⟩
    | false =>
      refine pw_f ?_
      refine Pw.mono (fun m ⟨q1, q2, q3, q4⟩ => ⟨by omega, by omega, q3, fun z => q4 (by omega)⟩) _ (asc_pw hp f (a + 1) (by omega) (by omega) (srt_succ inj hp hs h1 (by omega) e))
theorem desc_pw (hp : PmK n p) : ∀ (f a : Nat), 1 ≤ a → a + f ≤ n → Dsc κ p a →
    Pw (ltK κ) n (kas_desc f p a 0) fun r => r.1 = p ∧ r.2.2 = 0 ∧ a ≤ r.2.1 ∧ r.2.1 ≤ a + f ∧ Dsc κ p r.2.1
  | 0, a, h1, h2, hs => ⟨rfl, rfl, Nat.le_refl _, Nat.le_refl _, hs⟩
  | f + 1, a, h1, h2, hs => by
    unfold kas_desc
    refine ⟨pm_lt hp (by omega) _, pm_lt hp (by omega) _, ?_⟩
    cases e : ltK κ (p.getD a 0) (p.getD (a - 1) 0) with
    | true =>
      refine pw_t ?_
      rw [if_neg (by omega)]
      refine Pw.mono (fun m ⟨q1, q2, q3, q4, q5⟩ => ⟨q1, q2, by omega, by omega, q5⟩) _ (desc_pw hp f (a + 1) (by omega) (by omega) (dsc_succ hs h1 e))
    | false =>
      refine pw_f ?_
      refine ⟨pm_lt hp (by omega) _, pm_lt hp (by omega) _, ?_⟩
      have e2 : ltK κ (p.getD (a - 1) 0) (p.getD a 0) = true := lxI_not e (g_ne inj hp (by omega) (by omega) (by omega))
      rw [e2]
      refine pw_t ?_
      exact ⟨rfl, rfl, Nat.le_refl _, Nat.le_add_right _ _, hs⟩
omit inj in
theorem g_rev (hp : PmK n p) {m : Nat} (hm : m ≤ n) (k : Nat) : gK κ (kas_rev p 0 m) k = if k < m then gK κ p (m - 1 - k) else gK κ p k := by
  unfold gK
  rw [getD_of, show (kas_rev p 0 m)[k]? = _ from getElem?_mirror_all (by rw [pm_size hp]; exact hm) k]
  by_cases z : k < m
  · rw [if_pos ⟨Nat.zero_le _, z⟩, if_pos z, ← getD_of, Nat.zero_add]
  · rw [if_neg (fun y => z y.2), if_neg z, ← getD_of]
omit inj in
theorem pm_rev (hp : PmK n p) (i j : Nat) : PmK n (kas_rev p i j) := (Array.perm_iff_toList_perm.mp (mirror_perm p i j ((j - i) / 2))).trans hp
omit inj in
theorem srt_rev (hp : PmK n p) {m : Nat} (hm : m ≤ n) (hd : Dsc κ p m) : Srt κ (kas_rev p 0 m) m := fun i j hij hj => by
  rw [g_rev hp hm, g_rev hp hm, if_pos (by omega), if_pos hj]
  exact hd _ _ (by omega) (by omega)
theorem tail3_pw (hp : PmK n p) {m : Nat} (h1 : 1 ≤ m) (hm : m ≤ n) (hd : Dsc κ p m) : Pw (ltK κ) n (kas_tail3 m n p) fun r => PmK n r.2 ∧ 1 ≤ r.1 ∧ r.1 ≤ n ∧ Srt κ r.2 r.1 := by
  unfold kas_tail3
  refine Pw.bind _ (Pw.mono (fun m' ⟨q1, q2, q3, q4⟩ => ?_) _ (asc_pw inj (pm_rev hp 0 m) (n - m) m h1 (by omega) (srt_rev hp hm hd)))
  exact ⟨pm_rev hp 0 m, by omega, by omega, q3⟩
theorem count_pw (hp : PmK n p) (hn : 2 ≤ n) : Pw (ltK κ) n (kas_count n p) fun r => PmK n r.2 ∧ 1 ≤ r.1 ∧ r.1 ≤ n ∧ Srt κ r.2 r.1 := by
  unfold kas_count
  refine Pw.bind _ (Pw.mono (fun m ⟨q1, q2, q3, q4⟩ => ?_) _ (asc_pw inj hp (n - 1) 1 (Nat.le_refl _) (by omega) fun i j hij hj => by omega))
  by_cases e : m = n
  · rw [if_pos (by simpa using e)]
    exact ⟨hp, by omega, by omega, q3⟩
  · rw [if_neg (by simpa using e)]
    have l := q4 (by omega)
    by_cases z : m > 1
    · rw [if_pos z]
      refine ⟨pm_lt hp (by omega) _, pm_lt hp (by omega) _, ?_⟩
      have : ltK κ (p.getD 0 0) (p.getD (m - 1) 0) = true := q3 0 (m - 1) (by omega) (by omega)
      rw [this]
      refine pw_t ?_
      exact ⟨hp, by omega, by omega, q3⟩
    · rw [if_neg z]
      obtain rfl : m = 1 := by omega
      unfold kas_descPart
      have d1 : Dsc κ p 1 := fun i j hij hj => by omega
      refine Pw.bind _ (Pw.mono (fun r ⟨r1, r2, r3, r4, r5⟩ => ?_) _ (desc_pw inj hp (n - (1 + 1)) (1 + 1) (by omega) (by omega) (dsc_succ d1 (Nat.le_refl _) l)))
      rw [if_neg (by omega), r1]
      exact tail3_pw inj hp (by omega) (by omega) r5
theorem place_pw (hp : PmK n p) {k : Nat} (hk : k < n) (hs : Srt κ p k) : ∀ (f l r : Nat), l ≤ r → r ≤ k → r - l ≤ f → (∀ i, i < l → lxI (gK κ p i) (gK κ p k) = true) → (∀ i, r ≤ i → i < k → lxI (gK κ p k) (gK κ p i) = true) →
    Pw (ltK κ) n (kas_place p k f l r) fun m => m ≤ k ∧ (∀ i, i < m → lxI (gK κ p i) (gK κ p k) = true) ∧ (∀ i, m ≤ i → i < k → lxI (gK κ p k) (gK κ p i) = true)
  | 0, l, r, h1, h2, h3, h4, h5 => by
    obtain rfl : l = r := by omega
    exact ⟨h2, h4, h5⟩
  | f + 1, l, r, h1, h2, h3, h4, h5 => by
    unfold kas_place
    by_cases z : l ≥ r
    · rw [if_pos z]
      obtain rfl : l = r := by omega
      exact ⟨h2, h4, h5⟩
    · rw [if_neg z]
      refine ⟨pm_lt hp (by omega) _, pm_lt hp (by omega) _, ?_⟩
      cases e : ltK κ (p.getD k 0) (p.getD ((l + r) / 2) 0) with
      | true =>
        refine pw_t ?_
        refine place_pw hp hk hs f l ((l + r) / 2) (by omega) (by omega) (by omega) h4 fun i hi hik => ?_
        by_cases q : i = (l + r) / 2
        · subst q; exact e
        · exact lxI_trans _ _ _ e (hs _ i (by omega) hik)
      | false =>
        refine pw_f ?_
        refine place_pw hp hk hs f ((l + r) / 2 + 1) r (by omega) (by omega) (by omega) (fun i hi => ?_) h5
        have e2 := lxI_not e (g_ne inj hp hk (by omega) (by omega))
        by_cases q : i = (l + r) / 2
        · subst q; exact e2
        · exact lxI_trans _ _ _ (hs i _ (by omega) (by omega)) e2
omit inj in
theorem g_bub (hp : PmK n p) {k l : Nat} (hk : k < n) (hl : l ≤ k) (i : Nat) : gK κ (bubble p k (k - l)) i = if i = l then gK κ p k else if l < i ∧ i ≤ k then gK κ p (i - 1) else gK κ p i := by
  unfold gK
  rw [getD_of, getElem?_bubble (by rw [pm_size hp]; exact hk) (k - l) (by omega) i, show k - (k - l) = l by omega]
  split
  · rw [← getD_of]
  · split
    · rw [← getD_of]
    · rw [← getD_of]
theorem bin_pw : ∀ (f : Nat) (p : Array Nat) (k : Nat), PmK n p → k + f = n → Srt κ p k → Pw (ltK κ) n (kas_bin f p k) fun q => PmK n q ∧ Srt κ q n
  | 0, p, k, hp, e, hs => by
    obtain rfl : k = n := by omega
    exact ⟨hp, hs⟩
  | f + 1, p, k, hp, e, hs => by
    unfold kas_bin
    refine Pw.bind _ (Pw.mono (fun l ⟨q1, q2, q3⟩ => ?_) _ (place_pw inj hp (by omega) hs k 0 k (Nat.zero_le _) (Nat.le_refl _) (by omega) (fun i hi => by omega) (fun i hi hik => by omega)))
    refine bin_pw f _ (k + 1) ((Array.perm_iff_toList_perm.mp (bubble_perm p k (k - l))).trans hp) (by omega) fun i j hij hj => ?_
    rw [g_bub hp (by omega) q1, g_bub hp (by omega) q1]
    by_cases a1 : i = l
    · rw [if_pos a1, if_neg (by omega), if_pos (by omega)]
      exact q3 _ (by omega) (by omega)
    · rw [if_neg a1]
      by_cases a2 : l < i ∧ i ≤ k
      · rw [if_pos a2, if_neg (by omega), if_pos (by omega)]
        exact hs _ _ (by omega) (by omega)
      · rw [if_neg a2]
        by_cases b1 : j = l
        · rw [if_pos b1]; exact q2 _ (by omega)
        · rw [if_neg b1]
          by_cases b2 : l < j ∧ j ≤ k
          · rw [if_pos b2]
            by_cases c : i = j - 1
            · omega
            · exact hs _ _ (by omega) (by omega)
          · rw [if_neg b2]; exact hs _ _ hij (by omega)
theorem sort_pw (hn : 2 ≤ n) : Pw (ltK κ) n (kas_sort n) fun q => PmK n q ∧ Srt κ q n := by
  unfold kas_sort
  refine Pw.bind _ (Pw.mono (fun r ⟨q1, q2, q3, q4⟩ => ?_) _ (count_pw inj (p := List.toArray (List.range n)) (by show (List.toArray (List.range n)).toList.Perm _; simp) hn))
  by_cases z : r.1 < n
  · rw [if_pos z, Nat.max_eq_left q2]
    exact bin_pw inj _ _ _ q1 (by omega) q4
  · rw [if_neg z]
    obtain e : r.1 = n := by omega
    rw [e] at q4
    exact ⟨q1, q4⟩
end
def insK {α : Type} (x : List Int × α) : List (List Int × α) → List (List Int × α)
  | [] => [x]
  | y :: r => if lxI x.1 y.1 = true then x :: y :: r else y :: insK x r
def sortK {α : Type} : List (List Int × α) → List (List Int × α)
  | [] => []
  | x :: r => insK x (sortK r)
theorem insK_perm {α : Type} (x : List Int × α) : ∀ l, (insK x l).Perm (x :: l)
  | [] => List.Perm.refl _
  | y :: r => by
    unfold insK
    split
    · exact List.Perm.refl _
    · exact ((insK_perm x r).cons y).trans (List.Perm.swap x y r)
theorem sortK_perm {α : Type} : ∀ l : List (List Int × α), (sortK l).Perm l
  | [] => List.Perm.refl _
  | x :: r => (insK_perm x _).trans ((sortK_perm r).cons x)
theorem insK_srt {α : Type} (x : List Int × α) : ∀ l : List (List Int × α), l.Pairwise (fun a b => lxI a.1 b.1 = true) → (∀ y ∈ l, y.1 ≠ x.1) → (insK x l).Pairwise fun a b => lxI a.1 b.1 = true
  | [], _, _ => by unfold insK; simp
  | y :: r, h, hd => by
    unfold insK
    obtain ⟨h1, h2⟩ := List.pairwise_cons.mp h
    split
    · rename_i z
      refine List.pairwise_cons.mpr ⟨fun a ha => ?_, h⟩
      rcases List.mem_cons.mp ha with rfl | ha
      · exact z
      · exact lxI_trans _ _ _ z (h1 a ha)
    · rename_i z
      have z' : lxI y.1 x.1 = true := lxI_not (by simpa using z) (hd y List.mem_cons_self).symm
      refine List.pairwise_cons.mpr ⟨fun a ha => ?_, insK_srt x r h2 fun a ha => hd a (List.mem_cons_of_mem _ ha)⟩
      rcases List.mem_cons.mp ((insK_perm x r).mem_iff.mp ha) with rfl | ha
      · exact z'
      · exact h1 a ha
theorem sortK_srt {α : Type} : ∀ l : List (List Int × α), (l.map (·.1)).Nodup → (sortK l).Pairwise fun a b => lxI a.1 b.1 = true
  | [], _ => by unfold sortK; exact List.Pairwise.nil
  | x :: r, h => by
    unfold sortK
    rw [List.map_cons, List.nodup_cons] at h
    refine insK_srt x _ (sortK_srt r h.2) fun y hy e => h.1 ?_
    rw [← e]
    exact List.mem_map.mpr ⟨y, (sortK_perm r).mem_iff.mp hy, rfl⟩
theorem perm_uniq {α : Type} {r : α → α → Prop} (as : ∀ a b, r a b → r b a → False) : ∀ {l m : List α}, l.Perm m → l.Pairwise r → m.Pairwise r → l = m
  | [], m, p, _, _ => (List.Perm.nil_eq p)
  | a :: l, [], p, _, _ => by have := p.length_eq; simp at this
  | a :: l, b :: m, p, h1, h2 => by
    obtain ⟨x1, x2⟩ := List.pairwise_cons.mp h1
    obtain ⟨y1, y2⟩ := List.pairwise_cons.mp h2
    by_cases e : a = b
    · subst e
      rw [perm_uniq as ((List.perm_cons a).mp p) x2 y2]
    · have ha : a ∈ b :: m := p.mem_iff.mp List.mem_cons_self
      have hb : b ∈ a :: l := p.mem_iff.mpr List.mem_cons_self
      rcases List.mem_cons.mp ha with z | z
      · exact absurd z e
      · rcases List.mem_cons.mp hb with w | w
        · exact absurd w.symm e
        · exact (as a b (x1 b w) (y1 a z)).elim
theorem sortK_uniq {α : Type} {l m : List (List Int × α)} (p : l.Perm m) (h : l.Pairwise fun a b => lxI a.1 b.1 = true) (nd : (m.map (·.1)).Nodup) : l = sortK m :=
  perm_uniq (fun a b x y => by rw [lxI_asymm x] at y; cases y) (p.trans (sortK_perm m).symm) h (sortK_srt m nd)
theorem sort_out {α : Type} {ks : List (List Int)} {ds : List α} {q : Array Nat} {d : α} (hl : ks.length = ds.length) (nd : ks.Nodup) (hp : q.toList.Perm (List.range ds.length)) (hs : Srt (fun i => ks.getD i []) q ds.length) :
    q.toList.map (fun i => ds.getD i d) = (sortK (ks.zip ds)).map (·.2) := by
  have hz : (ks.zip ds).map (·.1) = ks := List.map_fst_zip (by omega)
  have e0 : (List.range ds.length).map (fun i => (ks.getD i [], ds.getD i d)) = ks.zip ds := by
    apply List.ext_getElem
    · simp [hl]
    · intro i h1 h2
      have a1 : i < ds.length := by simpa using h1
      have a2 : i < ks.length := by omega
      simp [a1, a2]
  have key : q.toList.map (fun i => (ks.getD i [], ds.getD i d)) = sortK (ks.zip ds) := by
    refine sortK_uniq (by rw [← e0]; exact hp.map _) ?_ (by rw [hz]; exact nd)
    rw [List.pairwise_map, List.pairwise_iff_getElem]
    intro i j hi hj hij
    have sz : q.size = ds.length := pm_size hp
    have := hs i j hij (by simpa [sz] using hj)
    unfold gK at this
    rw [getD_of, getD_of] at this
    have ea : q[i]? = some q.toList[i] := by rw [Array.getElem_toList]; exact Array.getElem?_eq_getElem _
    have eb : q[j]? = some q.toList[j] := by rw [Array.getElem_toList]; exact Array.getElem?_eq_getElem _
    rw [ea, eb] at this
    exact this
  rw [← key, List.map_map]
  rfl
end FD
set_option Elab.async false
set_option linter.all false
set_option maxRecDepth 100000
namespace FD
open PySem PySem.Spec PyProof.Rows L2 PySem.W
def KTs (h : Heap) : List Value → List (List Int) → Prop
  | [], [] => True
  | v :: vs, k :: ks => (∃ a o its n, v = Value.ref a ∧ h.get? a = some o ∧ o.cls = .type "tuple" ∧ o.data = .seq its n ∧ IntsAre its.toList k ∧ k ≠ []) ∧ KTs h vs ks
  | _, _ => False
theorem KTs.len {h : Heap} : ∀ {vs : List Value} {ks : List (List Int)}, KTs h vs ks → vs.length = ks.length
  | [], [], _ => rfl
  | _ :: vs, _ :: ks, r => by rw [List.length_cons, List.length_cons, KTs.len r.2]
  | [], _ :: _, r => r.elim
  | _ :: _, [], r => r.elim
theorem KTs.get {h : Heap} : ∀ {vs : List Value} {ks : List (List Int)} {i : Nat}, KTs h vs ks → i < ks.length → ∃ a o its n, vs.getD i Value.none = Value.ref a ∧ h.get? a = some o ∧ o.cls = .type "tuple" ∧ o.data = .seq its n ∧ IntsAre its.toList (ks.getD i []) ∧ ks.getD i [] ≠ []
  | [], [], _, _, hi => by simp at hi
  | _ :: vs, _ :: ks, 0, r, _ => by simpa using r.1
  | _ :: vs, _ :: ks, i + 1, r, hi => by
    obtain ⟨a, o, its, n, q⟩ := KTs.get (i := i) r.2 (by simpa using hi)
    exact ⟨a, o, its, n, by simpa using q⟩
  | [], _ :: _, _, r, _ => r.elim
  | _ :: _, [], _, r, _ => r.elim
theorem KTs.firsts {h : Heap} : ∀ {vs : List Value} {ks : List (List Int)}, KTs h vs ks → ∃ fs : List Value, KatTups h vs fs ∧ fs.length = vs.length ∧ ∀ v ∈ fs, ∃ n t, v = Value.int n t
  | [], [], _ => ⟨[], KatTups.nil, rfl, fun _ z => nomatch z⟩
  | v :: vs, k :: ks, ⟨⟨a, o, its, n, e1, e2, e3, e4, e5, e6⟩, r⟩ => by
    obtain ⟨fs, q1, q2, q3⟩ := KTs.firsts r
    subst e1
    have : ∃ i t, its[0]? = some (Value.int i t) := by
      obtain ⟨l⟩ := its
      cases e5 with
      | nil => exact absurd rfl e6
      | cons i t _ => exact ⟨i, t, rfl⟩
    obtain ⟨i, t, h0⟩ := this
    refine ⟨_, KatTups.cons e2 e3 e4 h0 q1, by simp [q2], fun v hv => ?_⟩
    rcases List.mem_cons.mp hv with rfl | hv
    · exact ⟨_, _, rfl⟩
    · exact q3 v hv
  | [], _ :: _, r => r.elim
  | _ :: _, [], r => r.elim
section
variable {prog : Program} {w : World} {A : Around} {E : Value → Shared → Prop} {s : Shared}
theorem kind_tups {vs : List Value} {ks : List (List Int)} {Q : SortKind → Shared → Prop} (h : KTs s.heap vs ks) (hn : 0 < vs.length) (q : Q (tuples' true) s) : wpAny (model prog w) A (keyKind' vs.toArray) Q E s := by
  obtain ⟨fs, q1, q2, q3⟩ := h.firsts
  refine kat_kind (T := .type "int") q1 (by omega) (fun v hv => ?_) (by decide) q
  obtain ⟨i, t, rfl⟩ := q3 v hv
  exact Looks.now
theorem lex_ints {Q : Bool → Shared → Prop} {fin : Bool} : ∀ {xs ys : List Int} {us ws : List Value} (i : Nat), IntsAre us xs → IntsAre ws ys → fin = decide (xs.length < ys.length) → Q (lxI xs ys) s → KatLex prog w A true fin Q (us.zip ws) i s
  | _, _, _, _, i, .nil, .nil, e, q => by
    have e : fin = false := by simpa using e
    subst e
    exact kat_nil q
  | _, _, _, _, i, .nil, .cons _ _ _, e, q => by
    have e : fin = true := by simpa using e
    subst e
    exact kat_nil q
  | _, _, _, _, i, .cons _ _ _, .nil, e, q => by
    have e : fin = false := by simpa using e
    subst e
    exact kat_nil q
  | _, _, _, _, i, .cons a t r1, .cons b u r2, e, q => by
    rw [lxI] at q
    refine kat_cons (wpAny_eqBool_int ?_)
    by_cases z : a = b
    · subst z
      rw [if_pos rfl] at q
      rw [beq_self_eq_true]
      exact kat_yes (lex_ints (i + 1) r1 r2 (by rw [e]; simp) q)
    · rw [if_neg z] at q
      rw [show (a == b) = false by simpa using z]
      refine kat_no ?_
      cases hi : (true && i == 0) with
      | true => exact oneLt_int q
      | false => exact kat_one _ _ (PyProof.Rows.lt_int (show PySem.W.BoolBack Q (.bool (decide (a < b))) s from q))
theorem ask_tups {vs : List Value} {ks : List (List Int)} {n : Nat} (h : KTs s.heap vs ks) (hn : ks.length = n) (i j : Nat) (C : Bool → Shared → Prop) (hi : i < n) (hj : j < n) (q : C (ltK (fun i => ks.getD i []) i j) s) : kas_ask prog w A (tuples' true) vs i j C s := by
  obtain ⟨a, o, its, m, e1, e2, e3, e4, e5, e6⟩ := h.get (i := i) (by omega)
  obtain ⟨a', o', its', m', f1, f2, f3, f4, f5, f6⟩ := h.get (i := j) (by omega)
  unfold kas_ask
  rw [e1, f1]
  refine kat_lt e2 e4 f2 f4 (lex_ints 0 e5 f5 ?_ q)
  have l1 := e5.length
  have l2 := f5.length
  rw [Array.length_toList] at l1 l2
  rw [l1, l2]
theorem run_tups {vs us : List Value} {ks : List (List Int)} {Q : SortSt → Shared → Prop} (h : KTs s.heap vs ks) (hl : vs.length = us.length) (h2 : 2 ≤ us.length) (h64 : us.length < 64) (nd : ks.Nodup)
    (q : ∀ (p : Array Nat) (st : SortSt), PmK us.length p → Srt (fun i => ks.getD i []) p us.length → (arrOf st).map (·.2) = List.toArray (p.toList.map fun i => us.getD i Value.none) → failedOf st = none → Q st s) :
    wpAny (model prog w) A ((sortRuns').run (SortSt.mk' (tuples' true) (vs.toArray.zip us.toArray) #[] 7 none)) (fun r s' => Q r.2 s') E s := by
  have hk : ks.length = us.length := by rw [← h.len, hl]
  refine kat_run (G := fun p s' => s' = s ∧ PmK us.length p ∧ Srt (fun i => ks.getD i []) p us.length) hl h2 h64 (fun p st' s' h1 h3 h4 h5 => ?_) ?_
  · obtain ⟨rfl, h5, h6⟩ := h5
    exact q p st' h5 h6 (kat_snds hl h3) h4
  · have inj : ∀ i j, i < us.length → j < us.length → ks.getD i [] = ks.getD j [] → i = j := fun i j hi hj e => by
      have key : ∀ a b : Nat, a < b → b < us.length → ks.getD a [] ≠ ks.getD b [] := fun a b hab hb => by
        have := List.pairwise_iff_getElem.mp nd a b (by omega) (by omega) hab
        have ea : ks.getD a [] = ks[a]'(by omega) := by simp [show a < ks.length by omega]
        have eb : ks.getD b [] = ks[b]'(by omega) := by simp [show b < ks.length by omega]
        rw [ea, eb]; exact this
      rcases Nat.lt_trichotomy i j with z | z | z
      · exact absurd e (key i j z hj)
      · exact z
      · exact absurd e.symm (key j i z hi)
    exact Pw.wp (fun i j C hi hj => ask_tups h hk i j C hi hj) (fun p hp => ⟨rfl, hp⟩) _ (sort_pw (κ := fun i => ks.getD i []) inj h2)
end
def intsD : List D → Option (List Int)
  | [] => some []
  | .int i :: r => (intsD r).map (i :: ·)
  | _ => none
def keyD : D → Option (List Int)
  | .tup ds => intsD ds
  | _ => none
theorem intsD_eq : ∀ {ds : List D} {ns : List Int}, intsD ds = some ns → ds = ns.map D.int
  | [], ns, h => by cases h; rfl
  | .int i :: r, ns, h => by
    simp only [intsD] at h
    cases q : intsD r with
    | none => rw [q] at h; cases h
    | some m => rw [q] at h; cases h; rw [intsD_eq q]; rfl
  | .non :: _, _, h => by cases h
  | .bl _ :: _, _, h => by cases h
  | .str _ :: _, _, h => by cases h
  | .lst _ :: _, _, h => by cases h
  | .tup _ :: _, _, h => by cases h
  | .scr _ :: _, _, h => by cases h
  | .raw _ :: _, _, h => by cases h
  | .exc _ :: _, _, h => by cases h
theorem keyD_eq {d : D} {ns : List Int} (h : keyD d = some ns) : d = .tup (ns.map D.int) := by
  cases d <;> first | cases h | skip
  rename_i ds
  rw [intsD_eq (ds := ds) h]
def keysD : List D → Option (List (List Int))
  | [] => some []
  | d :: r => match keyD d, keysD r with
    | some k, some ks => some (k :: ks)
    | _, _ => none
theorem keysD_eq : ∀ {ds : List D} {ks : List (List Int)}, keysD ds = some ks → ds = ks.map fun k => D.tup (k.map D.int)
  | [], ks, h => by cases h; rfl
  | d :: r, ks, h => by
    simp only [keysD] at h
    cases q : keyD d with
    | none => rw [q] at h; cases h
    | some k =>
      cases q2 : keysD r with
      | none => rw [q, q2] at h; cases h
      | some ks' =>
        rw [q, q2] at h; cases h
        rw [keyD_eq q, keysD_eq q2]; rfl
section
variable [Tabs] {X : Cx} {pins : List (Addr × Obj)} {σ : St} {F H : Hp} {s : Shared}
theorem ints_rel : ∀ {ns : List Int} {vs : List V} {us : List Value}, Reps X.K F (ns.map D.int) vs → Vals vs us → IntsAre us ns
  | [], _, _, r, v => by
    simp only [List.map_nil, Reps] at r; subst r
    cases v; exact .nil
  | n :: ns, _, _, r, v => by
    simp only [List.map_cons, Reps] at r
    obtain ⟨x, xs, rfl, rx, rr⟩ := r
    simp only [Rep] at rx
    subst rx
    cases v with
    | cons e t =>
      rename_i u us
      obtain ⟨t', e⟩ : ∃ t', u = Value.int n t' := e
      subst e
      exact .cons _ _ (ints_rel rr t)
theorem kts_of (I : Inv X pins σ H s) (fh : Same F H) : ∀ {ks : List (List Int)} {vs : List V} {us : List Value}, Reps X.K F (ks.map fun k => D.tup (k.map D.int)) vs → Vals vs us → (∀ k ∈ ks, k ≠ []) → KTs s.heap us ks
  | [], _, _, r, v, _ => by
    simp only [List.map_nil, Reps] at r; subst r
    cases v; exact trivial
  | k :: ks, _, _, r, v, ne => by
    simp only [List.map_cons, Reps] at r
    obtain ⟨x, xs, rfl, rx, rr⟩ := r
    simp only [Rep] at rx
    obtain ⟨a, ws, rfl, q, t⟩ := rx
    obtain ⟨its, rv, ⟨o, eo, hc, n, hd⟩, hz⟩ := I.tuple (Same.seqT fh q)
    cases v with
    | cons e tl =>
      rename_i u us
      have e : u = Value.ref a := e
      subst e
      exact ⟨⟨a, o, its.toArray, n, rfl, eo, hc, hd, by simpa using ints_rel t rv, ne k List.mem_cons_self⟩, kts_of I fh rr tl fun k hk => ne k (List.mem_cons_of_mem _ hk)⟩
theorem Reps.pick {K : PySem.W.Frag} {ds : List D} {vs : List V} (r : Reps K F ds vs) : ∀ (q : List Nat), (∀ i ∈ q, i < ds.length) → Reps K F (q.map fun i => ds.getD i .non) (q.map fun i => vs.getD i .non)
  | [], _ => Reps.nil
  | i :: q, h => by
    have hi := h i List.mem_cons_self
    obtain ⟨v, e1, e2⟩ := r.get (i := i) (List.getElem?_eq_getElem hi)
    have z1 : ds.getD i .non = ds[i] := by simp [hi]
    have z2 : vs.getD i .non = v := by simp [e1]
    rw [List.map_cons, List.map_cons, z1, z2]
    exact Reps.cons e2 (Reps.pick r q fun j hj => h j (List.mem_cons_of_mem _ hj))
theorem vals_pick {vs : List V} {us : List Value} (r : Vals vs us) : ∀ (q : List Nat), (∀ i ∈ q, i < vs.length) → Vals (q.map fun i => vs.getD i .non) (q.map fun i => us.getD i .none)
  | [], _ => .nil
  | i :: q, h => by
    have hi := h i List.mem_cons_self
    obtain ⟨u, e1, e2⟩ := r.get (i := i) (List.getElem?_eq_getElem hi)
    have z1 : vs.getD i .non = vs[i] := by simp [hi]
    have z2 : us.getD i .none = u := by simp [e1]
    rw [List.map_cons, List.map_cons, z1, z2]
    exact .cons e2 (vals_pick r q fun j hj => h j (List.mem_cons_of_mem _ hj))
end
end FD
set_option Elab.async false
set_option linter.all false
set_option maxRecDepth 100000
namespace FD
open PySem PySem.Spec PyProof.Rows L2 PySem.W
variable [Tabs]
section
variable {X : Cx} {pins : List (Addr × Obj)} {σ : St} {F H : Hp} {τ : DS} {s : Shared} {Q : VK} {E : Value → Shared → Prop}
theorem Inv.relist (I : Inv X pins σ H s) {a : Addr} {xs ys : List V} {us ws : List Value} {n : Nat} {g : Array Value → Array Value} (e : H a = some (.lst xs)) (o : s.heap.get? a = some (seqObj "list" us.toArray n)) (hg : g us.toArray = ws.toArray) (r : Vals ys ws) (hz : ys.length ≤ sizeLine) :
    Inv X pins σ (upd H a (.lst ys)) { s with heap := s.heap.update a (Obj.mapSeq g) } := by
  have h1 := get?_update_seq o g
  rw [hg] at h1
  exact I.write (t' := s.toks) (by rw [e]; exact trivial) (.inl rfl) (fun b u hb q => by rw [Heap.get?_update_ne _ _ _ _ hb]; exact q) ⟨_, h1⟩ ⟨hz, ws, _, r, h1⟩
theorem Inv.settle (I : Inv X (pins ++ [p]) σ H s) {D : Addr} {n : Nat} {ys : List V} {ws : List Value} {g : Array Value → Array Value} (hp : p = (D, seqObj "list" #[] n)) (hg : g #[] = ws.toArray) (r : Vals ys ws) (hz : ys.length ≤ sizeLine)
    (h0 : X.s₀.heap.objs.size ≤ D) (hc : ∀ x c, X.env.cells.lookup x = some c → c ≠ D) (hn : ∀ q ∈ X.pn ++ pins, q.1 ≠ D) : Inv X pins σ (upd H D (.lst ys)) { s with heap := s.heap.update D (Obj.mapSeq g) } := by
  subst hp
  obtain ⟨e, nD, neL, nf, _⟩ := I.pin (D, seqObj "list" #[] n) (by simp)
  have J : Inv X pins σ H s := I.pins_of fun q hq => I.pin q (List.mem_append_right _ (List.mem_append_left _ hq))
  have h1 := get?_update_seq e g
  rw [hg] at h1
  have kp : ∀ b u, b ≠ D → s.heap.get? b = some u → (s.heap.update D (Obj.mapSeq g)).get? b = some u := fun b u hb q => by rw [Heap.get?_update_ne _ _ _ _ hb]; exact q
  refine J.step (g' := s.gens) (d' := s.drawn) (t' := s.toks) (ch := [D]) (fun b hb => ?_) (fun b o _ _ hb q _ => kp b o (by simpa using hb) q) (fun b o _ _ hb q _ => ⟨o.slots, kp b o (by simpa using hb) q⟩) (fun b o hb _ q => by rw [upd_ne (by simpa using hb)]; exact q)
    (fun b o hb q => ⟨o, kp b o (by simpa using hb) q⟩) (fun b xs q => by rw [upd_ne (ne_of_none q nD)]; exact q) (fun b o u q => by rw [upd_ne (ne_of_none q nD)]; exact q) (fun b ps q => ⟨#[], by rw [upd_ne (ne_of_none q nD), q]; simp⟩) (fun m hm => ?_) ?_ J.bare
  · have : b = D := by simpa using hb
    subst this
    exact ⟨.inr h0, neL, hc, hn⟩
  · obtain ⟨o, es, ep, ho, r'⟩ := hm
    exact ⟨o, es, ep, kp _ o (Ne.symm neL) ho, r'⟩
  · intro b u q
    by_cases hb : b = D
    · subst hb
      rw [upd_same] at q; cases q
      exact ⟨hz, ws, _, r, h1⟩
    · rw [upd_ne hb] at q
      refine (J.hok b u q).stay (fun c v hc' q' => kp c v ?_ q') (fun c q' => by rw [upd_ne (ne_of_none q' nD)]; exact q') fun c xs q' => by rw [upd_ne (ne_of_none q' nD)]; exact q'
      rcases hc' with z | z
      · rw [z]; exact hb
      · exact ne_of_none z nD
theorem vals_none : Vals ([] : List V) [] := .nil
theorem tail_ok {D kS : Addr} {e1 : Nat} {st : SortSt} {kvs ovs : List V} {out : List Value} {P : PySem.Fin → Shared → Prop} {A : Around} (I : Inv X (pins ++ [(D, seqObj "list" #[] e1)]) σ H s) (hk : H kS = some (.lst kvs)) (hout : (arrOf st).map (·.2) = List.toArray out) (hf : failedOf st = none) (hz : out.length < 64)
    (r : Vals ovs out) (hkz : kvs.length ≤ sizeLine) (h0 : X.s₀.heap.objs.size ≤ D) (hc : ∀ x c, X.env.cells.lookup x = some c → c ≠ D) (hn : ∀ q ∈ X.pn ++ pins, q.1 ≠ D)
    (h : ∀ s', Inv X pins σ (upd (upd H kS (.lst [])) D (.lst ovs)) s' → P (.done (.ret .none)) s') : wpAny (model X.prog X.w) A (ksk_tail D false e1 (.ref kS) st) P E s := by
  obtain ⟨z1, its, n, rk, ek⟩ := I.hok kS _ hk
  have lk : its.length ≤ sizeLine := by rw [← rk.length]; exact hkz
  have I1 := Inv.relist (g := fun _ => #[]) I hk ek (ws := []) rfl vals_none (Nat.zero_le _)
  obtain ⟨eD, nD, _⟩ := I1.pin (D, seqObj "list" #[] e1) (by simp)
  unfold ksk_tail
  try dsimp only
  refine wpAny_bind (listUpdate_at ek rfl ?_ (by rw [List.size_toArray]; exact lk) (Nat.zero_le _))
  refine wpAny_bind (wpAny_letGo ?_)
  refine wpAny_bind (seqEpoch_at eD rfl ?_)
  refine wpAny_bind (listUpdate_at eD rfl ?_ (Nat.zero_le _) ?_)
  · rw [hf]
    simp only [bne_self_eq_false, Bool.false_eq_true, if_false]
    exact wpAny_pure (h _ (Inv.settle I1 rfl (ws := out) hout r (by rw [r.length]; exact Nat.le_of_lt (small1000 (by omega))) h0 hc hn))
  · simp only [Bool.false_eq_true, if_false]
    rw [hout, List.size_toArray]
    exact Nat.le_trans (Nat.le_of_lt (small1000 (by omega))) (Nat.le_succ _)
theorem sort_small : ∀ {kz : List (List Int)} {ds : List D}, kz.length = ds.length → ds.length < 2 → (sortK (kz.zip ds)).map (·.2) = ds
  | [], [], _, _ => rfl
  | [a], [b], _, _ => rfl
  | [], _ :: _, h, _ => by simp at h
  | [_], [], h, _ => by simp at h
  | [_], _ :: _ :: _, h, _ => by simp at h
  | _ :: _ :: _, ds, h, h2 => by simp at h; omega
theorem end_ok {Da kS : Addr} {e1 : Nat} {kvs vs : List V} {us : List Value} {ds : List D} {kz : List (List Int)} {P : PySem.Fin → Shared → Prop} {A : Around} (I : Inv X (pins ++ [(Da, seqObj "list" #[] e1)]) σ H s) (hk : H kS = some (.lst kvs)) {ks : List Value} {n : Nat} (ek : s.heap.get? kS = some (seqObj "list" ks.toArray n)) (rk : Vals kvs ks)
    (fh : Same F H) (kr : Reps X.K F (kz.map fun k => FD.D.tup (k.map FD.D.int)) kvs) (ne : ∀ k ∈ kz, k ≠ []) (nd : kz.Nodup) (hl : kz.length = ds.length) (rs : Reps X.K F ds vs) (rv : Vals vs us) (hz : us.length < 64)
    (h0 : X.s₀.heap.objs.size ≤ Da) (hc : ∀ x c, X.env.cells.lookup x = some c → c ≠ Da) (hn : ∀ q ∈ X.pn ++ pins, q.1 ≠ Da)
    (h : ∀ s' ovs, Inv X pins σ (upd (upd H kS (.lst [])) Da (.lst ovs)) s' → Reps X.K F ((sortK (kz.zip ds)).map (·.2)) ovs → P (.done (.ret .none)) s') : wpAny (model X.prog X.w) A (ksk_end Da false us.toArray e1 (.ref kS) ks.toArray) P E s := by
  have l1 : ds.length = us.length := by rw [rs.length, rv.length]
  have l2 : ks.length = us.length := by rw [← rk.length, ← kr.length, List.length_map, hl, l1]
  have hkz : kvs.length ≤ sizeLine := by rw [rk.length, l2]; exact Nat.le_of_lt (small1000 (by omega))
  unfold ksk_end
  try dsimp only
  simp only [Bool.false_eq_true, if_false]
  by_cases h2 : us.length < 2
  · have h2' : us.toArray.size < 2 := by rw [List.size_toArray]; exact h2
    rw [if_pos h2', if_pos h2']
    refine wpAny_bind (wpAny_pure ?_)
    rw [StateT.run_pure]
    refine wpAny_bind (wpAny_pure ?_)
    try dsimp only
    refine tail_ok (out := us) (ovs := vs) I hk ?_ rfl hz rv hkz h0 hc hn fun s' J => h s' vs J ?_
    · show ((ks.toArray.zip us.toArray).map (·.2)) = us.toArray
      apply Array.toList_inj.mp
      rw [Array.toList_map, ksk_zip]
      exact List.map_snd_zip (by simp [l2])
    · rw [sort_small hl (by omega)]; exact rs
  · have h2' : ¬ us.toArray.size < 2 := by rw [List.size_toArray]; exact h2
    rw [if_neg h2', if_neg h2']
    have kt := kts_of I fh kr rk ne
    refine wpAny_bind (kind_tups kt (by omega) ?_)
    refine wpAny_bind (run_tups (Q := fun st s' => wpAny (model X.prog X.w) A (ksk_tail Da false e1 (.ref kS) st) P E s') kt l2 (by omega) hz nd fun p st h3 h4 h5 h6 => ?_)
    have hp : ∀ i ∈ p.toList, i < us.length := fun i hi => by simpa using h3.mem_iff.mp hi
    refine tail_ok (ovs := p.toList.map fun i => vs.getD i .non) I hk h5 h6 ?_ (vals_pick rv _ fun i hi => by rw [rv.length]; exact hp i hi) hkz h0 hc hn fun s' J => h s' _ J ?_
    · rw [List.length_map, h3.length_eq, List.length_range]; exact hz
    · rw [← sort_out (q := p) (d := .non) hl nd (by rw [l1]; exact h3) (by rw [l1]; exact h4)]
      exact Reps.pick rs _ fun i hi => by rw [l1]; exact hp i hi
end
end FD
set_option Elab.async false
set_option linter.all false
set_option maxRecDepth 100000
namespace FD
open PySem PySem.Spec PyProof.Rows L2 PySem.W
variable [Tabs]
section
variable {X : Cx} {pins : List (Addr × Obj)} {σ : St} {F H : Hp} {τ : DS} {s : Shared} {Q : VK} {E : Value → Shared → Prop}
theorem sortedK_ok {l f : Addr} {ds : List D} {vs : List V} {kz : List (List Int)} (I : Inv X pins σ H s) (fh : Same F H) (hl : F l = some (.lst vs)) (rs : Reps X.K F ds vs) (h64 : ds.length < 64) (hk : kz.length = ds.length) (nd : kz.Nodup) (ne : ∀ k ∈ kz, k ≠ [])
    (key : ∀ (i : Nat) (d : D) (k : List Int), ds[i]? = some d → kz[i]? = some k → ∀ (pins' : List (Addr × Obj)) (s' : Shared) (F' H' : Hp) (v : V) (u : Value) (Q' : VK), Inv X pins' σ H' s' → (∀ p ∈ pins, p ∈ pins') → Ext F H F' H' → Rep X.K F' d v → RelV v u →
      (∀ kv F'' H'', Ext F' H' F'' H'' → Rep X.K F'' (.tup (k.map D.int)) kv → Q' kv H'') → wpAny (model X.prog X.w) X.A.in1.in1 (call (.ref f) [u]) (EP X pins' σ Q') (fun _ _ => False) s')
    (hQ : ∀ Da F' H', Ext F H F' H' → Rep X.K F' (.lst ((sortK (kz.zip ds)).map (·.2))) (.ref Da) → Q (.ref Da) H') :
    wpAny (model X.prog X.w) X.A (call (.builtin "sorted") [.ref l] [(Str.ofString "key", .ref f)]) (EP X pins σ Q) E s := by
  obtain ⟨us, rv, ⟨o, nn, eo, hc, hd0, hd⟩, hz⟩ := I.list (SqL.of (K := X.K) (fh _ _ hl))
  have hil : s.heap.IsList l us.toArray := ⟨o, eo, hc, nn, hd⟩
  have l1 : ds.length = us.length := by rw [rs.length, rv.length]
  have sz : us.length ≤ sizeLine := Nat.le_of_lt (small1000 (by omega))
  refine call_function_entry_kw kind_sorted plain_sorted entry_sorted (ksk_s1 _ _) ?_
  unfold Builtin.«sorted»
  refine wpAny_bind (m := checkCount "sorted" 1 1 _) (wpAny_pure ?_)
  refine wpAny_bind (collect_list hil ?_ sz)
  refine wpAny_bind (wpAny_newList ?_ sz)
  have keep1 : ∀ b u, s.heap.get? b = some u → ((s.heap.push (seqObj "list" #[] 0)).update s.heap.objs.size (Obj.mapSeq (· ++ us.toArray))).get? b = some u := fun b u q => by
    have hb : b < s.heap.objs.size := Heap.lt_size q
    rw [Heap.get?_update_ne _ _ _ _ (Nat.ne_of_lt hb), Heap.get?_push_ne _ _ _ (Nat.ne_of_lt hb)]
    exact q
  have size1 : s.heap.objs.size ≤ ((s.heap.push (seqObj "list" #[] 0)).update s.heap.objs.size (Obj.mapSeq (· ++ us.toArray))).objs.size := by rw [Heap.size_update, size_push']; omega
  generalize hh1 : (s.heap.push (seqObj "list" #[] 0)).update s.heap.objs.size (Obj.mapSeq (· ++ us.toArray)) = h1 at keep1 size1
  have hD : (h1.push (seqObj "list" us.toArray 0)).get? h1.objs.size = some (seqObj "list" us.toArray 0) := Heap.get?_push_size _ rfl
  have keep2 : ∀ b u, s.heap.get? b = some u → (h1.push (seqObj "list" us.toArray 0)).get? b = some u := fun b u q => Heap.get?_push_of_some _ (keep1 b u q)
  generalize hDa : h1.objs.size = Da at hD size1
  have neD : ∀ b u, s.heap.get? b = some u → b ≠ Da := fun b u q => Nat.ne_of_lt (Nat.lt_of_lt_of_le (Heap.lt_size q) size1)
  generalize hh2 : h1.push (seqObj "list" us.toArray 0) = h2 at hD keep2
  have ltD : Da < h2.objs.size := Heap.lt_size hD
  refine wpAny_bind (wpAny_holding (wpAny_call_entry_kw (rest := []) slot_list_sort ⟨_, hD, rfl⟩ entry_list_sort ?_ (ksk_l1 _ _)))
  show wpAny (model X.prog X.w) X.A.in1.in1 (Builtin.«list.sort» ⟨[.ref Da], [(Str.ofString "key", .ref f)]⟩) _ _ _
  rw [ksk_t1 f Da]
  unfold ksk_tree
  refine wpAny_bind (listItems_at hD rfl ?_)
  refine wpAny_bind (listUpdate_at hD rfl ?_ (by rw [List.size_toArray]; exact sz) (Nat.zero_le _))
  have keep3 : ∀ b u, s.heap.get? b = some u → (h2.update Da (Obj.mapSeq fun _ => (#[] : Array Value))).get? b = some u := fun b u q => by
    rw [Heap.get?_update_ne _ _ _ _ (neD b u q)]; exact keep2 b u q
  obtain ⟨e1, hD3⟩ : ∃ e1, (h2.update Da (Obj.mapSeq fun _ => (#[] : Array Value))).get? Da = some (seqObj "list" #[] e1) := ⟨_, get?_update_seq hD fun _ => #[]⟩
  generalize h2.update Da (Obj.mapSeq fun _ => (#[] : Array Value)) = h3 at keep3 hD3
  refine wpAny_bind (seqEpoch_at hD3 rfl ?_)
  refine wpAny_bind (wpAny_newTuple ?_ (by show us.length ≤ sizeLine; exact sz))
  refine wpAny_bind (wpAny_newList ?_ (Nat.zero_le _))
  refine wpAny_holding ?_
  have hDa0 : s.heap.objs.size ≤ Da := size1
  have nH : H Da = none := I.hok.fresh hDa0
  have neL : Da ≠ X.env.locals := (Nat.ne_of_lt (Nat.lt_of_lt_of_le I.lt hDa0)).symm
  have pinD : ∀ q ∈ X.pn ++ pins, q.1 ≠ Da := fun q hq => neD _ _ (I.pin q hq).1
  have cellD : ∀ x c, X.env.cells.lookup x = some c → c ≠ Da := fun x c e => by
    obtain ⟨v, oc, hoc, _⟩ := I.cell x c e
    exact neD _ _ hoc
  have I1 : Inv X pins σ H { s with heap := h3.push (seqObj "tuple" us.toArray 0) } := I.kept (t' := s.toks) fun b u q => Heap.get?_push_of_some _ (keep3 b u q)
  have I2 : Inv X (pins ++ [(Da, seqObj "list" #[] e1)]) σ H { s with heap := h3.push (seqObj "tuple" us.toArray 0) } := I1.pins_of fun q hq => by
    rcases List.mem_append.mp hq with hq | hq
    · exact I1.pin q (List.mem_append_right _ hq)
    · have : q = (Da, seqObj "list" #[] e1) := by simpa using hq
      subst this
      exact ⟨Heap.get?_push_of_some _ hD3, nH, neL, I.nofs hDa0, fun v z => nomatch z⟩
  have szk : s.heap.objs.size ≤ (h3.push (seqObj "tuple" us.toArray 0)).objs.size := Nat.le_of_lt (Nat.lt_of_le_of_lt hDa0 (Heap.lt_size (Heap.get?_push_of_some _ hD3)))
  have hkS : H (h3.push (seqObj "tuple" us.toArray 0)).objs.size = none := I.hok.fresh szk
  have I3 := I2.laid (t' := s.toks) (a := (h3.push (seqObj "tuple" us.toArray 0)).objs.size) (o := .lst []) (h' := (h3.push (seqObj "tuple" us.toArray 0)).push (seqObj "list" #[] 0)) (fun b u q => Heap.get?_push_of_some _ q) (Nat.le_refl _) ⟨Nat.zero_le _, [], 0, .nil, Heap.get?_push_size _ rfl⟩
  generalize hkk : (h3.push (seqObj "tuple" us.toArray 0)).objs.size = kS at hkS I3
  have h0D : X.s₀.heap.objs.size ≤ Da := Nat.le_trans I.sz hDa0
  unfold ksk_rest
  refine wpAny_bind (wpAny_rule ?_)
  first
    | rw [List.forIn_toArray]
    | (rw [← Array.forIn_toList]; simp only [List.toList_toArray])
  refine wpAny_bind (ksk_fold (fun i s' => ∃ F2 Hm kvs, Ext F H F2 Hm ∧ Hm kS = none ∧ Inv X (pins ++ [(Da, seqObj "list" #[] e1)]) σ (upd Hm kS (.lst kvs)) s' ∧ Reps X.K F2 ((kz.take i).map fun k => D.tup (k.map D.int)) kvs) us 0 _
    ⟨F, H, [], Ext.refl fh, hkS, I3, by simpa using Reps.nil⟩ ?step ?done)
  case step =>
    rintro j x s' hx ⟨F2, Hm, kvs, x2, hm, I4, rk⟩
    simp only [Nat.zero_add] at rk ⊢
    have hj : j < us.length := (List.getElem?_eq_some_iff.mp hx).1
    obtain ⟨d, hd⟩ : ∃ d, ds[j]? = some d := ⟨_, List.getElem?_eq_getElem (by omega)⟩
    obtain ⟨k, hkj⟩ : ∃ k, kz[j]? = some k := ⟨_, List.getElem?_eq_getElem (by omega)⟩
    obtain ⟨v, hv, rd⟩ := rs.get hd
    obtain ⟨u, hu, ru⟩ := rv.get hv
    rw [hx] at hu; cases hu
    have xo : Ext F2 Hm F2 (upd Hm kS (.lst kvs)) := Ext.open x2.fh hm
    refine wpAny_bind (wpAny_attempt (wpAny_mono (key j d k hd hkj _ s' F2 _ v x (fun kv H'' => ∃ F'', Ext F2 (upd Hm kS (.lst kvs)) F'' H'' ∧ Rep X.K F'' (.tup (k.map D.int)) kv) I4 (fun p hp => List.mem_append_left _ hp) (x2.trans xo) (rd.mono x2.ff) ru (fun kv F'' H'' y r => ⟨F'', y, r⟩)) (fun kval s'' hk'' => ?_) fun _ _ z => z.elim))
    obtain ⟨kv, H'', I5, rkv, F'', x5, rp⟩ := hk''
    have hkS5 : H'' kS = some (.lst kvs) := x5.hh _ _ upd_same
    obtain ⟨z1, its, n, rki, ek⟩ := I5.hok kS _ hkS5
    have lk : kvs.length = j := by
      rw [← rk.length, List.length_map, List.length_take]; omega
    have li : its.length = j := by rw [← rki.length]; exact lk
    have I6 := Inv.relist (g := (·.push kval)) I5 hkS5 ek (ws := its ++ [kval]) (by simp) (rki.append (.cons rkv .nil)) (by rw [List.length_append, lk]; exact Nat.le_of_lt (small1000 (by simp; omega)))
    obtain ⟨y1, y2⟩ := ext_hide x2 hm x5
    try dsimp only
    refine wpAny_bind (listUpdate_at ek rfl ?_ (by rw [List.size_toArray, li]; exact Nat.le_of_lt (small1000 (by omega))) ?_)
    · refine wpAny_pure ⟨rfl, F'', hideAt H'' kS, kvs ++ [kv], y1, hideAt_same _ _, by rw [upd_hide]; exact I6, ?_⟩
      have tk : kz.take (j + 1) = kz.take j ++ [k] := by
        rw [List.take_add_one, hkj]; rfl
      rw [tk, List.map_append]
      exact (rk.mono x5.ff).append (Reps.cons rp Reps.nil)
    · rw [Array.size_push, List.size_toArray, li]; exact Nat.le_trans (Nat.le_of_lt (small1000 (by omega))) (Nat.le_succ _)
  case done =>
    rintro s' ⟨F2, Hm, kvs, x2, hm, I4, rk⟩
    simp only [Nat.zero_add] at rk
    rw [List.take_of_length_le (by omega)] at rk
    obtain ⟨z1, ks, n, rki, ek⟩ := I4.hok kS _ upd_same
    refine wpAny_bind (listItems_at ek rfl ?_)
    have xo : Ext F2 Hm F2 (upd Hm kS (.lst kvs)) := Ext.open x2.fh hm
    refine end_ok I4 upd_same ek rki xo.fh rk ne nd hk (rs.mono x2.ff) rv (by omega) h0D cellD pinD fun s5 ovs J ro => ?_
    refine ⟨_, rfl, wpAny_pure ⟨_, rfl, .ref Da, _, J, rfl, hQ Da (upd F2 Da (.lst ovs)) _ ?_ ?_⟩⟩
    · have hmD : Hm Da = none := by
        obtain ⟨_, nD, _⟩ := I4.pin (Da, seqObj "list" #[] e1) (by simp)
        by_cases z : Da = kS
        · rw [z]; exact hm
        · rw [upd_ne z] at nD; exact nD
      have eq1 : upd (upd (upd Hm kS (.lst kvs)) kS (.lst [])) Da (.lst ovs) = upd (upd Hm kS (.lst [])) Da (.lst ovs) := by
        congr 1; funext b; unfold upd; split <;> rfl
      rw [eq1]
      have kD : (upd Hm kS (.lst [])) Da = none := by
        obtain ⟨_, nD, _⟩ := I4.pin (Da, seqObj "list" #[] e1) (by simp)
        by_cases z : Da = kS
        · rw [z, upd_same] at nD; cases nD
        · rw [upd_ne z]; exact hmD
      exact (x2.trans (Ext.open (o := .lst []) x2.fh hm)).trans (Ext.new ((x2.trans (Ext.open (o := .lst []) x2.fh hm)).fh) kD)
    · have hF : F2 Da = none := by
        obtain ⟨_, nD, _⟩ := I4.pin (Da, seqObj "list" #[] e1) (by simp)
        exact none_of_same xo.fh nD
      simp only [Rep]
      exact ⟨Da, ovs, rfl, upd_same, ro.mono (same_upd hF)⟩
end
end FD
set_option Elab.async false
set_option linter.all false
set_option maxRecDepth 100000
namespace FD
open PySem PySem.Spec PyProof.Rows L2 PySem.W
variable [Tabs]
def _root_.L2.Cx.lam (X : Cx) (scope : Scope) (N : List Str) (s : Shared) (H : Hp) (qual : Str) (f : Addr) (cd : Value) : Cx :=
  { prog := X.prog, w := X.w, K := X.K, mg := X.mg, base := X.base, A := X.A.in1.in1.deeper (envX qual scope s.heap.objs.size f cd (closOf scope X.env)), N := N, s₀ := s, H₀ := H, env := envX qual scope s.heap.objs.size f cd (closOf scope X.env), outer := X.stack,
    stack := envX qual scope s.heap.objs.size f cd (closOf scope X.env) :: X.stack, ex := [], fn := fun _ => false, calm := true, pn := [], xe := fun _ _ => False }
section
variable {X : Cx} {scope : Scope} {N' : List Str} {pins : List (Addr × Obj)} {σ σ' : St} {F H : Hp} {τ : DS} {s : Shared}
theorem lam_inv {h1 : Heap} {t : Nat} {qual p : Str} {f : Addr} {cd u : Value} {v : V} (S : CompScope X scope) (hd : X.A.handled = none) (I : Inv X pins σ H s) (hp : scope.names.lookup p = some .local) (hN : N'[0]? = some p) (rv : RelV v u)
    (hn : h1.Ns s.heap.objs.size fun x => ([(p, u)] : List (Str × Value)).reverse.lookup x) (hsb : ∀ b o, s.heap.get? b = some o → h1.get? b = some o) (hl : σ'.length = N'.length) (h0 : σ'[0]? = some (some v))
    (hσ : ∀ (i : Nat) (v : V), i ≠ 0 → σ'[i]? = some (some v) → ∃ (x : Str) (j : Nat), N'[i]? = some x ∧ X.N[j]? = some x ∧ σ[j]? = some (some v) ∧ scope.names.lookup x = some .free) :
    Inv (X.lam scope N' s H qual f cd) [] σ' H { s with heap := h1, toks := t } := by
  have hH : H s.heap.objs.size = none := I.hok.fresh (Nat.le_refl _)
  have cl : ∀ {x c}, (closOf scope X.env).lookup x = some c → X.env.cells.lookup x = some c := fun h => comp_cell S I.ok h
  have kept : ∀ {c v}, s.heap.IsCell c v → h1.IsCell c v := fun ⟨o, e, d⟩ => ⟨o, hsb _ o e, d⟩
  have noA : ∀ b : Addr, b ∉ (X.lam scope N' s H qual f cd).ex := fun b z => absurd (show b ∈ ([] : List Addr) from z) (by simp)
  refine ⟨⟨I.ok.mod, S.kind, rfl, rfl, Nat.le_refl _, fun x y c e1 e2 => I.ok.inj x y c (cl e1) (cl e2), fun x hx => ?_, fun x c hf _ => absurd hf (by simp [Cx.lam]), fun _ => hd, Around.frames_deeper (show X.A.in1.in1.frames = some X.stack from I.ok.frames), .inr ⟨rfl, rfl⟩, fun b z => absurd z (noA b), I.bs, Nat.le_trans I.ok.bsz I.sz, fun b _ _ => noA b, fun b z => absurd z (noA b), I.stack, I.stkFree⟩,
    I.os.symm ▸ rfl, I.bare, Un.kept hsb, ⟨_, hn, fun i x v' e1 e2 e3 => ?_⟩, fun x c e => ?_, hH, fun x c e => I.freeC x c (cl e), fun p hp => absurd (show p ∈ ([] : List (Addr × Obj)) from hp) (by simp), I.hok.kept hsb, hl⟩
  · have hx : scope.names.lookup x = some .cell ∨ scope.names.lookup x = some .free := hx
    rcases hx with z | z
    · exact absurd rfl (S.nocell _ (PySem.mem_of_lookup z))
    · exact clos_has (.inl ⟨_, PySem.mem_of_lookup z, rfl, rfl⟩)
  · have e1 : N'[i]? = some x := e1
    by_cases hi : i = 0
    · subst hi
      rw [hN] at e1; cases e1
      rw [h0] at e2; cases e2
      exact ⟨u, rv, .inl ⟨hp, by simp [List.lookup]⟩⟩
    · obtain ⟨x', j, e4, e5, e6, e9⟩ := hσ i v' hi e2
      have hy := PySem.mem_of_lookup e9
      rw [e1] at e4; cases e4
      have kd := S.free _ hy rfl
      obtain ⟨m, hm, hl⟩ := I.loc
      obtain ⟨u', ru, lk⟩ := hl j x v' e5 e6 (kd.elim (fun z => .inr (.inl z)) fun z => .inr (.inr z))
      refine ⟨u', ru, ?_⟩
      rcases lk with ⟨z, _⟩ | ⟨z, c, hc, hcell⟩
      · rcases kd with k | k <;> rw [k] at z <;> cases z
      · obtain ⟨c', hc'⟩ := clos_has (env := X.env) (names := scope.names) (cs := []) (x := x) (.inl ⟨_, hy, rfl, rfl⟩)
        have := cl hc'
        rw [hc] at this; cases this
        exact .inr ⟨.inr e9, c, hc', kept hcell⟩
  · obtain ⟨v, z⟩ := I.cell x c (cl e)
    exact ⟨v, kept z⟩
def lamD (idx : List Nat) (fb : FE) (τ : DS) (d : D) : Rs D := fb ((tau0 1 idx τ).set 0 (some (.val d)))
theorem lam_call {f c' : Addr} {qual p : Str} {params : Arguments} {body : Expr} {pm ctv u : Value} {v : V} {d dk : D} {fr : List Str} {idx : List Nat} {fb : FE} {Q : VK} (S : CompScope X scope) (hr : Room 3 X.A) (hfr : FreeOk scope X.N fr idx) (hp : scope.names.lookup p = some .local)
    (hco : scope.isCoroutine = false) (hgen : scope.isGenerator = false) (hbind : ∀ (pm cd ct : Value) (cl : List (Str × Addr)) (u : Value), bindArgs (kla_fn "<lambda>" qual params body scope cl pm cd ct) ⟨[u], []⟩ = pure [(p, u)])
    (hb : ∀ s H f cd, PDE (X.lam scope (p :: fr) s H qual f cd) body fb)
    (I : Inv X pins σ H s) (R : RV X.K F τ σ H) (ho : s.heap.get? f = some (kla_obj "<lambda>" qual params body scope (closOf scope X.env) pm c' ctv)) (hc : H c' = some (.ext (codeIs c' qual))) (rd : Rep X.K F d v) (ru : RelV v u) (hk : lamD idx fb τ d = .ok dk)
    (hQ : ∀ kv F1 H1, Ext F H F1 H1 → Rep X.K F1 dk kv → Q kv H1) : wpAny (model X.prog X.w) X.A.in1.in1 (call (.ref f) [u]) (EP X pins σ Q) (fun _ _ => False) s := by
  have hcd : s.heap.CodeRec (.ref c') qual := (I.hok c' _ hc).1
  refine wpAny_call (kla_callFunE (args := ⟨[u], []⟩) (hr.in1.in1).depth ho rfl hco hgen rfl hcd ?_)
  rw [hbind]
  refine wpAny_pure (wpAny_newFunctionEnv S.nocell (fun y hy => ?_) (fun h1 hns hsb => ⟨(I.mod.nolimit.keeps I.bk).fresh _ hsb, ?_⟩) S.kind)
  · have : y = (p, u) := by simpa using hy
    subst this; exact hp
  have keep3 : ∀ b o, s.heap.get? b = some o → h1.get? b = some o := fun b o e => hsb.extBut b o (Nat.ne_of_lt (Heap.lt_size e)) (Heap.get?_push_of_some _ e)
  show codeAny _ _ (.expr body (envX qual scope s.heap.objs.size f (.ref c') (closOf scope X.env))) _ _
  have hlen : (sig0 1 idx σ).length = (p :: fr).length := by simp [sig0, hfr.len]
  have hl0 : 0 < (sig0 1 idx σ).length := by rw [hlen]; simp
  have J : Inv (X.lam scope (p :: fr) s H qual f (.ref c')) [] ((sig0 1 idx σ).set 0 (some v)) H { s with heap := h1, toks := s.toks + ([(p, u)] : List (Str × Value)).length } :=
    lam_inv S hr.hd I hp rfl ru hns keep3 (by rw [List.length_set]; exact hlen) (by rw [List.getElem?_set_self hl0]) fun i v' hi e => by
      rw [List.getElem?_set_ne (Ne.symm hi)] at e
      exact sig0_ok (tn := [p]) hfr σ i v' e
  refine kla_codeExpr (wpAny_mono (hb s H f (.ref c') [] _ _ H (fun kv H1 => ∃ F1, Ext F H F1 H1 ∧ Rep X.K F1 dk kv) J ⟨F, (tau0 1 idx τ).set 0 (some (.val d)), (rv_comp 1 idx R).set rd, ?_⟩) (fun w s5 h5 => ?_) fun _ _ z => z.elim)
  · have hk : fb ((tau0 1 idx τ).set 0 (some (.val d))) = .ok dk := hk
    rw [hk]
    exact fun kv F1 H1 x r => ⟨F1, x, r⟩
  · obtain ⟨kv, H5, I5, r5, F5, x5, rk⟩ := h5
    exact ⟨kv, H5, I.call' (ch := []) I5.os I5.base I5.hok I5.bare (fun b z => absurd z (by simp)), r5, hQ kv F5 H5 x5 rk⟩
end
end FD
set_option Elab.async false
set_option linter.all false
set_option maxRecDepth 100000
namespace FD
open PySem PySem.Spec PyProof.Rows L2 PySem.W
variable [Tabs]
def TabsU : Prop := ∀ r ∈ Tabs.rows, ∀ r' ∈ Tabs.rows, r.1 = r'.1 → r = r'
theorem map_inj_nd {α β : Type} {f : α → β} : ∀ {l : List α}, (l.map f).Nodup → ∀ r ∈ l, ∀ r' ∈ l, f r = f r' → r = r'
  | [], _, _, h, _, _, _ => by cases h
  | a :: l, nd, r, h, r', h', e => by
    rw [List.map_cons, List.nodup_cons] at nd
    rcases List.mem_cons.mp h with z | z
    · rcases List.mem_cons.mp h' with z' | z'
      · rw [z, z']
      · rw [z] at e
        exact absurd (List.mem_map.mpr ⟨r', z', e.symm⟩) nd.1
    · rcases List.mem_cons.mp h' with z' | z'
      · rw [z'] at e
        exact absurd (List.mem_map.mpr ⟨r, z, e⟩) nd.1
      · exact map_inj_nd nd.2 r z r' z' e
theorem TabsU.of (h : (Tabs.rows.map (·.1)).Nodup) : TabsU := map_inj_nd h
section
variable {X : Cx} {scope : Scope} {pins : List (Addr × Obj)} {σ : St} {F H : Hp} {τ : DS} {s : Shared}
theorem lam_make {params : Arguments} {body : Expr} {lpos : Pos} {P c : Addr} {E : Value → Shared → Prop} {Q : Value → Shared → Prop} (tu : TabsU) (S : CompScope X scope) (bm : BM X.mg X.base) (hcode : X.env.code = .ref c) (hcd : codeHdIn X.K c P = true) (hrow : (P, lpos.line, lpos.col, X.env.qual ++ "<lambda>") ∈ Tabs.rows)
    (hdef : defaultsOf params X.env = ([], [])) (I : Inv X pins σ H s) (fh : Same F H) (tt : TbT F H)
    (h : ∀ (f c' : Addr) (pm ctv : Value) (H' : Hp) (s' : Shared), Inv X (pins ++ [(f, kla_obj "<lambda>" (X.env.qual ++ "<lambda>") params body scope (closOf scope X.env) pm c' ctv)]) σ H' s' → Ext F H F H' → H' c' = some (.ext (codeIs c' (X.env.qual ++ "<lambda>"))) → Q (.ref f) s') :
    wpAny (model X.prog X.w) X.A (eval (.Lambda params body scope lpos) X.env) Q E s := by
  obtain ⟨bma, ob, b1, b2, b3, b4, b5, b6⟩ := bm
  obtain ⟨b3, bH⟩ := I.bs _ _ b3
  have hgs : s.heap.Ns mainGlobals X.mg := I.mod.glob.keeps I.bk
  have C : CodeHd s.heap c P := codeHd_of_K (I.mod.kin.keeps I.bk) hcd
  have hcl : closureFor scope X.env = pure (closOf scope X.env) := closureFor_eq fun y hy e => by
    obtain ⟨c, hc⟩ := I.ok.has _ (S.free y hy e)
    rw [hc]; rfl
  have hbG : bma ≠ mainGlobals := fun q => by
    obtain ⟨o, es, ep, e, hd, _⟩ := hgs
    rw [← q, b3] at e; cases e; rw [b6] at hd; cases hd
  obtain ⟨tF, tt0⟩ := tt _ hrow
  have hPs : ∃ ps, H P = some (.tbl ps) := by
    rcases tt0 with e | ⟨c', e, _⟩
    · exact ⟨_, e⟩
    · exact ⟨_, e⟩
  obtain ⟨ps0, hP0⟩ := hPs
  have hbP : bma ≠ P := fun q => by rw [q, hP0] at bH; cases bH
  have B : s.heap.BuiltinsAt X.mg P := ⟨bma, ob, b1, b2, hbG, hbP, b3, b4, b5, b6⟩
  refine kla_eval hdef ?_
  rcases tt0 with e | ⟨c', e, ec⟩
  · -- the first time
    have e : H P = some (.tbl #[]) := e
    have hP : s.heap.get? P = some (tabObj #[]) := I.hok P _ e
    have hgP : mainGlobals ≠ P := fun q => by
      obtain ⟨o, es, ep, e', hd, _⟩ := hgs
      rw [q, hP] at e'; cases e'; cases hd
    refine kla_makeFunction (mg := X.mg) hcl I.ok.glob hgs hcode C hP trivial rfl hgP B fun c' ctv h' tk hx hge hlt hrec htb => ?_
    have hc0 : H c' = none := I.hok.fresh hge
    have hPc : P ≠ c' := fun z => by rw [z, hc0] at e; cases e
    have hsz : s.heap.objs.size ≤ h'.objs.size := Nat.le_trans hge (Nat.le_of_lt hlt)
    have htb : h'.get? P = some (tabObj #[rawInt lpos.line, rawInt lpos.col, .ref c']) := by simpa using htb
    let H' : Hp := upd (upd H P (.tbl #[rawInt lpos.line, rawInt lpos.col, .ref c'])) c' (.ext (codeIs c' (X.env.qual ++ "<lambda>")))
    have hne : ∀ b, b ≠ P → b ≠ c' → H' b = H b := fun b z1 z2 => by show upd (upd H P _) c' _ b = H b; rw [upd_ne z2, upd_ne z1]
    have hP' : H' P = some (.tbl #[rawInt lpos.line, rawInt lpos.col, .ref c']) := by show upd (upd H P _) c' _ P = _; rw [upd_ne hPc, upd_same]
    have hc' : H' c' = some (.ext (codeIs c' (X.env.qual ++ "<lambda>"))) := upd_same
    let fo : Obj := kla_obj "<lambda>" (X.env.qual ++ "<lambda>") params body scope (closOf scope X.env) ((X.mg "__name__").getD .none) c' ctv
    have kp : ∀ b o, b ≠ P → s.heap.get? b = some o → (h'.push fo).get? b = some o := fun b o z q => Heap.get?_push_of_some _ (hx b o z q)
    have nc : ∀ b o, s.heap.get? b = some o → b ≠ c' := fun b o q => Nat.ne_of_lt (Nat.lt_of_lt_of_le (Heap.lt_size q) hge)
    have nP : ∀ b, H b = none → b ≠ P := fun b q z => by rw [z, e] at q; cases q
    have J : Inv X pins σ H' { s with heap := h'.push fo, toks := tk } := by
      refine I.un (t' := tk) ⟨fun b o q n _ _ => kp b o (nP b n) q, fun b o q n _ _ => ⟨o.slots, kp b o (nP b n) q⟩, fun b o q n _ => by rw [hne b (nP b n) (nc b o q)]; exact n, fun b o q _ => ?_, fun b xs q => ?_, fun b o u q => ?_, fun b ps q => ?_⟩ fun b u q => ?_
      · by_cases z : b = P
        · subst z; exact ⟨_, Heap.get?_push_of_some _ htb⟩
        · exact ⟨o, kp b o z q⟩
      · rw [hne b (fun z => by rw [z, e] at q; cases q) (fun z => by rw [z, hc0] at q; cases q)]; exact q
      · rw [hne b (fun z => by rw [z, e] at q; cases q) (fun z => by rw [z, hc0] at q; cases q)]; exact q
      · by_cases z : b = P
        · subst z
          rw [e] at q; cases q
          exact ⟨#[rawInt lpos.line, rawInt lpos.col, .ref c'], by rw [hP']; simp⟩
        · exact ⟨#[], by rw [hne b z (fun z => by rw [z, hc0] at q; cases q), q]; simp⟩
      · by_cases z2 : b = c'
        · subst z2
          rw [hc'] at q; cases q
          have hr2 : (h'.push fo).CodeRec (.ref b) (X.env.qual ++ "<lambda>") := by
            obtain ⟨c2, oc, vs, t, g1, g2, g3, g4⟩ := hrec
            exact ⟨c2, oc, vs, t, g1, Heap.get?_push_of_some _ g2, g3, g4⟩
          refine ⟨hr2, ?_, fun h1 h2 g k => ?_⟩
          · obtain ⟨c2, oc, vs, t, g1, g2, g3, g4⟩ := hr2
            cases g1
            exact ⟨oc, g2⟩
          · obtain ⟨c2, oc, vs, t, g1, g2, g3, g4⟩ := g
            cases g1
            exact ⟨_, oc, vs, t, rfl, k _ g2, g3, g4⟩
        · by_cases z : b = P
          · subst z
            rw [hP'] at q; cases q
            exact Heap.get?_push_of_some _ htb
          · rw [hne b z z2] at q
            refine (I.hok b u q).stay (fun d v hd qd => kp d v ?_ qd) (fun d qd => ?_) fun d xs qd => ?_
            · rcases hd with y | y
              · rw [y]; exact z
              · exact fun y' => by rw [y', e] at y; cases y
            · rw [hne d (fun y => by rw [y, e] at qd; cases qd) (fun y => by rw [y, hc0] at qd; cases qd)]; exact qd
            · rw [hne d (fun y => by rw [y, e] at qd; cases qd) (fun y => by rw [y, hc0] at qd; cases qd)]; exact qd
    have hfz : s.heap.objs.size ≤ h'.objs.size := hsz
    have nf : H' h'.objs.size = none := by
      rw [hne _ (Nat.ne_of_gt (Nat.lt_of_lt_of_le (Heap.lt_size hP) hfz)) (Nat.ne_of_gt hlt)]
      exact I.hok.fresh hfz
    refine h h'.objs.size c' ((X.mg "__name__").getD .none) ctv H' _ (J.pins_of fun q hq => ?_) ⟨Same.refl F, fun b o q => ?_, fun b o q => ?_, fun _ _ q => .inl q, fun t r hr => ?_⟩ hc'
    · rcases List.mem_append.mp hq with hq | hq
      · exact J.pin q (List.mem_append_right _ hq)
      · have : q = (h'.objs.size, fo) := by simpa using hq
        subst this
        exact ⟨Heap.get?_push_size _ rfl, nf, (Nat.ne_of_lt (Nat.lt_of_lt_of_le I.lt hfz)).symm, I.nofs hfz, fun v z => nomatch z⟩
    · by_cases z : b = P
      · subst z; rw [e] at q; cases q; exact ⟨_, hP'⟩
      · exact .of (by rw [hne b z (fun z => by rw [z, hc0] at q; cases q)]; exact q)
    · have q' := fh b o q
      rw [hne b (fun z => by rw [z, show F P = none from tF] at q; cases q) (fun z => by rw [z, hc0] at q'; cases q')]
      exact q'
    · by_cases z : r.1 = P
      · obtain rfl := tu r hr _ hrow z
        exact ⟨tF, .inr ⟨c', hP', hc'⟩⟩
      · obtain ⟨t1, t2⟩ := t r hr
        refine ⟨t1, ?_⟩
        rcases t2 with q | ⟨c2, q, q2⟩
        · exact .inl (by rw [hne _ z (fun z => by rw [z, hc0] at q; cases q)]; exact q)
        · exact .inr ⟨c2, by rw [hne _ z (fun z => by rw [z, hc0] at q; cases q)]; exact q, by rw [hne _ (fun z => by rw [z, e] at q2; cases q2) (fun z => by rw [z, hc0] at q2; cases q2)]; exact q2⟩
  · -- again
    have e : H P = some (.tbl #[rawInt lpos.line, rawInt lpos.col, .ref c']) := e
    have hP : s.heap.get? P = some (tabObj #[rawInt lpos.line, rawInt lpos.col, .ref c']) := I.hok P _ e
    refine kla_makeFunctionHit (mg := X.mg) (cv := .ref c') hcl I.ok.glob hgs hcode C hP trivial (codeAmong_snoc (c := .ref c') [] trivial rfl) B fun ctv h' tk hk hsz => ?_
    let fo : Obj := kla_obj "<lambda>" (X.env.qual ++ "<lambda>") params body scope (closOf scope X.env) ((X.mg "__name__").getD .none) c' ctv
    have J : Inv X pins σ H { s with heap := h'.push fo, toks := tk } := I.kept (t' := tk) fun b u q => Heap.get?_push_of_some _ (hk b u q)
    refine h h'.objs.size c' ((X.mg "__name__").getD .none) ctv H _ (J.pins_of fun q hq => ?_) (Ext.refl fh) ec
    rcases List.mem_append.mp hq with hq | hq
    · exact J.pin q (List.mem_append_right _ hq)
    · have : q = (h'.objs.size, fo) := by simpa using hq
      subst this
      exact ⟨Heap.get?_push_size _ rfl, I.hok.fresh hsz, (Nat.ne_of_lt (Nat.lt_of_lt_of_le I.lt hsz)).symm, I.nofs hsz, fun v z => nomatch z⟩
def lamKeys (idx : List Nat) (fb : FE) (τ : DS) : List D → Rs (List D)
  | [] => .ok []
  | d :: r => match lamD idx fb τ d with
    | .ok k => match lamKeys idx fb τ r with
      | .ok ks => .ok (k :: ks)
      | _ => .no
    | _ => .no
theorem lamKeys_get {idx : List Nat} {fb : FE} {τ : DS} : ∀ {ds ks : List D}, lamKeys idx fb τ ds = .ok ks → ks.length = ds.length ∧ ∀ (i : Nat) (d k : D), ds[i]? = some d → ks[i]? = some k → lamD idx fb τ d = .ok k
  | [], ks, h => by cases h; exact ⟨rfl, fun i d k e => by simp at e⟩
  | d :: r, ks, h => by
    unfold lamKeys at h
    cases q : lamD idx fb τ d with
    | no => rw [q] at h; cases h
    | ex c => rw [q] at h; cases h
    | ok k =>
      rw [q] at h
      simp only at h
      cases q2 : lamKeys idx fb τ r with
      | no => rw [q2] at h; cases h
      | ex c => rw [q2] at h; cases h
      | ok ks' =>
        rw [q2] at h; cases h
        obtain ⟨l, g⟩ := lamKeys_get q2
        refine ⟨by simp [l], fun i d' k' e1 e2 => ?_⟩
        cases i with
        | zero => simp at e1 e2; subst e1; subst e2; exact q
        | succ i => exact g i d' k' (by simpa using e1) (by simpa using e2)
def sortBy (ks ds : List D) : Rs D := match keysD ks with
  | some kz => if ds.length < 64 ∧ kz.Nodup ∧ (∀ k ∈ kz, k ≠ []) then .ok (.lst ((sortK (kz.zip ds)).map (·.2))) else .no
  | none => .no
def eSortK (idx : List Nat) (fe fb : FE) : FE := fun τ => (fe τ).bind fun d => match d with
  | .lst ds => match lamKeys idx fb τ ds with
    | .ok ks => sortBy ks ds
    | _ => .no
  | _ => .no
theorem sortBy_ok {X : Cx} {ks ds : List D} {P : D → Prop} (h : Ok X (sortBy ks ds) P) : ∃ kz : List (List Int), ks = kz.map (fun k => D.tup (k.map D.int)) ∧ ds.length < 64 ∧ kz.Nodup ∧ (∀ k ∈ kz, k ≠ []) ∧ P (.lst ((sortK (kz.zip ds)).map (·.2))) := by
  unfold sortBy at h
  cases q : keysD ks with
  | none => rw [q] at h; exact h.elim
  | some kz =>
    rw [q] at h
    simp only at h
    by_cases z : ds.length < 64 ∧ kz.Nodup ∧ (∀ k ∈ kz, k ≠ [])
    · rw [if_pos z] at h
      exact ⟨kz, keysD_eq q, z.1, z.2.1, z.2.2, h⟩
    · rw [if_neg z] at h; exact h.elim
theorem pde_sortK {x p : Str} {pp pos lpos kp : Pos} {e body : Expr} {params : Arguments} {fr : List Str} {idx : List Nat} {fe fb : FE} {P c : Addr} (hg : Gl X x) (hm : X.mg x = none) (hv : bootBuiltins x = some (.builtin "sorted")) (he : PDE X e fe)
    (hr : Room 3 X.A) (tu : TabsU) (bm : BM X.mg X.base) (hcode : X.env.code = .ref c) (hcd : codeHdIn X.K c P = true) (hrow : (P, lpos.line, lpos.col, X.env.qual ++ "<lambda>") ∈ Tabs.rows)
    (hsc : compOkB X.env.scope scope = true) (hfr : FreeOk scope X.N fr idx) (hp : scope.names.lookup p = some .local) (hco : scope.isCoroutine = false) (hgen : scope.isGenerator = false)
    (hbind : ∀ (pm cd ct : Value) (cl : List (Str × Addr)) (u : Value), bindArgs (kla_fn "<lambda>" (X.env.qual ++ "<lambda>") params body scope cl pm cd ct) ⟨[u], []⟩ = pure [(p, u)])
    (hb : ∀ s H f cd, PDE (X.lam scope (p :: fr) s H (X.env.qual ++ "<lambda>") f cd) body fb) (hdef : defaultsOf params X.env = ([], []) := by rfl)
    (hn : x ≠ "__name__" := by decide) (hdb : (x == ("__debug__" : Str)) = false := by decide) (h1 : starEach [e] X.env = (false, eval e X.env) :: starEach [] X.env := by rfl) :
    PDE X (.Call (.Name x pp) [e] [⟨some "key", .Lambda params body scope lpos, kp⟩] pos) (eSortK idx fe fb) := by
  intro pins s σ H Q I ⟨F, τ, R, hq⟩
  have S : CompScope X scope := compScope_of hsc
  refine wpAny_Call_Name_kw (ld_blt I hg hm hv ?_ hn hdb)
  refine callWith_kw ?_ (by rw [h1]; rfl) (by rw [h1]; rfl)
  have hqb := hq.bind
  have ha : PDA X [e] (aCons fe aNil) := pda_cons he pda_nil (by rw [h1])
  refine thn (ha pos pins s σ H (fun vs H1 => ∃ F1 d v, vs = [v] ∧ Ext F H F1 H1 ∧ Rep X.K F1 d v ∧ fe τ = .ok d) I ⟨F, τ, R, ?_⟩) fun us s1 hA => ?_
  · unfold aCons aNil
    cases z : fe τ with
    | no => rw [z] at hqb; exact hqb.elim
    | ex cc => rw [z] at hqb; exact hqb
    | ok d =>
      intro vs F1 H1 x1 rr
      obtain ⟨v, rfl, rd⟩ := Reps.one rr
      exact ⟨F1, d, v, rfl, x1, rd, rfl⟩
  obtain ⟨vs, H1, I1, rvs, F1, d, v, rfl, x1, rd, ed⟩ := hA
  obtain ⟨u, rfl, ru⟩ := Vals.one rvs
  rw [ed] at hqb
  have hqb : Ok X (match d with
    | .lst ds => match lamKeys idx fb τ ds with
      | .ok ks => sortBy ks ds
      | _ => .no
    | _ => .no) (Ev X.K F H Q) := hqb
  cases d with
  | lst ds =>
    simp only at hqb
    cases z : lamKeys idx fb τ ds with
    | no => rw [z] at hqb; exact hqb.elim
    | ex cc => rw [z] at hqb; exact hqb.elim
    | ok ks =>
      rw [z] at hqb
      obtain ⟨kz, ek, h64, nd, ne, hq⟩ := sortBy_ok (X := X) hqb
      obtain ⟨lk, hkeys⟩ := lamKeys_get z
      simp only [Rep] at rd
      obtain ⟨l, ws, rfl, hF1, rs⟩ := rd
      obtain rfl : u = Value.ref l := ru
      refine kws_cons ?_
      refine lam_make (P := P) (c := c) tu S bm hcode hcd hrow hdef I1 x1.fh (x1.tt R.tt) fun f c' pm ctv H2 s2 I2 x2 hc2 => ?_
      refine kws_nil ?_
      have R2 : RV X.K F1 τ σ H2 := (R.ext x1).ext x2
      refine wpAny_mono (sortedK_ok (E := X.xe) (Q := Q) (F := F1) (kz := kz) I2 x2.fh hF1 rs h64 (by rw [← lk, ek, List.length_map]) nd ne (fun i d k hd hk pins' s' F' H' v u Q' I' hpin x' rd' ru' hQ' => ?_) fun Da F' H' x' r' => ?_) (fun w s3 ⟨v3, H3, I3, r3, q3⟩ => ⟨v3, H3, I3.pins_of fun q hq => I3.pin q (List.mem_append_right _ (List.mem_append_left _ hq)), r3, q3⟩) fun _ _ z => z
      · refine lam_call S hr hfr hp hco hgen hbind hb I' (R2.ext x') (I'.pin _ (List.mem_append_right _ (hpin _ (List.mem_append_right _ (List.mem_singleton.mpr rfl))))).1 (x'.hh _ _ hc2) rd' ru' (hkeys i d _ hd ?_) hQ'
        rw [ek, List.getElem?_map, hk]; rfl
      · exact hq _ F' H' ((x1.trans x2).trans x') r'
  | _ => exact hqb.elim
end
end FD
set_option Elab.async false
set_option linter.all false
set_option maxRecDepth 100000
namespace FD
open PySem PySem.Spec PyProof.Rows L2
section
variable {prog : Program} {w : World} {A : Around} {R : Result → Shared → Prop} {E : Value → Shared → Prop} {I S : Addr} {fp wr : List Addr} {n : Nat} {P : Nat → Value → Prop} {St : Nat → Heap → Prop} {kw : List (Str × Value)}
theorem maxQ : (toString "max" ++ toString ".loop" : String) = "max.loop" := by decide
theorem maxK_loop (W : Walks prog w A.in1 I fp wr n P St) (bt : Nat → Nat → Bool) (hcmp : CmpOf prog w A.in1 .Gt P bt) (hSf : S ∉ fp) : ∀ (k j : Nat) (s : Shared) (vb : Value) (c : Nat), n - (j + 1) = k → j + 1 ≤ n → St (j + 1) s.heap → P (argBest bt j) vb →
    s.heap.get? S = some { cls := .type "list", dict := none, data := .seq #[vb, vb] c, slots := #[] } → (∀ v h' tk, P (argBest bt (n - 1)) v → (∀ b o, b ∉ wr → b ≠ S → s.heap.get? b = some o → h'.get? b = some o) → R (.ok (.ret v)) { s with heap := h', toks := tk }) →
    codeAny (model prog w) A (.builtin "max.loop" ⟨[.ref I, .none, .ref S], kw⟩) R s := by
  have hSw : S ∉ wr := fun h => hSf (W.sub _ h)
  intro k
  induction k with
  | zero =>
    intro j s vb c hk hj hst hPb hS hR; have hin : j + 1 = n := by omega
    refine codeAny_builtin F.entry_max_loop ?_; rw [Around.under_plainId F.plain_max_loop _]
    refine wpAny_bind (m := seqItems? (.ref S)) (wpAny_seqItems hS rfl ?_)
    refine wpAny_bind (wpAny_tryCatch (W.done s _ _ (hin ▸ hst) fun h' tk hk' => ?_)); have hS' := hk' S _ hSw hS
    refine wpAny_bind (m := updateSeq S (fun _ => #[])) (wpAny_updateSeq hS' rfl (wpAny_bind (wpAny_letGo (wpAny_pure ?_))))
    exact hR vb _ tk (by rw [← hin]; exact hPb) fun b o hbw hbS e => (Heap.get?_update_other _ _ (Ne.symm hbS)).trans (hk' b o hbw e)
  | succ k ih =>
    intro j s vb c hk hj hst hPb hS hR; have hlt : j + 1 < n := by omega
    refine codeAny_builtin F.entry_max_loop ?_; rw [Around.under_plainId F.plain_max_loop _]
    refine wpAny_bind (m := seqItems? (.ref S)) (wpAny_seqItems hS rfl ?_)
    refine wpAny_bind (wpAny_tryCatch (W.item (j + 1) s _ _ hlt hst fun v h' tk hP hst' hk' => ?_)); have hS' := hk' S _ hSw hS
    refine wpAny_bind (wpAny_pure ?_); refine wpAny_bind (wpAny_tryCatch (wpAny_holding (wpAny_bind (m := richCompare .Gt v vb) (hcmp (j + 1) (argBest bt j) v vb _ _ _ hP hPb ?_))))
    refine wpAny_bind (wpAny_holding (wpAny_truthy_bool ?_)); refine wpAny_bind (wpAny_letGo (wpAny_pure ?_))
    cases hb : bt (j + 1) (argBest bt j) with
    | true =>
      simp only [if_true]; refine wpAny_bind ?_
      refine wpAny_updateSeq hS' rfl (wpAny_bind (wpAny_letGo ?_)); rw [maxQ]
      refine wpAny_pure ⟨plainId_quiet F.plain_max_loop _, ih (j + 1) _ v _ (by omega) hlt (W.frame _ _ _ hst' fun b hbf o e => (Heap.get?_update_other _ _ (fun h : S = b => hSf (by rw [h]; exact hbf))).trans e) (by simp only [argBest, hb, if_true]; exact hP) (Heap.get?_update_self _ hS' rfl) fun v' h'' tk'' hP' hk'' => ?_⟩
      exact hR v' h'' tk'' hP' fun b o hbw hbS e => hk'' b o hbw hbS ((Heap.get?_update_other _ _ (Ne.symm hbS)).trans (hk' b o hbw e))
    | false =>
      simp only [Bool.false_eq_true, if_false]; refine wpAny_bind (wpAny_letGo ?_); rw [maxQ]
      refine wpAny_pure ⟨plainId_quiet F.plain_max_loop _, ih (j + 1) _ vb c (by omega) hlt hst' (by simp only [argBest, hb, Bool.false_eq_true, if_false]; exact hPb) hS' fun v' h'' tk'' hP' hk'' => hR v' h'' tk'' hP' fun b o hbw hbS e => hk'' b o hbw hbS (hk' b o hbw e)⟩
theorem maxK_first (W : Walks prog w A.in1 I fp wr n P St) (bt : Nat → Nat → Bool) (hcmp : CmpOf prog w A.in1 .Gt P bt) (hSf : S ∉ fp) (hn : 0 < n) {s : Shared} {c : Nat} (hst : St 0 s.heap) (hS : s.heap.get? S = some { cls := .type "list", dict := none, data := .seq #[] c, slots := #[] })
    (hR : ∀ v h' tk, P (argBest bt (n - 1)) v → (∀ b o, b ∉ wr → b ≠ S → s.heap.get? b = some o → h'.get? b = some o) → R (.ok (.ret v)) { s with heap := h', toks := tk }) : codeAny (model prog w) A (.builtin "max.loop" ⟨[.ref I, .none, .ref S], kw⟩) R s := by
  have hSw : S ∉ wr := fun h => hSf (W.sub _ h)
  refine codeAny_builtin F.entry_max_loop ?_; rw [Around.under_plainId F.plain_max_loop _]
  refine wpAny_bind (m := seqItems? (.ref S)) (wpAny_seqItems hS rfl ?_)
  refine wpAny_bind (wpAny_tryCatch (W.item 0 s _ _ hn hst fun v h' tk hP hst' hk' => ?_)); have hS' := hk' S _ hSw hS
  refine wpAny_bind (wpAny_pure ?_); refine wpAny_bind (m := updateSeq S (fun _ => #[v, v])) (wpAny_updateSeq hS' rfl ?_); rw [maxQ]
  refine wpAny_pure ⟨plainId_quiet F.plain_max_loop _, maxK_loop W bt hcmp hSf _ 0 _ v _ rfl hn (W.frame _ _ _ hst' fun b hbf o e => (Heap.get?_update_other _ _ (fun h : S = b => hSf (by rw [h]; exact hbf))).trans e) hP (Heap.get?_update_self _ hS' rfl) fun v' h'' tk'' hP' hk'' => ?_⟩
  exact hR v' h'' tk'' hP' fun b o hbw hbS e => hk'' b o hbw hbS ((Heap.get?_update_other _ _ (Ne.symm hbS)).trans (hk' b o hbw e))
theorem maxK_none {d : Value} {k : Str} (W : Walks prog w A.in1 I fp wr 0 P St) (hSf : S ∉ fp) {s : Shared} {c : Nat} (hst : St 0 s.heap) (hS : s.heap.get? S = some { cls := .type "list", dict := none, data := .seq #[] c, slots := #[] })
    (hR : ∀ h' tk, (∀ b o, b ∉ wr → s.heap.get? b = some o → h'.get? b = some o) → R (.ok (.ret d)) { s with heap := h', toks := tk }) : codeAny (model prog w) A (.builtin "max.loop" ⟨[.ref I, .none, .ref S], [(k, d)]⟩) R s := by
  refine codeAny_builtin F.entry_max_loop ?_; rw [Around.under_plainId F.plain_max_loop _]
  refine wpAny_bind (m := seqItems? (.ref S)) (wpAny_seqItems hS rfl ?_)
  refine wpAny_bind (wpAny_tryCatch (W.done s _ _ hst fun h' tk hk' => ?_))
  refine wpAny_bind (wpAny_rule ?_)
  exact wpAny_pure (hR h' tk hk')
theorem args_maxD (a v : Value) : argsOk "max" ⟨[a], [(Str.ofString "default", v)]⟩ := by unfold argsOk; kernel_rfl
theorem call_maxD_walk {x d : Value} {s : Shared} {Q : Value → Shared → Prop}
    (h : wpAny (model prog w) A.in1 (pyIter x) (fun it s₂ => ∃ I fp wr n P St bt, it = .ref I ∧ Walks prog w A.in1 I fp wr n P St ∧ St 0 s₂.heap ∧ (∀ b ∈ fp, b < s₂.heap.objs.size) ∧ CmpOf prog w A.in1 .Gt P bt ∧
      (n = 0 → ∀ h' tk, (∀ b o, b ∉ wr → s₂.heap.get? b = some o → h'.get? b = some o) → Q d { s₂ with heap := h', toks := tk }) ∧
      (0 < n → ∀ v h' tk, P (argBest bt (n - 1)) v → (∀ b o, b ∉ wr → s₂.heap.get? b = some o → h'.get? b = some o) → Q v { s₂ with heap := h', toks := tk })) E s) :
    wpAny (model prog w) A (call (.builtin "max") [x] [(Str.ofString "default", d)]) Q E s := by
  refine wpAny_call (codeAny_call_builtin F.plain_max F.entry_max ?_)
  have main : wpAny (model prog w) A.in1 (Builtin.«max» ⟨[x], [(Str.ofString "default", d)]⟩) (fun fin s' => match fin with
      | .done f => (match (Except.ok f : Result) with | .ok (.ret v) => Q v s' | .ok _ => False | .error e => E e s')
      | .again c' => c'.quiet = true ∧ codeAny (model prog w) A c' (fun r s' => match r with | .ok (.ret v) => Q v s' | .ok _ => False | .error e => E e s') s') E s := by
    refine wpAny_bind (m := Builtin.Builtins.bindParams "max" ["key", "default"] 0 ⟨[], [(Str.ofString "default", d)]⟩) (wpAny_of_eq (show Builtin.Builtins.bindParams "max" ["key", "default"] 0 ⟨[], [(Str.ofString "default", d)]⟩ = pure [none, some d] from rfl) ?_)
    refine wpAny_bind (wpAny_pure ?_)
    refine wpAny_bind (wpAny_mono h (fun it s₂ h₂ => ?_) fun _ _ e => e)
    obtain ⟨I, fp, wr, n, P, St, bt, rfl, W, hst, hfp, hcmp, h0, hQ⟩ := h₂
    refine wpAny_bind (wpAny_newObj_type ?_); have hSf : s₂.heap.objs.size ∉ fp := fun hm => Nat.lt_irrefl _ (hfp _ hm)
    rw [maxQ]
    have st1 := W.frame _ _ _ hst fun b (_ : b ∈ fp) o e => Heap.get?_push_of_some { cls := Value.type "list", data := Data.seq (List.toArray []) } e
    rcases Nat.eq_zero_or_pos n with z | z
    · subst z
      exact wpAny_pure ⟨plainId_quiet F.plain_max_loop _, maxK_none W hSf st1 (Heap.get?_push_size _ rfl) fun h' tk hk => h0 rfl h' tk fun b o hbw e => hk b o hbw (Heap.get?_push_of_some _ e)⟩
    · exact wpAny_pure ⟨plainId_quiet F.plain_max_loop _, maxK_first W bt hcmp hSf z st1 (Heap.get?_push_size _ rfl) fun v h' tk hP hk => hQ z v h' tk hP fun b o hbw e => hk b o hbw (Nat.ne_of_lt (Heap.lt_size e)) (Heap.get?_push_of_some _ e)⟩
  simp only [checkBuiltinCall, F.kind_max]
  cases hsig : Manifest.signature? "max" with
  | none => exact wpAny_pure main
  | some sig =>
    have ha := args_maxD x d
    have ha' : Bind.checkArgs "max" sig ⟨[x], [(Str.ofString "default", d)]⟩ = pure () := by simpa only [argsOk, hsig] using ha
    simp only [ha']
    exact wpAny_pure main
end
variable [Tabs]
section
variable {X : Cx} {pos pp kp : Pos} {e e2 : Expr} {fe f2 : FE}
def maxDD (d : D) : D → Rs D
  | .lst xs => match intsQ xs with
    | some is => .ok (if is = [] then d else .int (mxI is))
    | none => .no
  | _ => .no
def eMaxD (fe f2 : FE) : FE := fun τ => (fe τ).bind fun l => (f2 τ).bind fun d => maxDD d l
theorem pde_maxD {x : Str} (hc : X.calm = true) (hg : Gl X x) (hm : X.mg x = none) (hv : bootBuiltins x = some (.builtin "max")) (he : PDE X e fe) (h2 : PDE X e2 f2)
    (hn : x ≠ "__name__" := by decide) (hdb : (x == ("__debug__" : Str)) = false := by decide) (h1 : starEach [e] X.env = (false, eval e X.env) :: starEach [] X.env := by rfl) :
    PDE X (.Call (.Name x pp) [e] [⟨some "default", e2, kp⟩] pos) (eMaxD fe f2) := by
  intro pins s σ H Q I ⟨F, τ, R, hq⟩
  refine wpAny_Call_Name_kw (ld_blt I hg hm hv ?_ hn hdb)
  refine callWith_kw ?_ (by rw [h1]; rfl) (by rw [h1]; rfl)
  have ha : PDA X [e] (aCons fe aNil) := pda_cons he pda_nil (by rw [h1])
  have hqb := hq.bind
  refine thn (ha pos pins s σ H (fun vs H1 => ∃ F1 d v, vs = [v] ∧ Ext F H F1 H1 ∧ Rep X.K F1 d v ∧ fe τ = .ok d) I ⟨F, τ, R, ?_⟩) fun us s1 hA => ?_
  · unfold aCons aNil
    cases z : fe τ with
    | no => rw [z] at hqb; exact hqb.elim
    | ex cc => rw [z] at hqb; exact hqb
    | ok d =>
      intro vs F1 H1 x1 rr
      obtain ⟨v, rfl, rd⟩ := Reps.one rr
      exact ⟨F1, d, v, rfl, x1, rd, rfl⟩
  obtain ⟨vs, H1, I1, rvs, F1, d, v, rfl, x1, rd, ed⟩ := hA
  obtain ⟨u, rfl, ru⟩ := Vals.one rvs
  rw [ed] at hqb
  have hqb : Ok X ((f2 τ).bind fun d2 => maxDD d2 d) (Ev X.K F H Q) := hqb
  refine kws_cons (thn (h2 pins s1 σ H1 (fun v2 H2 => ∃ F2 d2, Ext F1 H1 F2 H2 ∧ Rep X.K F2 d2 v2 ∧ Ok X (maxDD d2 d) (Ev X.K F H Q)) I1 ⟨F1, τ, R.ext x1, hqb.bind.imp fun d2 g v2 F2 H2 x2 r2 => ⟨F2, d2, x2, r2, g⟩⟩) fun u2 s2 ⟨v2, H2, I2, ru2, F2, d2, x2, rd2, g⟩ => kws_nil ?_)
  show wpAny _ _ (call (.builtin "max") [u] [(Str.ofString "default", u2)]) _ _ _
  cases d with
  | lst xs =>
    simp only [maxDD] at g
    cases z : intsQ xs with
    | none => rw [z] at g; exact g.elim
    | some is =>
      rw [z] at g
      have e0 := intsQ_eq z
      subst e0
      simp only [Rep] at rd
      obtain ⟨l, ws, rfl, hF1, rs⟩ := rd
      obtain rfl : u = Value.ref l := ru
      have := reps_ints_inv rs
      subst this
      obtain ⟨its, rr, p, _⟩ := I2.list (SqL.of (K := X.K) (x2.fh _ _ (x2.ff _ _ hF1)))
      have hh : X.A.in1.handled = none := I2.ok.hd hc
      have hlt : l < s2.heap.objs.size := I2.hok.lt (x2.fh _ _ (x2.ff _ _ hF1))
      have hln := rr.length
      rw [List.length_map] at hln
      have en : its.toArray.size = is.length := by simp [hln]
      have I3 : Inv X pins σ H2 { s2 with heap := s2.heap.push { cls := .type "list_iterator", data := .fields #[.ref l, .int 0 0] } } := I2.kept (t' := s2.toks) fun b o e => Heap.get?_push_of_some _ e
      have fk := I2.fpOk (H' := H2) (Nat.le_refl s2.heap.objs.size) (I2.hok.fresh (Nat.le_refl _))
      have turned : ∀ h' tk, (∀ b o, b ∉ [s2.heap.objs.size] → (s2.heap.push { cls := .type "list_iterator", data := .fields #[.ref l, .int 0 0] }).get? b = some o → h'.get? b = some o) → Inv X pins σ H2 { s2 with heap := h', toks := tk } := fun h' tk hk =>
        turnedL (s := { s2 with heap := s2.heap.push { cls := .type "list_iterator", data := .fields #[.ref l, .int 0 0] } }) (ch := [s2.heap.objs.size]) I3 (fun b o hb e => hk b o hb e) (fun b hb => by
          have z : b = s2.heap.objs.size := by simpa using hb
          subst z; exact fk) fun b hb => by
          have z : b = s2.heap.objs.size := by simpa using hb
          subst z; exact fk.1
      refine call_maxD_walk (wpAny_pyIter_list p.isList ⟨s2.heap.objs.size, _, _, _, _, _, fun i j => decide (is.getD i 0 > is.getD j 0), rfl, Walks.list hh s2.heap.objs.size l (Nat.ne_of_lt hlt) its.toArray, ⟨⟨_, Heap.get?_push_size _ rfl, rfl, rfl⟩, p.isList.push _⟩, fun b hb => ?_, CmpOf.ints_gt (fun i => is.getD i 0) (fun i v hP => vals_get rr (by simpa using hP)), fun hz h' tk hk => ?_, fun hz v h' tk hP hk => ?_⟩)
      · have : b = s2.heap.objs.size ∨ b = l := by simpa using hb
        rw [Heap.size_push]
        rcases this with z | z
        · rw [z]; exact Nat.lt_succ_self _
        · rw [z]; exact Nat.lt_succ_of_lt hlt
      · have : is = [] := List.eq_nil_of_length_eq_zero (by omega)
        subst this
        exact ⟨v2, H2, turned h' tk hk, ru2, g v2 F2 H2 (x1.trans x2) (by simpa using rd2)⟩
      · have hne : is ≠ [] := fun z => by subst z; simp at hln; rw [en] at hz; simp at hz
        rw [en] at hP
        obtain ⟨t, rfl⟩ := vals_get rr (i := argBest (fun i j => decide (is.getD i 0 > is.getD j 0)) (is.length - 1)) (by simpa using hP)
        refine ⟨.int (mxI is), H2, turned h' tk hk, ⟨t, rfl⟩, g _ F2 H2 (x1.trans x2) ?_⟩
        rw [if_neg hne]; simp only [Rep]
  | _ => exact g.elim
end
end FD
set_option Elab.async false
set_option linter.all false
set_option maxRecDepth 100000
namespace FD
open PySem PySem.Spec PyProof.Rows L2
variable [Tabs]
open Classical in
noncomputable def frzH (τ : DS) (σ : St) (F H : Hp) : Hp := fun a => if ∃ (i : Nat) (ds : List D), τ[i]? = some (some (.own ds)) ∧ σ[i]? = some (some (.ref a)) then H a else F a
def frzS : Option Sl → Option Sl
  | some (.own ds) => some (.val (.lst ds))
  | o => o
def frzT (τ : DS) : DS := τ.map frzS
theorem frzT_get {τ : DS} {i : Nat} {o : Sl} (h : (frzT τ)[i]? = some (some o)) : (∃ d, o = .val d ∧ τ[i]? = some (some (.val d))) ∨ ∃ ds, o = .val (.lst ds) ∧ τ[i]? = some (some (.own ds)) := by
  unfold frzT at h
  rw [List.getElem?_map] at h
  cases q : τ[i]? with
  | none => rw [q] at h; cases h
  | some x =>
    rw [q] at h
    cases x with
    | none => cases h
    | some sl =>
      cases sl with
      | val d => cases h; exact .inl ⟨d, rfl, rfl⟩
      | own ds => cases h; exact .inr ⟨ds, rfl, rfl⟩
section
variable {K : PySem.W.Frag} {B Z F H : Hp} {τ : DS} {σ : St}
theorem frz_same (R : RV K F τ σ H) : Same F (frzH τ σ F H) := fun b o e => by
  unfold frzH
  split
  · rename_i h
    obtain ⟨i, ds, h1, h2⟩ := h
    obtain ⟨a, vs, q1, q2, q3, q4⟩ := R.own i ds h1
    rw [h2] at q1; cases q1
    rw [q3] at e; cases e
  · exact e
theorem RV.frz (R : RV K F τ σ H) : RV K (frzH τ σ F H) (frzT τ) σ H := by
  refine ⟨fun b o e => ?_, by unfold frzT; rw [List.length_map]; exact R.len, fun i d e => ?_, fun i ds e => ?_, fun i j ds es a _ h1 _ _ _ => ?_, fun r hr => ?_⟩
  · unfold frzH at e
    split at e
    · exact e
    · exact R.fh b o e
  · rcases frzT_get e with ⟨d', e1, e2⟩ | ⟨ds, e1, e2⟩
    · cases e1
      obtain ⟨v, h1, h2⟩ := R.val i d e2
      exact ⟨v, h1, h2.mono (frz_same R)⟩
    · cases e1
      obtain ⟨a, vs, q1, q2, q3, q4⟩ := R.own i ds e2
      refine ⟨_, q1, ?_⟩
      simp only [Rep]
      refine ⟨a, vs, rfl, ?_, q4.mono (frz_same R)⟩
      unfold frzH
      rw [if_pos ⟨i, ds, e2, q1⟩]; exact q2
  · rcases frzT_get e with ⟨_, e1, _⟩ | ⟨_, e1, _⟩ <;> cases e1
  · rcases frzT_get h1 with ⟨_, e1, _⟩ | ⟨_, e1, _⟩ <;> cases e1
  · obtain ⟨t1, t2⟩ := R.tt r hr
    refine ⟨?_, t2⟩
    unfold frzH
    split
    · rename_i h
      obtain ⟨i, ds, h1, h2⟩ := h
      obtain ⟨a, vs, q1, q2, q3, q4⟩ := R.own i ds h1
      rw [h2] at q1; cases q1
      rw [q2] at t2
      rcases t2 with z | ⟨_, z, _⟩ <;> cases z
    · exact t1
theorem RS.frz (R : RS K B Z F τ σ H) : RS K B Z (frzH τ σ F H) (frzT τ) σ H := by
  refine ⟨R.rv.frz, R.bh, R.zf.trans (frz_same R.rv), fun a o e => ?_, fun i ds a h1 _ => ?_⟩
  · unfold frzH at e
    split at e
    · rename_i h
      obtain ⟨i, ds, h1, h2⟩ := h
      exact .inr (R.ob i ds a h1 h2)
    · exact R.nb a o e
  · rcases frzT_get h1 with ⟨_, e1, _⟩ | ⟨_, e1, _⟩ <;> cases e1
end
section
variable {X : Cx} {pos : Pos} {e tg : Expr} {st : Stmt} {ss : List Stmt} {fe : FE} {fs : FA} {f : FS}
theorem pds_frz (h : PDS X st f) : PDS X st (fun τ => f (frzT τ)) := PS.imp h fun E σ H ⟨B, Z, F, τ, R, q⟩ => ⟨B, Z, _, frzT τ, R.frz, q.same (frz_same R.rv)⟩
def scal : D → Bool
  | .non => true
  | .bl _ => true
  | .int _ => true
  | .str _ => true
  | _ => false
theorem scal_rep {K : PySem.W.Frag} {F F' : Hp} {d : D} {v : V} (h : scal d = true) (r : Rep K F d v) : Rep K F' d v := by
  cases d <;> first | (simp only [Rep] at r ⊢; exact r) | cases h
def eFz (fe : FE) : FE := fun τ => (fe (frzT τ)).bind fun d => if scal d = true then .ok d else .no
theorem pde_fz (h : PDE X e fe) : PDE X e (eFz fe) := PE.imp h fun σ H Q ⟨F, τ, R, q⟩ => ⟨_, frzT τ, R.frz, q.bind.imp fun d g v F1 H1 x r => by
  by_cases z : scal d = true
  · rw [if_pos z] at g
    have sF : Same F F1 := (frz_same R).trans x.ff
    exact g v F H1 ⟨Same.refl F, x.hh, sF.trans x.fh, fun _ _ e => .inl e, fun _ r hr => ⟨none_of_same sF (x.tt R.frz.tt r hr).1, (x.tt R.frz.tt r hr).2⟩⟩ (scal_rep z r)
  · rw [if_neg z] at g; exact g.elim⟩
def sExt (i : Nat) (fe : FE) : FS := fun τ => Fl.of (ownAt τ i) fun ds => Fl.of (fe τ) fun d => match d with
  | .lst es => if ds.length + es.length ≤ sizeLine then .nx (τ.set i (some (.own (ds ++ es)))) else .no
  | _ => .no
theorem pds_ext {i : Nat} {x : Str} {p1 apos cpos : Pos} (hx : PE X (.Name x p1) (tVar i)) (he : PDE X e fe)
    (hfew : ((backTo cpos (starEach [e] X.env)).all (fun x => !x.1) && (backToKw cpos (keywordEach [] X.env)).all (fun x => x.1.isSome)
      && decide ([e].length + ([] : List Keyword).length + (if ([] : List Keyword).isEmpty then 0 else 1) < 30)) = true := by rfl)
    (hline : (apos.endLine == cpos.line) = true := by rfl) (hs : starEach [e] X.env = [(false, eval e X.env)] := by rfl) (hplain : (backTo cpos (starEach [] X.env)).any (·.1) = false := by rfl)
    (hbase : attributeBase (.Name x p1) "extend" X.env (eval (.Name x p1) X.env) = eval (.Name x p1) X.env := by rfl)
    (hsw : swapsWith (.Call (.Attribute (.Name x p1) "extend" apos) [e] [] cpos) none pos.line X.env = pure false := by rfl) :
    PDS X (.Expr (.Call (.Attribute (.Name x p1) "extend" apos) [e] [] cpos) pos) (sExt i fe) :=
  PS.imp (ps_expr (pe_bm PySem.F.plainAttrs_list PySem.F.slot_list_extend PySem.F.type_list_extend mt_extend hx (pa_cons he pa_nil (by rw [hs]; rfl)) hbase hfew hline (by rw [hs]; rfl) hplain) hsw) fun E σ H ⟨B, Z, F, τ, R, h⟩ => by
    obtain ⟨ds, h1, h2⟩ := ownAt_ok (X := X) (Post.of h)
    obtain ⟨a, vs, q1, q2, q3, q4⟩ := R.rv.own i ds h1
    refine ⟨_, q1, .inl ⟨rfl, vs, SqL.of q2⟩, ?_⟩
    refine tE.at R h2.of fun d v F1 H1 g x R1 r => ?_
    cases d with
    | lst es =>
      simp only at g
      by_cases z : ds.length + es.length ≤ sizeLine
      · rw [if_pos z] at g
        simp only [Rep] at r
        obtain ⟨b, zs, rfl, hb, rb⟩ := r
        refine ⟨a, b, vs, zs, rfl, rfl, x.hh _ _ q2, x.fh _ _ hb, by rw [← q4.length, ← rb.length]; exact z, ?_⟩
        exact g _ F1 _ x.ff (R1.own_upd h1 q1 ((q4.mono x.ff).append rb))
      · rw [if_neg z] at g; exact g.elim
    | _ => exact g.elim
end
end FD
set_option Elab.async false
set_option linter.all false
set_option maxRecDepth 100000
namespace FD
open PySem PySem.Spec PyProof.Rows L2 PySem.W
variable [Tabs]
section
variable {X : Cx} {pins : List (Addr × Obj)} {σ : St} {F H : Hp} {τ : DS} {s : Shared} {Q : VK} {E : Value → Shared → Prop}
end
end FD
set_option Elab.async false
set_option linter.all false
set_option maxRecDepth 100000
namespace FD
open PySem PySem.Spec PyProof.Rows L2 PySem.W
variable [Tabs]
structure DefAtL (K : PySem.W.Frag) (mg : Str → Option Value) (x : Str) (st : Stmt) (f c T : Addr) : Prop where
  ex : ∃ (oc : Value) (od : Option Addr) (kV doc pm : Value) (an : Option Addr) (ct : Value) (osl : Array (Option Value)), K.lookup f = some ⟨oc, od, .func (PySem.W.fnOf x x (defArgs st) (defBody st) (defScope st) .none kV doc pm an (.ref c) ct), osl⟩
  cd : PySem.W.codeIn K (.ref c) x = true
  kp : PySem.W.keepIn K (.ref f) = true
  at_ : mg x = some (.ref f)
  tab : codeHdIn K c T = true
section
variable {P : Program} {w : World} {K : PySem.W.Frag} {mg : Str → Option Value} {base : Heap}
theorem DefOk.mkL {x : Str} {st : Stmt} {f c T : Addr} {N ps : List Str} {k n : Nat} {fb : FS} (D : DefAtL K mg x st f c T) (S : FnScope N ps (defScope st)) (hn : ps.length = n)
    (hb : ∀ (kV doc pm : Value) (an : Option Addr) (cdv ct : Value) (us : List Value), us.length = ps.length → bindArgs (PySem.W.fnOf x x (defArgs st) (defBody st) (defScope st) .none kV doc pm an cdv ct) ⟨us, []⟩ = pure (ps.zip us))
    (hbody : ∀ (A : Around) (outer : List Env) (s : Shared) (H : Hp) (E : XK), Room k (A.deeper (envOfC x (defScope st) s.heap.objs.size f (.ref c))) →
      PDSs (cxOf CX0 P w K mg base N x (defScope st) f (.ref c) A outer s H E).nox (defBody st) fb) : DefOk P w K mg base x (k + 1) n ps (runF N.length fb) := by
  obtain ⟨oc, od, kV, doc, pm, an, ct, osl, lk⟩ := D.ex
  refine ⟨f, _, ?_, .all (hb kV doc pm an (.ref c) ct), D.kp, D.at_⟩
  refine fn_of lk D.cd S (fun vs H Q E h => by rw [hn]; exact h.1) fun A outer s H vs Q E hr h => ⟨_, (show PSs _ _ _ from hbody A outer s H E hr).nox, ?_⟩
  obtain ⟨hl, ds, Fz, fh, tt, r, h⟩ := h
  refine ⟨H, Fz, Fz, startD N.length ds, rv_start fh tt r, ?_⟩
  unfold runF at h
  cases q : fb (startD N.length ds) with
  | nx τ => rw [q] at h; exact fun σ F' H' ff RR => h .non F' H' RR.out (by simp only [Rep])
  | rt d => rw [q] at h; exact fun v F' H' x rr => h v F' H' x rr
  | bk τ => rw [q] at h; exact h.elim
  | ct τ => rw [q] at h; exact h.elim
  | ex c => rw [q] at h; exact h.elim
  | no => rw [q] at h; exact h.elim
  | rs c τ => rw [q] at h; exact h.elim
end
end FD
set_option Elab.async false
set_option linter.all false
set_option maxRecDepth 100000
namespace FD
open PySem PySem.Spec PyProof.Rows L2
variable [Tabs]
section
variable {X : Cx} {pos : Pos} {e a b : Expr} {es : List Expr} {fe fa fb : FE} {fs : FA}
def oIn : D → Option (Option Int)
  | .non => some none
  | .int i => some (some i)
  | _ => none
def oIns : List D → Option (List (Option Int))
  | [] => some []
  | d :: r => match oIn d, oIns r with
    | some o, some os => some (o :: os)
    | _, _ => none
def cnl : D → List D → Option (List (Option Int))
  | .lst xs, [.non] => oIns xs
  | _, _ => none
theorem cnl_eq {d : D} {ds : List D} {os : List (Option Int)} (h : cnl d ds = some os) : ∃ xs, d = .lst xs ∧ ds = [.non] ∧ oIns xs = some os := by
  unfold cnl at h
  split at h
  · exact ⟨_, rfl, rfl, h⟩
  · cases h
def isNoneV : Value → Bool
  | .none => true
  | _ => false
theorem oins_vals {K : PySem.W.Frag} {F : Hp} : ∀ {xs : List D} {os : List (Option Int)} {vs : List V} {us : List Value}, oIns xs = some os → Reps K F xs vs → Vals vs us → us.countP isNoneV = os.countP (·.isNone) ∧ ∀ y ∈ us, y = Value.none ∨ ∃ n t, y = Value.int n t
  | [], os, vs, us, h, r, v => by
    cases h
    simp only [Reps] at r; subst r
    cases v
    exact ⟨rfl, fun y hy => by cases hy⟩
  | d :: xs, os, vs, us, h, r, v => by
    simp only [oIns] at h
    cases q : oIn d with
    | none => rw [q] at h; cases h
    | some o =>
      cases q2 : oIns xs with
      | none => rw [q, q2] at h; cases h
      | some os' =>
        rw [q, q2] at h; cases h
        simp only [Reps] at r
        obtain ⟨w, ws, rfl, rw', rs⟩ := r
        cases v with
        | cons e t =>
          rename_i u us
          obtain ⟨i1, i2⟩ := oins_vals q2 rs t
          cases d <;> first | cases q | skip
          · simp only [Rep] at rw'; subst rw'
            have e : u = Value.none := e
            subst e
            exact ⟨by simp [List.countP_cons, i1, isNoneV], fun y hy => by
              rcases List.mem_cons.mp hy with z | z
              · exact .inl z
              · exact i2 y z⟩
          · simp only [Rep] at rw'; subst rw'
            obtain ⟨t', e⟩ : ∃ t', u = Value.int _ t' := e
            subst e
            exact ⟨by simp [List.countP_cons, i1, isNoneV], fun y hy => by
              rcases List.mem_cons.mp hy with z | z
              · exact .inr ⟨_, _, z⟩
              · exact i2 y z⟩
def cnnD (d : D) (ds : List D) : Rs D := match cnl d ds with
  | some os => .ok (.int (os.countP (·.isNone) : Nat))
  | none => .no
theorem mt_cnn : MtR X "list.count" (fun v vs H Q => ∃ l ws F xs os, v = .ref l ∧ vs = [.non] ∧ H l = some (.lst ws) ∧ Reps X.K F xs ws ∧ oIns xs = some os ∧ Q (.int (os.countP (·.isNone) : Nat)) H) := by
  intro pins s σ H v vs u us Q I r rs ⟨l, ws, F, xs, os, e1, e2, e3, t, hb, q⟩
  subst e1; subst e2
  cases r
  obtain ⟨u', rfl, ru⟩ := vals1 rs
  cases ru
  obtain ⟨_, its, n, rv, eo⟩ := I.hok l _ e3
  obtain ⟨c1, c2⟩ := oins_vals hb t rv
  refine call_meets PySem.F.slot_list_count ⟨_, eo, rfl⟩ PySem.F.entry_list_count (PySem.F.args_list_count_2 _ _) (SeqAt.list_countAt l its.toArray n none #[] Value.none isNoneV) ⟨eo, fun y hy => ?_, ?_⟩
  · rcases c2 y (by simpa using hy) with z | ⟨m, t', z⟩
    · subst z; exact SeqAt.EqAt.same _
    · subst z; exact SeqAt.EqAt.int_none m t'
  · have : List.countP isNoneV its.toArray.toList = os.countP (·.isNone) := by simpa using c1
    rw [this]
    exact ⟨.int _, H, I.tok _, ⟨_, rfl⟩, q⟩
theorem md_cnn : MtD X "list.count" cnnD := ⟨_, mt_cnn, fun F H v vs d ds Q fh r rs h => by
  unfold cnnD at h
  cases q : cnl d ds with
  | none => rw [q] at h; exact h.elim
  | some os =>
    rw [q] at h
    obtain ⟨xs, rfl, rfl, hb⟩ := cnl_eq q
    simp only [Rep] at r
    obtain ⟨l, ws, rfl, e, t⟩ := r
    obtain ⟨w, rfl, e2⟩ := rs.one
    simp only [Rep] at e2; subst e2
    exact ⟨l, ws, F, xs, os, rfl, rfl, fh _ _ e, t, hb, h _ F H (Ext.refl fh) (by simp only [Rep])⟩⟩
end
end FD
set_option Elab.async false
set_option linter.all false
namespace FD
open PySem PySem.Spec PyProof.Rows L2
section
variable {τ : DS} {fa fb fc fe fi : FE} {fs : FA} {op : D → D → Rs D} {d x y : D} {i j k : Int} {n m : Nat}
def getV : Option (Option Sl) → Rs D
  | some (some (.val d)) => .ok d
  | _ => .no
def getO : Option (Option Sl) → Rs (List D)
  | some (some (.own d)) => .ok d
  | _ => .no
@[simp] theorem getV_val : getV (some (some (.val d))) = .ok d := rfl
@[simp] theorem getO_own {ds : List D} : getO (some (some (.own ds))) = .ok ds := rfl
theorem eVar_ap : eVar n τ = getV τ[n]? := rfl
theorem ownAt_ap : ownAt τ n = getO τ[n]? := rfl
theorem eC_ap : eC d τ = .ok d := rfl
theorem eOp_ap : eOp op fa fb τ = (fa τ).bind fun x => (fb τ).bind fun y => op x y := rfl
theorem aNil_ap : aNil τ = .ok [] := rfl
theorem aCons_ap : aCons fa fs τ = (fa τ).bind fun x => (fs τ).bind fun r => .ok (x :: r) := rfl
theorem eLst_ap : eLst fs τ = (fs τ).bind fun ds => if ds.length ≤ sizeLine then .ok (.lst ds) else .no := rfl
theorem eTup_ap : eTup fs τ = (fs τ).bind fun ds => if ds.length ≤ sizeLine then .ok (.tup ds) else .no := rfl
theorem eCall_ap {g : List D → Rs D} : eCall g fs τ = (fs τ).bind fun ds => noEx (g ds) := rfl
theorem eBlt_ap {g : List D → Rs D} : eBlt g fs τ = (fs τ).bind g := rfl
theorem eIf_ap {g : FT} : eIf g fa fb τ = (g τ).bind fun b => if b = true then fa τ else fb τ := rfl
theorem eAnd_ap : eAnd fa fb τ = (fa τ).bind fun x => (truD x).bind fun b => if b = true then fb τ else .ok x := rfl
theorem eOr_ap : eOr fa fb τ = (fa τ).bind fun x => (truD x).bind fun b => if b = true then .ok x else fb τ := rfl
theorem eNot_ap : eNot fa τ = (fa τ).bind fun x => (truD x).bind fun b => .ok (.bl (!b)) := rfl
def boolOf : D → Rs Bool
  | .bl b => .ok b
  | _ => .no
@[simp] theorem boolOf_bl {b : Bool} : boolOf (.bl b) = .ok b := rfl
theorem tB_ap : FD.tB fe τ = (fe τ).bind boolOf := rfl
theorem tTru_ap : tTru fe τ = (fe τ).bind truD := rfl
theorem tAnd_ap {f g : FT} : tAndD f g τ = (f τ).bind fun b => if b = true then g τ else .ok false := rfl
theorem tOr_ap {f g : FT} : tOrD f g τ = (f τ).bind fun b => if b = true then .ok true else g τ := rfl
theorem tNot_ap {f : FT} : tNotD f τ = (f τ).bind fun b => .ok (!b) := rfl
theorem eMt0_ap {T : String} {g : D → List D → Rs D} : eMt0 T g fa τ = (fa τ).bind fun d => if isTy T d = true then g d [] else .no := rfl
theorem eMt_ap {T : String} {g : D → List D → Rs D} : eMt T g fa fs τ = (fa τ).bind fun d => if isTy T d = true then (fs τ).bind fun ds => g d ds else .no := rfl
theorem eSl_ap {fl fh : FO} : eSl fe fl fh τ = (fe τ).bind fun d => (fl τ).bind fun l => (fh τ).bind fun u => slD d l u := rfl
theorem oNone_ap : oNone τ = .ok none := rfl
def someInt : D → Rs (Option Int)
  | .int i => .ok (some i)
  | _ => .no
@[simp] theorem someInt_int : someInt (.int i) = .ok (some i) := rfl
theorem oSome_ap : oSome fe τ = (fe τ).bind someInt := rfl
def Fl.thn (r : Fl) (g : FS) : Fl := match r with
  | .nx τ => g τ
  | r => r
@[simp] theorem thn_nx {g : FS} : (Fl.nx τ).thn g = g τ := rfl
@[simp] theorem thn_rt {g : FS} : (Fl.rt d).thn g = .rt d := rfl
theorem sSeq_ap {f g : FS} : sSeq f g τ = (f τ).thn g := rfl
theorem sSet_ap : sSet n fe τ = Fl.of (fe τ) fun d => .nx (τ.set n (some (.val d))) := rfl
theorem sSetO_ap : sSetO n fs τ = Fl.of (fs τ) fun ds => .nx (τ.set n (some (.own ds))) := rfl
theorem sIf_ap {g : FT} {f h : FS} : sIf g f h τ = Fl.of (g τ) fun b => if b = true then f τ else h τ := rfl
theorem sRet_ap : sRet fe τ = Fl.of (fe τ) fun d => .rt d := rfl
theorem sRetO_ap : sRetO n τ = Fl.of (ownAt τ n) fun ds => .rt (.lst ds) := rfl
theorem sNext_ap : sNext τ = .nx τ := rfl
theorem sFor_ap {set : FG} {body : FS} : sFor fs set body τ = Fl.of (fs τ) fun ds => loopD set body ds τ := rfl
@[simp] theorem flRes_rt : flRes (.rt d) = .ok d := rfl
@[simp] theorem noEx_ok : noEx (.ok d) = .ok d := rfl
@[simp] theorem addD_i : addD (.int i) (.int j) = .ok (.int (i + j)) := rfl
theorem addD_s {a b : Str} (h : a.length + b.length ≤ sizeLine) : addD (.str a) (.str b) = .ok (.str (a ++ b)) := if_pos h
@[simp] theorem subD_i : subD (.int i) (.int j) = .ok (.int (i - j)) := rfl
theorem mulD_i (h : (-(18446744073709551616) < i ∧ i < 18446744073709551616) ∨ (-(18446744073709551616) < j ∧ j < 18446744073709551616)) : mulD (.int i) (.int j) = .ok (.int (i * j)) := if_pos h
theorem modD_i (h : 0 < j) : modD (.int i) (.int j) = .ok (.int (i % j)) := by
  show (if decide (0 < j) = true then _ else _) = _
  rw [if_pos (by simpa using h)]
theorem fdivD_i (h : 0 < j ∧ j < 1073741824) : fdivD (.int i) (.int j) = .ok (.int (i / j)) := by
  show (if decide (0 < j ∧ j < 1073741824) = true then _ else _) = _
  rw [if_pos (by simpa using h)]
@[simp] theorem ltI_i : ltI (.int i) (.int j) = .ok (.bl (decide (i < j))) := rfl
@[simp] theorem leD_i : leD (.int i) (.int j) = .ok (.bl (decide (i ≤ j))) := rfl
@[simp] theorem gtD_i : gtD (.int i) (.int j) = .ok (.bl (decide (j < i))) := rfl
@[simp] theorem geD_i : geD (.int i) (.int j) = .ok (.bl (decide (j ≤ i))) := rfl
@[simp] theorem eqD_i : eqD (.int i) (.int j) = .ok (.bl (i == j)) := rfl
@[simp] theorem eqD_s {a b : Str} : eqD (.str a) (.str b) = .ok (.bl (a == b)) := rfl
@[simp] theorem neD_i : neD (.int i) (.int j) = .ok (.bl (!(i == j))) := rfl
@[simp] theorem neD_s {a b : Str} : neD (.str a) (.str b) = .ok (.bl (!(a == b))) := rfl
@[simp] theorem inD_s {a b : Str} : inD (.str a) (.str b) = .ok (.bl (strIn a b)) := rfl
theorem strIn_one (c : Nat) (x : Str) : strIn ⟨#[c]⟩ x = decide (c ∈ x.cps.toList) := StrLaws.found_one x c
@[simp] theorem lenD_scr {ns : List Int} : lenD [.scr ns] = .ok (.int ns.length) := rfl
@[simp] theorem lenD_lst {ds : List D} : lenD [.lst ds] = .ok (.int ds.length) := rfl
theorem lenD_str {a : Str} (h : a.length ≤ sizeLine) : lenD [.str a] = .ok (.int a.length) := if_pos h
theorem ixD_scr {ns : List Int} {a : Int} (h : atI ns k = some a) : ixD (.scr ns) (.int k) = .ok (.int a) := by
  show (match atI ns k with | some d => Rs.ok (D.int d) | none => .no) = _
  rw [h]
theorem ixD_lst {ds : List D} {a : D} (h : atI ds k = some a) : ixD (.lst ds) (.int k) = .ok a := by
  show (match atI ds k with | some d => Rs.ok d | none => .no) = _
  rw [h]
theorem ixD_str {a : Str} {c : Nat} (h : atI a.cps.toList k = some c) (hz : a.length ≤ sizeLine) : ixD (.str a) (.int k) = .ok (signD c) := by
  show (match atI a.cps.toList k with | some c => if a.length ≤ sizeLine then Rs.ok (D.str ⟨#[c]⟩) else .no | none => .no) = _
  rw [h]
  exact if_pos hz
theorem atI_of {α : Type} {xs : List α} {a : α} (h0 : 0 ≤ k) (h : xs[k.toNat]? = some a) : atI xs k = some a := by
  have := atI_nat (j := k.toNat) h
  rwa [Int.toNat_of_nonneg h0] at this
@[simp] theorem truD_bl {b : Bool} : truD (.bl b) = .ok b := rfl
theorem truD_str {a : Str} (h : a.length ≤ sizeLine) : truD (.str a) = .ok ((a.length : Int) != 0) := if_pos h
theorem runF_ap {b : FS} {ds : List D} : runF n b ds = flRes (b (startD n ds)) := rfl
end
theorem eqvAll_nil (l : List PyData) : PyData.eqvAll l [] = l.isEmpty := by cases l <;> simp [PyData.eqvAll]
theorem okD_scr (ns : List Int) : okD (.scr ns) = true := by
  have c : ∀ l : List Int, PyData.canLayAll0 (l.map PyData.int) = true := fun l => by
    induction l with
    | nil => rfl
    | cons a r ih => simp [PyData.canLayAll0, PyData.canLay0, ih]
  have d : ∀ l : List Int, PyData.depthAll (l.map PyData.int) = 0 := fun l => by
    induction l with
    | nil => rfl
    | cons a r ih => simp [PyData.depthAll, PyData.depth, ih]
  simp [okD, plainD, toPy, PyData.canLay0, PyData.depth, c, d]
theorem eqD_scr_nil (ns : List Int) : eqD (.scr ns) (.lst []) = .ok (.bl ns.isEmpty) := by
  have o2 : okD (.lst []) = true := by decide
  have : eqvD (.scr ns) (.lst []) = ns.isEmpty := by
    simp only [eqvD, toPy, toPys, PyData.eqv, eqvAll_nil]
    cases ns <;> rfl
  simp only [eqD, okD_scr, o2, this, and_self, if_true]
end FD
set_option Elab.async false
set_option linter.all false
set_option maxRecDepth 100000
namespace Law
open PySem PySem.Spec PyProof.Rows L2 FD
instance tabs : FD.Tabs := ⟨[(87, 70, 28, ("in_order" : Str) ++ ".<locals>." ++ "<lambda>"), (127, 92, 67, ("by_bounds" : Str) ++ ".<locals>." ++ "<lambda>")]⟩
def b__law_cell : FS := (sSeq (sIf (tB (eOp eqD (eVar 0) (eLst aNil))) (sRet (eOp mulD (eC (.int 7)) (eVar 1))) sNext)
      (sRet (eOp addD (eOp ixD (eVar 0) (eOp modD (eVar 1) (eBlt lenD (aCons (eVar 0) aNil)))) (eOp mulD (eC (.int 6553)) (eOp fdivD (eVar 1) (eBlt lenD (aCons (eVar 0) aNil)))))))
def m__law_cell (ds : List D) : Rs D := runF 2 b__law_cell ds
def b__law_drawn : FS := (sSeq (sSet 3 (eOp modD (eOp addD (eOp mulD (eOp modD (eCall m__law_cell (aCons (eVar 0) (aCons (eVar 1) aNil))) (eC (.int 2147483563))) (eC (.int 69069))) (eOp mulD (eC (.int 104723)) (eOp addD (eVar 1) (eC (.int 1))))) (eC (.int 2147483563))))
      (sSeq (sSet 3 (eOp modD (eOp addD (eOp mulD (eVar 3) (eVar 3)) (eOp fdivD (eVar 3) (eC (.int 3)))) (eC (.int 2147483399))))
      (sRet (eOp modD (eOp fdivD (eOp modD (eOp addD (eOp mulD (eVar 3) (eVar 3)) (eOp fdivD (eVar 3) (eC (.int 7)))) (eC (.int 2147483647))) (eC (.int 11))) (eVar 2)))))
def m__law_drawn (ds : List D) : Rs D := runF 4 b__law_drawn ds
def b__law_name : FS := (sSeq (sSet 2 (eC (.str "")))
      (sSeq (sFor (iRg1 (aCons (eOp addD (eC (.int 1)) (eCall m__law_drawn (aCons (eVar 0) (aCons (eVar 1) (aCons (eC (.int 10)) aNil))))) aNil)) (gNm 3) (sSet 2 (eOp addD (eVar 2) (eOp ixD (eC (.str "abcabABCab1_-./xyz")) (eCall m__law_drawn (aCons (eVar 0) (aCons (eOp addD (eOp addD (eVar 1) (eC (.int 1))) (eVar 3)) (aCons (eC (.int 18)) aNil))))))))
      (sRet (eVar 2))))
def m__law_name (ds : List D) : Rs D := runF 4 b__law_name ds
def b__law_names : FS := (sSeq (sSetO 3 (eComp 1 [0, 1] (iRg1 (aCons (eCall m__law_drawn (aCons (eVar 0) (aCons (eVar 1) (aCons (eOp addD (eVar 2) (eC (.int 1))) aNil)))) aNil)) (gNm 0) (fun _ => .ok true) (eCall m__law_name (aCons (eVar 1) (aCons (eOp addD (eOp addD (eVar 2) (eC (.int 1))) (eOp mulD (eC (.int 12)) (eVar 0))) aNil)))))
      (sSeq (sIf (tAndD (tB (eOp gtD (eLenO 3) (eC (.int 1)))) (tB (eOp eqD (eCall m__law_drawn (aCons (eVar 0) (aCons (eOp addD (eVar 1) (eC (.int 12))) (aCons (eC (.int 5)) aNil)))) (eC (.int 0))))) (sPut 3 (eC (.int 0)) (eIxO 3 (eNeg (eC (.int 1))))) sNext)
      (sRetO 3)))
def m__law_names (ds : List D) : Rs D := runF 4 b__law_names ds
def b__law_mark : FS := (sRet (eOp inD (eVar 0) (eC (.str "_-./"))))
def m__law_mark (ds : List D) : Rs D := runF 1 b__law_mark ds
def b__law_query : FS := (sSeq (sSet 4 (eC (.str "")))
      (sSeq (sSet 5 (eC (.int 0)))
      (sSeq (sFor (iRg1 (aCons (eCall m__law_drawn (aCons (eVar 0) (aCons (eVar 1) (aCons (eOp addD (eVar 3) (eC (.int 1))) aNil)))) aNil)) (gNm 6) (sSeq (sSet 5 (eBlt min2D (aCons (eOp subD (eBlt lenD (aCons (eVar 2) aNil)) (eC (.int 1))) (aCons (eOp addD (eVar 5) (eCall m__law_drawn (aCons (eVar 0) (aCons (eOp addD (eOp addD (eVar 1) (eC (.int 1))) (eOp mulD (eC (.int 3)) (eVar 6))) (aCons (eC (.int 3)) aNil))))) aNil))))
      (sSeq (sSet 7 (eMt0 "str" loD (eOr (eSl (eVar 2) (oSome (eVar 5)) (oSome (eOp addD (eVar 5) (eC (.int 1))))) (eC (.str "a")))))
      (sSeq (sSet 5 (eOp addD (eVar 5) (eC (.int 1))))
      (sSeq (sIf (tB (eOp eqD (eCall m__law_drawn (aCons (eVar 0) (aCons (eOp addD (eOp addD (eVar 1) (eC (.int 2))) (eOp mulD (eC (.int 3)) (eVar 6))) (aCons (eC (.int 5)) aNil)))) (eC (.int 0)))) (sSet 7 (eOp ixD (eC (.str "abAB1c")) (eCall m__law_drawn (aCons (eVar 0) (aCons (eOp addD (eOp addD (eVar 1) (eC (.int 3))) (eOp mulD (eC (.int 3)) (eVar 6))) (aCons (eC (.int 6)) aNil)))))) sNext)
      (sIf (tNotD (tTru (eCall m__law_mark (aCons (eVar 7) aNil)))) (sSet 4 (eOp addD (eVar 4) (eVar 7))) sNext))))))
      (sRet (eVar 4)))))
def m__law_query (ds : List D) : Rs D := runF 8 b__law_query ds
def b_beginning_points : FS := (sSeq (sIf (tB (eOp eqD (eVar 1) (eC (.int 0)))) (sRet (eC (.int 8))) sNext)
      (sSeq (sSet 2 (eOp ixD (eVar 0) (eOp subD (eVar 1) (eC (.int 1)))))
      (sSeq (sIf (tB (eOp inD (eVar 2) (eC (.str "_-./")))) (sRet (eC (.int 6))) sNext)
      (sSeq (sIf (tAndD (tB (eOp inD (eOp ixD (eVar 0) (eVar 1)) (eC (.str "ABCDEFGHIJKLMNOPQRSTUVWXYZ")))) (tOrD (tB (eOp inD (eVar 2) (eC (.str "abcdefghijklmnopqrstuvwxyz")))) (tB (eOp inD (eVar 2) (eC (.str "0123456789")))))) (sRet (eC (.int 5))) sNext)
      (sRet (eC (.int 0)))))))
def m_beginning_points (ds : List D) : Rs D := runF 3 b_beginning_points ds
def b_own_points : FS := (sSeq (sSet 3 (eIf (tB (eOp eqD (eOp ixD (eVar 1) (eVar 2)) (eVar 0))) (eC (.int 1)) (eC (.int 0))))
      (sRet (eOp addD (eOp addD (eC (.int 10)) (eCall m_beginning_points (aCons (eVar 1) (aCons (eVar 2) aNil)))) (eVar 3))))
def m_own_points (ds : List D) : Rs D := runF 4 b_own_points ds
def b_meets : FS := (sRet (eOr (eOp eqD (eVar 0) (eVar 1)) (eAnd (eOp inD (eVar 0) (eC (.str "abcdefghijklmnopqrstuvwxyz"))) (eOp eqD (eMt0 "str" upD (eVar 0)) (eVar 1)))))
def m_meets (ds : List D) : Rs D := runF 2 b_meets ds
def b_most_of_sign : FS := (sRet (eMaxD (fun τ => ((eComp 1 [0, 1] (iRg1 (aCons (eBlt lenD (aCons (eVar 1) aNil)) aNil)) (gNm 0) (tTru (eCall m_meets (aCons (eVar 1) (aCons (eOp ixD (eVar 2) (eVar 0)) aNil)))) (eCall m_own_points (aCons (eVar 1) (aCons (eVar 2) (aCons (eVar 0) aNil))))) τ).bind fun ds => .ok (.lst ds)) (eC .non)))
def m_most_of_sign (ds : List D) : Rs D := runF 2 b_most_of_sign ds
def b_bound : FS := (sSeq (sSet 2 (eC (.int 0)))
      (sSeq (sFor (iEnS (aCons (eVar 0) aNil)) (gPr 3 4) (sSeq (sSet 5 (eCall m_most_of_sign (aCons (eVar 4) (aCons (eVar 1) aNil))))
      (sSeq (sIf (tB (eOp isD (eVar 5) (eC .non))) (sRet (eC .non)) sNext)
      (sSeq (sAug 2 (intOp0 fun i j => .int (i + j)) (eVar 5))
      (sIf (tB (eOp gtD (eVar 3) (eC (.int 0)))) (sAug 2 (intOp0 fun i j => .int (i + j)) (eC (.int 7))) sNext)))))
      (sRet (eVar 2))))
def m_bound (ds : List D) : Rs D := runF 6 b_bound ds
def b_last_sign_tails : FS := (sRet (fun τ => ((eComp 1 [0, 1] (iRg1 (aCons (eBlt lenD (aCons (eVar 1) aNil)) aNil)) (gNm 0) (tTru (eCall m_meets (aCons (eVar 1) (aCons (eOp ixD (eVar 2) (eVar 0)) aNil)))) (eTup (aCons (eCall m_own_points (aCons (eVar 1) (aCons (eVar 2) (aCons (eVar 0) aNil)))) (aCons (eLst (aCons (eVar 0) aNil)) aNil)))) τ).bind fun ds => .ok (.lst ds)))
def m_last_sign_tails (ds : List D) : Rs D := runF 2 b_last_sign_tails ds
def b_first_of_most : FS := (sSeq (sSet 1 (eC .non))
      (sSeq (sFor (iAny (eVar 0)) (gNm 2) (sIf (tOrD (tB (eOp isD (eVar 1) (eC .non))) (tB (eOp gtD (eOp ixD (eVar 2) (eC (.int 0))) (eOp ixD (eVar 1) (eC (.int 0)))))) (sSet 1 (eVar 2)) sNext))
      (sRet (eVar 1))))
def m_first_of_most (ds : List D) : Rs D := runF 3 b_first_of_most ds
def b_link_points : FS := (sSeq (sSet 2 (eOp subD (eOp subD (eVar 1) (eVar 0)) (eC (.int 1))))
      (sSeq (sIf (tB (eOp eqD (eVar 2) (eC (.int 0)))) (sRet (eC (.int 7))) sNext)
      (sRet (eNeg (eBlt min2D (aCons (eVar 2) (aCons (eC (.int 5)) aNil)))))))
def m_link_points (ds : List D) : Rs D := runF 3 b_link_points ds
def b_linked_tails : FS := (sRet (fun τ => ((eComp 1 [0] (iAny (eVar 1)) (gNm 0) (tB (eOp gtD (eOp ixD (eOp ixD (eVar 0) (eC (.int 1))) (eC (.int 0))) (eVar 1))) (eTup (aCons (eOp addD (eOp ixD (eVar 0) (eC (.int 0))) (eCall m_link_points (aCons (eVar 1) (aCons (eOp ixD (eOp ixD (eVar 0) (eC (.int 1))) (eC (.int 0))) aNil)))) (aCons (eOp ixD (eVar 0) (eC (.int 1))) aNil)))) τ).bind fun ds => .ok (.lst ds)))
def m_linked_tails (ds : List D) : Rs D := runF 2 b_linked_tails ds
def b_longer_tails : FS := (sSeq (sSetO 3 (fun τ => (aNil τ).bind fun ds => if ds.length ≤ sizeLine then .ok ds else .no))
      (sSeq (sFor (iRg1 (aCons (eBlt lenD (aCons (eVar 1) aNil)) aNil)) (gNm 4) (sIf (tTru (eCall m_meets (aCons (eVar 0) (aCons (eOp ixD (eVar 1) (eVar 4)) aNil)))) (sSeq (sSet 5 (eCall m_first_of_most (aCons (eCall m_linked_tails (aCons (eVar 4) (aCons (eVar 2) aNil))) aNil)))
      (sIf (tB (eOp isNotD (eVar 5) (eC .non))) (sApp 3 (eTup (aCons (eOp addD (eCall m_own_points (aCons (eVar 0) (aCons (eVar 1) (aCons (eVar 4) aNil)))) (eOp ixD (eVar 5) (eC (.int 0)))) (aCons (eOp addD (eLst (aCons (eVar 4) aNil)) (eOp ixD (eVar 5) (eC (.int 1)))) aNil)))) sNext)) sNext))
      (sRetO 3)))
def m_longer_tails (ds : List D) : Rs D := runF 6 b_longer_tails ds
def b_lead_points : FS := (sRet (eNeg (eBlt min2D (aCons (eVar 0) (aCons (eC (.int 3)) aNil)))))
def m_lead_points (ds : List D) : Rs D := runF 1 b_lead_points ds
def b_best : FS := (sSeq (sIf (tB (eOp eqD (eBlt lenD (aCons (eVar 0) aNil)) (eC (.int 0)))) (sRet (eTup (aCons (eC (.int 0)) (aCons (eLst aNil) aNil)))) sNext)
      (sSeq (sSet 2 (eCall m_last_sign_tails (aCons (eOp ixD (eVar 0) (eNeg (eC (.int 1)))) (aCons (eVar 1) aNil))))
      (sSeq (sFor (iRg3 (aCons (eOp subD (eBlt lenD (aCons (eVar 0) aNil)) (eC (.int 2))) (aCons (eNeg (eC (.int 1))) (aCons (eNeg (eC (.int 1))) aNil)))) (gNm 3) (sSet 2 (eCall m_longer_tails (aCons (eOp ixD (eVar 0) (eVar 3)) (aCons (eVar 1) (aCons (eVar 2) aNil))))))
      (sRet (eCall m_first_of_most (aCons (fun τ => ((eComp 1 [] (iAny (eVar 2)) (gNm 0) (fun _ => .ok true) (eTup (aCons (eOp addD (eOp ixD (eVar 0) (eC (.int 0))) (eCall m_lead_points (aCons (eOp ixD (eOp ixD (eVar 0) (eC (.int 1))) (eC (.int 0))) aNil))) (aCons (eOp ixD (eVar 0) (eC (.int 1))) aNil)))) τ).bind fun ds => .ok (.lst ds)) aNil))))))
def m_best (ds : List D) : Rs D := runF 4 b_best ds
def b_by_bounds : FS := (sSeq (sSet 2 fun τ => ((eComp 2 [1] (iEn (aCons (eVar 0) aNil)) (gPr 0 1) (fun _ => .ok true) (eTup (aCons (eCall m_bound (aCons (eVar 2) (aCons (eVar 1) aNil))) (aCons (eVar 0) aNil)))) τ).bind fun ds => .ok (.lst ds))
      (sRet (eSortK [] (fun τ => ((eComp 1 [] (iAny (eVar 2)) (gNm 0) (tB (eOp isNotD (eOp ixD (eVar 0) (eC (.int 0))) (eC .non))) (eVar 0)) τ).bind fun ds => .ok (.lst ds)) (eTup (aCons (eNeg (eOp ixD (eVar 0) (eC (.int 0)))) (aCons (eOp ixD (eVar 0) (eC (.int 1))) aNil))))))
def m_by_bounds (ds : List D) : Rs D := runF 3 b_by_bounds ds
def b_are_enough : FS := (sRet (eOp geD (eBlt lenD (aCons (fun τ => ((eComp 1 [2] (iAny (eVar 0)) (gNm 0) (tB (eOp gtD (eOp ixD (eVar 0) (eC (.int 0))) (eVar 1))) (eVar 0)) τ).bind fun ds => .ok (.lst ds)) aNil)) (eVar 1)))
def m_are_enough (ds : List D) : Rs D := runF 3 b_are_enough ds
def b_in_order : FS := (sRet (eSortK [0] (eVar 1) (eTup (aCons (eNeg (eOp ixD (eVar 0) (eC (.int 0)))) (aCons (eBlt lenD (aCons (eOp ixD (eVar 1) (eOp ixD (eVar 0) (eC (.int 1)))) aNil)) (aCons (eOp ixD (eVar 0) (eC (.int 1))) aNil))))))
def m_in_order (ds : List D) : Rs D := runF 2 b_in_order ds
def b_first_rows : FS := (sRet (eSl (eCall m_in_order (aCons (eVar 0) (aCons (eVar 1) aNil))) oNone (oSome (eBlt max2D (aCons (eVar 2) (aCons (eC (.int 0)) aNil))))))
def m_first_rows (ds : List D) : Rs D := runF 3 b_first_rows ds
def b_fitting_rows : FS := (sSeq (sSetO 3 (fun τ => (aNil τ).bind fun ds => if ds.length ≤ sizeLine then .ok ds else .no))
      (sSeq (sFor (iAny (eVar 2)) (gNm 4) (sSeq (sSet 5 (eCall m_best (aCons (eVar 1) (aCons (eOp ixD (eVar 0) (eVar 4)) aNil))))
      (sIf (tB (eOp isNotD (eVar 5) (eC .non))) (sApp 3 (eTup (aCons (eOp ixD (eVar 5) (eC (.int 0))) (aCons (eVar 4) aNil)))) sNext)))
      (sRetO 3)))
def m_fitting_rows (ds : List D) : Rs D := runF 6 b_fitting_rows ds
def b_found_by_bound : FS := (sSeq (sSetO 3 (fun τ => (aNil τ).bind fun ds => if ds.length ≤ sizeLine then .ok ds else .no))
      (sSeq (sSet 4 (eC (.int 0)))
      (sSeq (sFor (iAny (eCall m_by_bounds (aCons (eVar 0) (aCons (eVar 1) aNil)))) (gPr 5 6) (sSeq (sIf (tTru (eFz (eCall m_are_enough (aCons (eVar 3) (aCons (eVar 2) (aCons (eVar 5) aNil)))))) sBreak sNext)
      (sSeq (sExt 3 (eCall m_fitting_rows (aCons (eVar 0) (aCons (eVar 1) (aCons (eLst (aCons (eVar 6) aNil)) aNil)))))
      (sAug 4 (intOp0 fun i j => .int (i + j)) (eC (.int 1))))))
      (fun τ => sRet (eTup (aCons (eCall m_first_rows (aCons (eVar 0) (aCons (eVar 3) (aCons (eVar 2) aNil)))) (aCons (eVar 4) aNil))) (frzT τ)))))
def m_found_by_bound (ds : List D) : Rs D := runF 7 b_found_by_bound ds
def b_all_rows : FS := (sRet (eCall m_fitting_rows (aCons (eVar 0) (aCons (eVar 1) (aCons (fun τ => ((lstRg (iRg1 (aCons (eBlt lenD (aCons (eVar 0) aNil)) aNil))) τ).bind fun ds => .ok (.lst ds)) aNil)))))
def m_all_rows (ds : List D) : Rs D := runF 2 b_all_rows ds
def b_finds : FS := (sRet (eCall m_first_rows (aCons (eVar 0) (aCons (eCall m_all_rows (aCons (eVar 0) (aCons (eVar 1) aNil))) (aCons (eVar 2) aNil)))))
def m_finds (ds : List D) : Rs D := runF 3 b_finds ds
def b_law : FS := (sSeq (sSet 1 (eCall m__law_names (aCons (eVar 0) (aCons (eC (.int 0)) (aCons (eC (.int 5)) aNil)))))
      (sSeq (sSet 2 (eCall m__law_query (aCons (eVar 0) (aCons (eC (.int 80)) (aCons (eOp ixD (eOp addD (eVar 1) (eLst (aCons (eC (.str "abc")) aNil))) (eCall m__law_drawn (aCons (eVar 0) (aCons (eC (.int 79)) (aCons (eOp addD (eBlt lenD (aCons (eVar 1) aNil)) (eC (.int 1))) aNil))))) (aCons (eC (.int 4)) aNil))))))
      (sSeq (sSet 3 fun τ => ((eComp 1 [2] (iAny (eVar 1)) (gNm 0) (fun _ => .ok true) (eCall m_bound (aCons (eVar 1) (aCons (eVar 0) aNil)))) τ).bind fun ds => .ok (.lst ds))
      (sSeq (sFor (iZpL (aCons (eVar 1) (aCons (eVar 3) aNil))) (gPr 4 5) (sSeq (sSet 6 (eCall m_best (aCons (eVar 2) (aCons (eVar 4) aNil))))
      (sIf (tAndD (tB (eOp isNotD (eVar 6) (eC .non))) (tOrD (tB (eOp isD (eVar 5) (eC .non))) (tB (eOp ltI (eVar 5) (eOp ixD (eVar 6) (eC (.int 0))))))) (sRet (eC (.bl false))) sNext)))
      (sSeq (sSet 7 (eC (.int 0)))
      (sSeq (sFor (iRg1 (aCons (eC (.int 7)) aNil)) (gNm 8) (sSeq (sTup (gPr 6 9) (eCall m_found_by_bound (aCons (eVar 1) (aCons (eVar 2) (aCons (eVar 8) aNil)))))
      (sSeq (sIf (tOrD (tB (eOp neD (eVar 6) (eCall m_finds (aCons (eVar 1) (aCons (eVar 2) (aCons (eVar 8) aNil)))))) (tNotD (tB (eChain leD leD (eVar 7) (eVar 9) (eOp subD (eBlt lenD (aCons (eVar 1) aNil)) (eMt "list" cnnD (eVar 3) (aCons (eC .non) aNil))))))) (sRet (eC (.bl false))) sNext)
      (sSeq (sIf (tOrD (tB (eOp ltI (eVar 9) (eBlt lenD (aCons (eVar 6) aNil)))) (tAndD (tB (eOp eqD (eVar 8) (eC (.int 0)))) (tB (eOp neD (eVar 9) (eC (.int 0)))))) (sRet (eC (.bl false))) sNext)
      (sSet 7 (eVar 9))))))
      (sRet (eOr (eOp neD (eVar 2) (eC (.str ""))) (eOp eqD (eVar 3) (eOp mulD (eLst (aCons (eC (.int 0)) aNil)) (eBlt lenD (aCons (eVar 1) aNil))))))))))))
def m_law (ds : List D) : Rs D := runF 10 b_law ds
end Law
set_option Elab.async false
set_option linter.all false
namespace Law
open PySem PySem.Spec PyProof.Rows L2 FD
def cellZ (ns : List Int) (k : Int) : Int := if ns = [] then 7 * k else ns.getD (k % ns.length).toNat 0 + 6553 * (k / ns.length)
theorem sizeLine_v : sizeLine = 16777216 := sizeLine_eq
theorem cell_ok (ns : List Int) (k : Int) (h63 : ns.length ≤ 63) (h0 : 0 ≤ k) : m__law_cell [.scr ns, .int k] = .ok (.int (cellZ ns k)) := by
  have st : startD 2 [D.scr ns, .int k] = [some (.val (.scr ns)), some (.val (.int k))] := rfl
  unfold m__law_cell b__law_cell
  rw [runF_ap, st]
  simp only [sSeq_ap, sIf_ap, tB_ap, eOp_ap, eVar_ap, eLst_ap, aNil_ap, List.getElem?_cons_zero, List.getElem?_cons_succ, getV_val, Rs.bind_ok, List.length_nil, Nat.zero_le, if_true, eqD_scr_nil, boolOf_bl, Fl.of_ok]
  cases ns with
  | nil =>
    simp only [List.isEmpty_nil, if_true, sRet_ap, eOp_ap, eC_ap, eVar_ap, List.getElem?_cons_zero, List.getElem?_cons_succ, getV_val, Rs.bind_ok, mulD_i (i := 7) (j := k) (.inl ⟨by decide, by decide⟩), Fl.of_ok, thn_rt, flRes_rt, cellZ]
  | cons a r =>
    have hl : (0 : Int) < ((a :: r).length : Int) := by simp only [List.length_cons]; omega
    have hm0 := Int.emod_nonneg k (show ((a :: r).length : Int) ≠ 0 by omega)
    have hm1 := Int.emod_lt_of_pos k hl
    have hat : atI (a :: r) (k % ((a :: r).length : Int)) = some ((a :: r).getD (k % ((a :: r).length : Int)).toNat 0) := by
      refine atI_of hm0 ?_
      have : (k % ((a :: r).length : Int)).toNat < (a :: r).length := by omega
      rw [List.getD_eq_getElem?_getD, List.getElem?_eq_getElem this]; rfl
    have hdv : fdivD (.int k) (.int ((a :: r).length : Int)) = .ok (.int (k / ((a :: r).length : Int))) := fdivD_i ⟨hl, by omega⟩
    have hmd : modD (.int k) (.int ((a :: r).length : Int)) = .ok (.int (k % ((a :: r).length : Int))) := modD_i hl
    have hml := mulD_i (i := 6553) (j := k / ((a :: r).length : Int)) (.inl ⟨by decide, by decide⟩)
    simp only [List.isEmpty_cons, Bool.false_eq_true, if_false, sNext_ap, thn_nx, sRet_ap, eOp_ap, eC_ap, eVar_ap, eBlt_ap, aCons_ap, aNil_ap, List.getElem?_cons_zero, List.getElem?_cons_succ, getV_val, Rs.bind_ok, lenD_scr, hmd, hdv, hml, ixD_scr hat, addD_i, Fl.of_ok, flRes_rt]
    simp [cellZ]
def d1 (ns : List Int) (k : Int) : Int := (cellZ ns k % 2147483563 * 69069 + 104723 * (k + 1)) % 2147483563
def d2 (ns : List Int) (k : Int) : Int := (d1 ns k * d1 ns k + d1 ns k / 3) % 2147483399
def drawZ (ns : List Int) (k m : Int) : Int := (d2 ns k * d2 ns k + d2 ns k / 7) % 2147483647 / 11 % m
theorem draw_ok (ns : List Int) (k m : Int) (h63 : ns.length ≤ 63) (h0 : 0 ≤ k) (hk : k < 1000000) (hm : 0 < m) : m__law_drawn [.scr ns, .int k, .int m] = .ok (.int (drawZ ns k m)) := by
  have st : startD 4 [D.scr ns, .int k, .int m] = [some (.val (.scr ns)), some (.val (.int k)), some (.val (.int m)), none] := rfl
  have b1 : 0 ≤ d1 ns k ∧ d1 ns k < 2147483563 := ⟨Int.emod_nonneg _ (by decide), Int.emod_lt_of_pos _ (by decide)⟩
  have b2 : 0 ≤ d2 ns k ∧ d2 ns k < 2147483399 := ⟨Int.emod_nonneg _ (by decide), Int.emod_lt_of_pos _ (by decide)⟩
  have c0 := Int.emod_lt_of_pos (cellZ ns k) (show (0 : Int) < 2147483563 by decide)
  have c1 := Int.emod_nonneg (cellZ ns k) (show (2147483563 : Int) ≠ 0 by decide)
  have q1 := mulD_i (i := cellZ ns k % 2147483563) (j := 69069) (.inr ⟨by decide, by decide⟩)
  have q2 := mulD_i (i := 104723) (j := k + 1) (.inl ⟨by decide, by decide⟩)
  have q3 := mulD_i (i := d1 ns k) (j := d1 ns k) (.inl ⟨by omega, by omega⟩)
  have q4 := mulD_i (i := d2 ns k) (j := d2 ns k) (.inl ⟨by omega, by omega⟩)
  have e1 : (cellZ ns k % 2147483563 * 69069 + 104723 * (k + 1)) % 2147483563 = d1 ns k := rfl
  have e2 : (d1 ns k * d1 ns k + d1 ns k / 3) % 2147483399 = d2 ns k := rfl
  have m1 := fun i => modD_i (i := i) (j := 2147483563) (by decide)
  have m2 := fun i => modD_i (i := i) (j := 2147483399) (by decide)
  have m3 := fun i => modD_i (i := i) (j := 2147483647) (by decide)
  have m4 := fun i => modD_i (i := i) (j := m) hm
  have f3 := fun i => fdivD_i (i := i) (j := 3) ⟨by decide, by decide⟩
  have f7 := fun i => fdivD_i (i := i) (j := 7) ⟨by decide, by decide⟩
  have f11 := fun i => fdivD_i (i := i) (j := 11) ⟨by decide, by decide⟩
  unfold m__law_drawn b__law_drawn
  rw [runF_ap, st]
  simp only [sSeq_ap, sSet_ap, sRet_ap, eOp_ap, eVar_ap, eC_ap, eCall_ap, aCons_ap, aNil_ap, List.getElem?_cons_zero, List.getElem?_cons_succ, getV_val, Rs.bind_ok, cell_ok ns k h63 h0, noEx_ok, m1, q1, addD_i, q2, e1, Fl.of_ok, thn_nx, List.set_cons_succ, List.set_cons_zero, q3, f3, m2, e2, q4, f7, m3, f11, m4, flRes_rt]
  rfl
theorem draw_lt (ns : List Int) (k : Int) {m : Int} (hm : 0 < m) : 0 ≤ drawZ ns k m ∧ drawZ ns k m < m := ⟨Int.emod_nonneg _ (by omega), Int.emod_lt_of_pos _ hm⟩
end Law
set_option Elab.async false
set_option linter.all false
namespace FD
open PySem PySem.Spec PyProof.Rows L2
theorem loop_from {set : FG} {body : FS} (f : Nat → D) (S : Nat → DS) : ∀ (m j : Nat), (∀ k, j ≤ k → k < j + m → ∃ τ1, set (f k) (S k) = .ok τ1 ∧ body τ1 = .nx (S (k + 1))) → loopD set body ((List.range' j m).map f) (S j) = .nx (S (j + m))
  | 0, j, _ => rfl
  | m + 1, j, h => by
    obtain ⟨τ1, h1, h2⟩ := h j (Nat.le_refl _) (by omega)
    rw [List.range'_succ, List.map_cons, loopD, h1, Fl.of_ok]
    simp only [h2]
    rw [loop_from f S m (j + 1) fun k hk hk2 => h k (by omega) (by omega)]
    congr 2; omega
theorem loop_range {set : FG} {body : FS} (f : Nat → D) (S : Nat → DS) (n : Nat) (h : ∀ k, k < n → ∃ τ1, set (f k) (S k) = .ok τ1 ∧ body τ1 = .nx (S (k + 1))) : loopD set body ((List.range n).map f) (S 0) = .nx (S n) := by
  have := loop_from f S n 0 fun k _ hk => h k (by omega)
  rw [Nat.zero_add] at this
  rwa [List.range_eq_range']
theorem rg1_ok {fs : FA} {τ : DS} {j : Int} (h : fs τ = .ok [.int j]) (h1 : -(2 ^ 62) ≤ j) (h2 : j < 2 ^ 62) : iRg1 fs τ = .ok (rngD 0 j.toNat) := by
  unfold iRg1
  rw [h]
  simp only [Rs.bind_ok, int1]
  rw [if_pos ⟨h1, h2⟩]
theorem str_app (a : List Nat) (c : Nat) : (⟨a.toArray⟩ : Str) ++ (⟨#[c]⟩ : Str) = ⟨(a ++ [c]).toArray⟩ := by
  show Str.mk _ = _
  simp
theorem gNm_ap {n : Nat} {d : D} {τ : DS} : gNm n d τ = .ok (τ.set n (some (.val d))) := rfl
end FD
namespace Law
open PySem PySem.Spec PyProof.Rows L2 FD
def A18 : List Nat := [97, 98, 99, 97, 98, 65, 66, 67, 97, 98, 49, 95, 45, 46, 47, 120, 121, 122]
def nameN (ns : List Int) (a : Int) : Nat := (1 + drawZ ns a 10).toNat
def nameC (ns : List Int) (a : Int) (k : Nat) : Nat := A18.getD (drawZ ns (a + 1 + k) 18).toNat 0
def nameL (ns : List Int) (a : Int) (n : Nat) : List Nat := (List.range n).map (nameC ns a)
theorem a18 : ("abcabABCab1_-./xyz" : Str).cps.toList = A18 := by decide +kernel
theorem name_ok (ns : List Int) (a : Int) (h63 : ns.length ≤ 63) (h0 : 0 ≤ a) (ha : a < 900000) : m__law_name [.scr ns, .int a] = .ok (.str ⟨(nameL ns a (nameN ns a)).toArray⟩) := by
  have st : startD 4 [D.scr ns, .int a] = [some (.val (.scr ns)), some (.val (.int a)), none, none] := rfl
  have dl := draw_lt ns a (m := 10) (by decide)
  unfold m__law_name b__law_name
  rw [runF_ap, st, sSeq_ap, sSet_ap, eC_ap, Fl.of_ok, thn_nx, sSeq_ap, sFor_ap]
  have r1 := rg1_ok (fs := aCons (eOp addD (eC (.int 1)) (eCall m__law_drawn (aCons (eVar 0) (aCons (eVar 1) (aCons (eC (.int 10)) aNil))))) aNil) (τ := [some (.val (.scr ns)), some (.val (.int a)), some (.val (.str "")), none]) (j := 1 + drawZ ns a 10)
    (by simp only [aCons_ap, aNil_ap, eOp_ap, eC_ap, eCall_ap, eVar_ap, List.getElem?_cons_zero, List.getElem?_cons_succ, getV_val, Rs.bind_ok, draw_ok ns a 10 h63 h0 (by omega) (by decide), noEx_ok, addD_i]) (by omega) (by omega)
  simp only [List.set_cons_succ, List.set_cons_zero]
  rw [r1, Fl.of_ok]
  let S : Nat → DS := fun k => [some (.val (.scr ns)), some (.val (.int a)), some (.val (.str ⟨(nameL ns a k).toArray⟩)), if k = 0 then none else some (.val (.int ((k : Int) - 1)))]
  have s0 : S 0 = [some (.val (.scr ns)), some (.val (.int a)), some (.val (.str "")), none] := by
    simp only [S, nameL, List.range_zero, List.map_nil, if_true]
    rfl
  rw [← s0]
  have lp := loop_range (set := gNm 3) (body := (sSet 2 (eOp addD (eVar 2) (eOp ixD (eC (.str "abcabABCab1_-./xyz")) (eCall m__law_drawn (aCons (eVar 0) (aCons (eOp addD (eOp addD (eVar 1) (eC (.int 1))) (eVar 3)) (aCons (eC (.int 18)) aNil)))))))) (fun (k : Nat) => D.int (0 + k)) S (1 + drawZ ns a 10).toNat fun k hk => by
    refine ⟨_, gNm_ap, ?_⟩
    have hk' : (k : Int) < 20 := by omega
    have dk := draw_lt ns (a + 1 + (0 + (k : Int))) (m := 18) (by decide)
    have hd := draw_ok ns (a + 1 + (0 + (k : Int))) 18 h63 (by omega) (by omega) (by decide)
    have hix := ixD_str (a := "abcabABCab1_-./xyz") (k := drawZ ns (a + 1 + (0 + (k : Int))) 18) (c := A18.getD (drawZ ns (a + 1 + (0 + (k : Int))) 18).toNat 0) (atI_of dk.1 (by
      rw [a18]
      have : (drawZ ns (a + 1 + (0 + (k : Int))) 18).toNat < A18.length := by
        have : A18.length = 18 := rfl
        omega
      rw [List.getD_eq_getElem?_getD, List.getElem?_eq_getElem this]; rfl)) (by decide +kernel)
    have hadd := addD_s (a := ⟨(nameL ns a k).toArray⟩) (b := ⟨#[A18.getD (drawZ ns (a + 1 + (0 + (k : Int))) 18).toNat 0]⟩) (by
      show (nameL ns a k).toArray.size + 1 ≤ sizeLine
      rw [sizeLine_v, List.size_toArray]
      simp only [nameL, List.length_map, List.length_range]; omega)
    simp only [S, List.set_cons_succ, List.set_cons_zero, sSet_ap, eOp_ap, eC_ap, eCall_ap, aCons_ap, aNil_ap, eVar_ap, List.getElem?_cons_zero, List.getElem?_cons_succ, getV_val, Rs.bind_ok, addD_i, hd, noEx_ok, hix, signD, hadd, Fl.of_ok, str_app]
    have e1 : nameL ns a k ++ [A18.getD (drawZ ns (a + 1 + (0 + (k : Int))) 18).toNat 0] = nameL ns a (k + 1) := by
      simp only [nameL, List.range_succ, List.map_append, List.map_cons, List.map_nil, nameC, Int.zero_add]
    rw [e1]
    simp
  unfold rngD
  rw [lp, thn_nx]
  simp only [S, sRet_ap, eVar_ap, List.getElem?_cons_zero, List.getElem?_cons_succ, getV_val, Fl.of_ok, flRes_rt]
  rfl
end Law
set_option Elab.async false
set_option linter.all false
namespace FD
open PySem PySem.Spec PyProof.Rows L2
theorem loop_inv {set : FG} {body : FS} (f : Nat → D) (I : Nat → DS → Prop) : ∀ (m j : Nat) (τ : DS), I j τ → (∀ k τ, j ≤ k → k < j + m → I k τ → ∃ τ1 τ2, set (f k) τ = .ok τ1 ∧ body τ1 = .nx τ2 ∧ I (k + 1) τ2) → ∃ τ', loopD set body ((List.range' j m).map f) τ = .nx τ' ∧ I (j + m) τ'
  | 0, j, τ, h, _ => ⟨τ, rfl, h⟩
  | m + 1, j, τ, h, hs => by
    obtain ⟨τ1, τ2, h1, h2, h3⟩ := hs j τ (Nat.le_refl _) (by omega) h
    obtain ⟨τ', h4, h5⟩ := loop_inv f I m (j + 1) τ2 h3 fun k τ hk hk2 => hs k τ (by omega) (by omega)
    refine ⟨τ', ?_, by rw [show j + (m + 1) = j + 1 + m by omega]; exact h5⟩
    rw [List.range'_succ, List.map_cons, loopD, h1, Fl.of_ok]
    simp only [h2, h4]
theorem loop_inv0 {set : FG} {body : FS} (f : Nat → D) (I : Nat → DS → Prop) (n : Nat) (τ : DS) (h0 : I 0 τ) (h : ∀ k τ, k < n → I k τ → ∃ τ1 τ2, set (f k) τ = .ok τ1 ∧ body τ1 = .nx τ2 ∧ I (k + 1) τ2) : ∃ τ', loopD set body ((List.range n).map f) τ = .nx τ' ∧ I n τ' := by
  obtain ⟨τ', h1, h2⟩ := loop_inv f I n 0 τ h0 fun k τ _ hk hi => h k τ (by omega) hi
  rw [Nat.zero_add] at h2
  exact ⟨τ', by rw [List.range_eq_range']; exact h1, h2⟩
end FD
namespace Law
open PySem PySem.Spec PyProof.Rows L2 FD
def QS : List Nat := [97, 98, 99, 120, 121, 122, 65, 66, 49]
def MK : List Nat := [95, 45, 46, 47]
theorem mk_l : ("_-./" : Str).cps.toList = MK := by decide +kernel
theorem mark_ok (c : Nat) : m__law_mark [signD c] = .ok (.bl (decide (c ∈ MK))) := by
  have st : startD 1 [signD c] = [some (.val (signD c))] := rfl
  unfold m__law_mark b__law_mark
  rw [runF_ap, st]
  simp only [sRet_ap, eOp_ap, eVar_ap, eC_ap, List.getElem?_cons_zero, getV_val, Rs.bind_ok, signD, inD_s, strIn_one, mk_l, Fl.of_ok, flRes_rt]
theorem slice_ss (x : List Nat) {i j : Int} (h0 : 0 ≤ i) (h1 : i ≤ j) (h2 : j ≤ x.length) : Txt.slice (⟨x.toArray⟩ : Str) (some i) (some j) = ⟨((x.drop i.toNat).take (j - i).toNat).toArray⟩ := by
  have := slice_closesL (x := ⟨x.toArray⟩) (i := i) (j := j) h0 h1 (by show j ≤ ((x.toArray.size : Nat) : Int); simpa using h2)
  exact eq_of_beq this
theorem slice_one (x : List Nat) (p : Nat) (hp : p < x.length) : Txt.slice (⟨x.toArray⟩ : Str) (some (p : Int)) (some ((p : Int) + 1)) = ⟨#[x[p]]⟩ := by
  rw [slice_ss x (by omega) (by omega) (by omega)]
  have e1 : ((p : Int) + 1 - (p : Int)).toNat = 1 := by omega
  have e2 : ((p : Int)).toNat = p := by omega
  rw [e1, e2, List.drop_eq_getElem_cons hp]
  rfl
theorem lower_one (c : Nat) (h : c < 128) : Txt.lower (⟨#[c]⟩ : Str) = ⟨#[lo1 c]⟩ := by
  rw [lower_ascii (x := ⟨#[c]⟩) (by intro d hd; have e : d = c := (by simpa using hd); omega)]
  simp
def NS : List Nat := [97, 98, 99, 65, 66, 67, 49, 95, 45, 46, 47, 120, 121, 122]
theorem name_sign (ns : List Int) (a : Int) (k : Nat) (h : 0 ≤ a + 1 + k) : nameC ns a k ∈ NS := by
  have d := draw_lt ns (a + 1 + k) (m := 18) (by decide)
  have hall : ∀ n, n < 18 → A18.getD n 0 ∈ NS := by decide
  exact hall _ (by omega)
def S6 : List Nat := [97, 98, 65, 66, 49, 99]
theorem s6_l : ("abAB1c" : Str).cps.toList = S6 := by decide +kernel
theorem lo_sign : ∀ c ∈ NS, c < 128 ∧ (lo1 c ∈ QS ∨ lo1 c ∈ MK) := by decide
theorem s6_sign : ∀ n, n < 6 → S6.getD n 0 ∈ QS := by decide
end Law
set_option Elab.async false
set_option linter.all false
set_option maxHeartbeats 1000000
namespace Law
open PySem PySem.Spec PyProof.Rows L2 FD
def qBody : FS := (sSeq (sSet 5 (eBlt min2D (aCons (eOp subD (eBlt lenD (aCons (eVar 2) aNil)) (eC (.int 1))) (aCons (eOp addD (eVar 5) (eCall m__law_drawn (aCons (eVar 0) (aCons (eOp addD (eOp addD (eVar 1) (eC (.int 1))) (eOp mulD (eC (.int 3)) (eVar 6))) (aCons (eC (.int 3)) aNil))))) aNil))))
      (sSeq (sSet 7 (eMt0 "str" loD (eOr (eSl (eVar 2) (oSome (eVar 5)) (oSome (eOp addD (eVar 5) (eC (.int 1))))) (eC (.str "a")))))
      (sSeq (sSet 5 (eOp addD (eVar 5) (eC (.int 1))))
      (sSeq (sIf (FD.tB (eOp eqD (eCall m__law_drawn (aCons (eVar 0) (aCons (eOp addD (eOp addD (eVar 1) (eC (.int 2))) (eOp mulD (eC (.int 3)) (eVar 6))) (aCons (eC (.int 5)) aNil)))) (eC (.int 0)))) (sSet 7 (eOp ixD (eC (.str "abAB1c")) (eCall m__law_drawn (aCons (eVar 0) (aCons (eOp addD (eOp addD (eVar 1) (eC (.int 3))) (eOp mulD (eC (.int 3)) (eVar 6))) (aCons (eC (.int 6)) aNil)))))) sNext)
      (sIf (tNotD (tTru (eCall m__law_mark (aCons (eVar 7) aNil)))) (sSet 4 (eOp addD (eVar 4) (eVar 7))) sNext)))))
def qSt (ns : List Int) (a : Int) (x : List Nat) (most : Int) (q : List Nat) (p : Int) (s1 s2 : Option Sl) : DS :=
  [some (.val (.scr ns)), some (.val (.int a)), some (.val (.str ⟨x.toArray⟩)), some (.val (.int most)), some (.val (.str ⟨q.toArray⟩)), some (.val (.int p)), s1, s2]
theorem query_step (ns : List Int) (a : Int) (x : List Nat) (most : Int) (q : List Nat) (p : Int) (k : Nat) (s2 : Option Sl) (h63 : ns.length ≤ 63) (h0 : 0 ≤ a) (ha : a < 900000) (hk : k < 100) (hx0 : 0 < x.length) (hx1 : x.length ≤ 100) (hx : ∀ c ∈ x, c ∈ NS) (hq : q.length ≤ 100) (hqs : ∀ c ∈ q, c ∈ QS) (hp : 0 ≤ p) :
    ∃ q' p' s', qBody (qSt ns a x most q p (some (.val (.int (0 + k)))) s2) = .nx (qSt ns a x most q' p' (some (.val (.int (0 + k)))) s') ∧ q'.length ≤ q.length + 1 ∧ (∀ c ∈ q', c ∈ QS) ∧ 0 ≤ p' := by
  have hl : ((⟨x.toArray⟩ : Str).length : Int) = x.length := by show ((x.toArray.size : Nat) : Int) = _; simp
  have hsz : (⟨x.toArray⟩ : Str).length ≤ sizeLine := by rw [sizeLine_v]; show x.toArray.size ≤ _; simp; omega
  have m3 := mulD_i (i := 3) (j := 0 + (k : Int)) (.inl ⟨by decide, by decide⟩)
  have g1 := draw_ok ns (a + 1 + 3 * (0 + (k : Int))) 3 h63 (by omega) (by omega) (by decide)
  have g2 := draw_ok ns (a + 2 + 3 * (0 + (k : Int))) 5 h63 (by omega) (by omega) (by decide)
  have g3 := draw_ok ns (a + 3 + 3 * (0 + (k : Int))) 6 h63 (by omega) (by omega) (by decide)
  have b1 := draw_lt ns (a + 1 + 3 * (0 + (k : Int))) (m := 3) (by decide)
  have b3 := draw_lt ns (a + 3 + 3 * (0 + (k : Int))) (m := 6) (by decide)
  generalize drawZ ns (a + 1 + 3 * (0 + (k : Int))) 3 = e1 at *
  generalize drawZ ns (a + 2 + 3 * (0 + (k : Int))) 5 = e2 at *
  generalize drawZ ns (a + 3 + 3 * (0 + (k : Int))) 6 = e3 at *
  obtain ⟨n, hn, hmin⟩ : ∃ n : Nat, n < x.length ∧ (if p + e1 < (x.length : Int) - 1 then p + e1 else (x.length : Int) - 1) = (n : Int) := by
    by_cases h : p + e1 < (x.length : Int) - 1
    · exact ⟨(p + e1).toNat, by omega, by rw [if_pos h]; omega⟩
    · exact ⟨x.length - 1, by omega, by rw [if_neg h]; omega⟩
  have hmn : min2D [.int ((x.length : Int) - 1), .int (p + e1)] = .ok (.int n) := by
    simp only [min2D, int2]; rw [hmin]
  have hsl : slD (.str ⟨x.toArray⟩) (some (n : Int)) (some ((n : Int) + 1)) = .ok (.str ⟨#[x[n]]⟩) := by
    simp only [slD]
    rw [if_pos hsz, slice_one x n hn]
  have hxn := hx x[n] (List.getElem_mem hn)
  have hlo : loD (.str ⟨#[x[n]]⟩) [] = .ok (.str ⟨#[lo1 x[n]]⟩) := by
    simp only [loD]
    rw [if_pos (by show 1 ≤ 5000000; decide), lower_one _ (lo_sign _ hxn).1]
  have htr : truD (.str ⟨#[x[n]]⟩) = .ok true := by
    rw [truD_str (by rw [sizeLine_v]; show 1 ≤ _; decide)]; rfl
  have hix : ixD (.str "abAB1c") (.int e3) = .ok (signD (S6.getD e3.toNat 0)) := ixD_str (atI_of b3.1 (by
      rw [s6_l]
      have : e3.toNat < S6.length := by show e3.toNat < 6; omega
      rw [List.getD_eq_getElem?_getD, List.getElem?_eq_getElem this]; rfl)) (by decide +kernel)
  have key : ∀ c : Nat, (c ∈ QS ∨ c ∈ MK) → ∃ q' s', (sIf (tNotD (tTru (eCall m__law_mark (aCons (eVar 7) aNil)))) (sSet 4 (eOp addD (eVar 4) (eVar 7))) sNext) (qSt ns a x most q ((n : Int) + 1) (some (.val (.int (0 + k)))) (some (.val (signD c)))) = .nx (qSt ns a x most q' ((n : Int) + 1) (some (.val (.int (0 + k)))) s') ∧ q'.length ≤ q.length + 1 ∧ ∀ c ∈ q', c ∈ QS := fun c hc => by
    have hadd := addD_s (a := ⟨q.toArray⟩) (b := ⟨#[c]⟩) (by
      show q.toArray.size + 1 ≤ sizeLine
      rw [sizeLine_v, List.size_toArray]; omega)
    simp only [qSt, sIf_ap, tNot_ap, tTru_ap, eCall_ap, aCons_ap, aNil_ap, eVar_ap, List.getElem?_cons_zero, List.getElem?_cons_succ, getV_val, Rs.bind_ok, mark_ok, noEx_ok, truD_bl, Fl.of_ok]
    by_cases hm : c ∈ MK
    · exact ⟨q, some (.val (signD c)), by simp only [hm, decide_true, Bool.not_true, Bool.false_eq_true, if_false, sNext_ap], by omega, hqs⟩
    · refine ⟨q ++ [c], some (.val (signD c)), by simp only [hm, decide_false, Bool.not_false, if_true, sSet_ap, eOp_ap, eVar_ap, List.getElem?_cons_zero, List.getElem?_cons_succ, getV_val, Rs.bind_ok, signD, hadd, Fl.of_ok, List.set_cons_succ, List.set_cons_zero, str_app], by simp, fun d hd => ?_⟩
      rcases List.mem_append.mp hd with h | h
      · exact hqs d h
      · have : d = c := by simpa using h
        subst this
        exact hc.resolve_right hm
  unfold qBody
  simp only [qSt, sSeq_ap, sSet_ap, eBlt_ap, aCons_ap, aNil_ap, eOp_ap, eVar_ap, eC_ap, eCall_ap, List.getElem?_cons_zero, List.getElem?_cons_succ, getV_val, Rs.bind_ok, lenD_str hsz, hl, subD_i, addD_i, m3, g1, noEx_ok, hmn, Fl.of_ok, List.set_cons_succ, List.set_cons_zero, thn_nx,
    eMt0_ap, eOr_ap, eSl_ap, oSome_ap, someInt_int, hsl, htr, if_true, isTy, decide_true, hlo, sIf_ap, tB_ap, g2, eqD_i, boolOf_bl]
  by_cases hz : e2 = 0
  · subst hz
    obtain ⟨q', s', h1, h2, h3⟩ := key (S6.getD e3.toNat 0) (.inl (s6_sign _ (by omega)))
    simp only [qSt] at h1
    refine ⟨q', (n : Int) + 1, s', ?_, h2, h3, by omega⟩
    simp only [beq_self_eq_true, if_true, g3, noEx_ok, Rs.bind_ok, hix, Fl.of_ok, List.set_cons_succ, List.set_cons_zero, thn_nx]
    exact h1
  · obtain ⟨q', s', h1, h2, h3⟩ := key (lo1 x[n]) (lo_sign _ hxn).2
    simp only [qSt] at h1
    refine ⟨q', (n : Int) + 1, s', ?_, h2, h3, by omega⟩
    have hb : (e2 == 0) = false := by simpa using hz
    simp only [hb, Bool.false_eq_true, if_false, sNext_ap, thn_nx]
    exact h1
theorem query_ok (ns : List Int) (a : Int) (x : List Nat) (most : Int) (h63 : ns.length ≤ 63) (h0 : 0 ≤ a) (ha : a < 900000) (hm0 : 0 ≤ most) (hm1 : most < 50) (hx0 : 0 < x.length) (hx1 : x.length ≤ 100) (hx : ∀ c ∈ x, c ∈ NS) :
    ∃ q : List Nat, (q.length : Int) ≤ most ∧ (∀ c ∈ q, c ∈ QS) ∧ m__law_query [.scr ns, .int a, .str ⟨x.toArray⟩, .int most] = .ok (.str ⟨q.toArray⟩) := by
  have st : startD 8 [D.scr ns, .int a, .str ⟨x.toArray⟩, .int most] = [some (.val (.scr ns)), some (.val (.int a)), some (.val (.str ⟨x.toArray⟩)), some (.val (.int most)), none, none, none, none] := rfl
  have dl := draw_lt ns a (m := most + 1) (by omega)
  have dk := draw_ok ns a (most + 1) h63 h0 (by omega) (by omega)
  generalize hN : drawZ ns a (most + 1) = N at *
  have r1 := rg1_ok (fs := aCons (eCall m__law_drawn (aCons (eVar 0) (aCons (eVar 1) (aCons (eOp addD (eVar 3) (eC (.int 1))) aNil)))) aNil) (τ := qSt ns a x most [] 0 none none) (j := N)
    (by simp only [qSt, aCons_ap, aNil_ap, eOp_ap, eC_ap, eCall_ap, eVar_ap, List.getElem?_cons_zero, List.getElem?_cons_succ, getV_val, Rs.bind_ok, addD_i, dk, noEx_ok]) (by omega) (by omega)
  obtain ⟨τ', l1, q, p, s1, s2, rfl, l2, l3, l4⟩ := loop_inv0 (set := gNm 6) (body := qBody) (fun (k : Nat) => D.int (0 + k)) (fun k τ => ∃ q p s1 s2, τ = qSt ns a x most q p s1 s2 ∧ q.length ≤ k ∧ (∀ c ∈ q, c ∈ QS) ∧ 0 ≤ p) N.toNat (qSt ns a x most [] 0 none none)
    ⟨[], 0, none, none, rfl, Nat.le_refl _, (fun _ h => nomatch h), Int.le_refl _⟩ fun k τ hk ⟨q, p, s1, s2, e, h1, h2, h3⟩ => by
      subst e
      obtain ⟨q', p', s', g1, g2, g3, g4⟩ := query_step ns a x most q p k s2 h63 h0 ha (by omega) hx0 hx1 hx (by omega) h2 h3
      exact ⟨_, _, gNm_ap, g1, q', p', _, s', rfl, by omega, g3, g4⟩
  refine ⟨q, by omega, l3, ?_⟩
  have s0 : qSt ns a x most [] 0 none none = [some (.val (.scr ns)), some (.val (.int a)), some (.val (.str ⟨x.toArray⟩)), some (.val (.int most)), some (.val (.str "")), some (.val (.int 0)), none, none] := rfl
  unfold m__law_query b__law_query
  rw [runF_ap, st, sSeq_ap, sSet_ap, eC_ap, Fl.of_ok, thn_nx, sSeq_ap, sSet_ap, eC_ap, Fl.of_ok, thn_nx, sSeq_ap, sFor_ap]
  simp only [List.set_cons_succ, List.set_cons_zero]
  rw [← s0, r1, Fl.of_ok]
  unfold rngD
  have l1' : loopD (gNm 6) qBody ((List.range N.toNat).map fun (k : Nat) => D.int (0 + k)) (qSt ns a x most [] 0 none none) = .nx (qSt ns a x most q p s1 s2) := l1
  unfold qBody at l1'
  rw [l1', thn_nx]
  simp only [qSt, sRet_ap, eVar_ap, List.getElem?_cons_zero, List.getElem?_cons_succ, getV_val, Fl.of_ok, flRes_rt]
end Law
set_option Elab.async false
set_option linter.all false
set_option maxHeartbeats 1000000
namespace Law
open PySem PySem.Spec PyProof.Rows L2 FD
def meetC (c d : Nat) : Bool := c == d || (decide (97 ≤ c ∧ c ≤ 122) && up1 c == d)
theorem small_l : ("abcdefghijklmnopqrstuvwxyz" : Str).cps.toList = (List.range 26).map (· + 97) := by decide +kernel
theorem small_mem (c : Nat) : decide (c ∈ ("abcdefghijklmnopqrstuvwxyz" : Str).cps.toList) = decide (97 ≤ c ∧ c ≤ 122) := by
  rw [small_l]
  apply decide_eq_decide.mpr
  rw [List.mem_map]
  constructor
  · rintro ⟨i, hi, rfl⟩
    have := List.mem_range.mp hi
    omega
  · intro h
    exact ⟨c - 97, List.mem_range.mpr (by omega), by omega⟩
theorem upper_one (c : Nat) (h : c < 128) : Txt.upper (⟨#[c]⟩ : Str) = ⟨#[up1 c]⟩ := by
  rw [upper_ascii (x := ⟨#[c]⟩) (by intro d hd; have e : d = c := (by simpa using hd); omega)]
  simp
theorem one_eq (c d : Nat) : ((⟨#[c]⟩ : Str) == ⟨#[d]⟩) = (c == d) := by
  rw [Bool.eq_iff_iff]
  simp
theorem meets_ok (c d : Nat) (hc : c < 128) : m_meets [signD c, signD d] = .ok (.bl (meetC c d)) := by
  have st : startD 2 [signD c, signD d] = [some (.val (signD c)), some (.val (signD d))] := rfl
  have hup : upD (.str ⟨#[c]⟩) [] = .ok (.str ⟨#[up1 c]⟩) := by
    simp only [upD]
    rw [if_pos (by show 1 ≤ 5000000; decide), upper_one _ hc]
  unfold m_meets b_meets
  rw [runF_ap, st]
  simp only [sRet_ap, eOr_ap, eAnd_ap, eOp_ap, eVar_ap, eC_ap, eMt0_ap, List.getElem?_cons_zero, List.getElem?_cons_succ, getV_val, Rs.bind_ok, signD, eqD_s, one_eq, truD_bl, inD_s, strIn_one, small_mem, isTy, decide_true, if_true, hup]
  unfold meetC
  by_cases h : c = d
  · subst h; simp
  · have hb : (c == d) = false := by simpa using h
    simp only [hb, Bool.false_eq_true, if_false, Bool.false_or]
    by_cases h2 : 97 ≤ c ∧ c ≤ 122
    · simp [h2]
    · simp [h2]
end Law
set_option Elab.async false
set_option linter.all false
set_option maxHeartbeats 1000000
namespace FD
open PySem PySem.Spec PyProof.Rows L2
section
variable {τ : DS} {fa fb fe fi : FE} {fs : FA} {n : Nat} {i : Int}
theorem eLenO_ap : eLenO n τ = (getO τ[n]?).bind fun ds => .ok (.int ds.length) := rfl
theorem sApp_ap : sApp n fe τ = Fl.of (getO τ[n]?) fun ds => Fl.of (fe τ) fun d => if ds.length < sizeLine then .nx (τ.set n (some (.own (ds ++ [d])))) else .no := rfl
theorem iAny_ap : iAny fe τ = (fe τ).bind iterD := rfl
@[simp] theorem iter_str {x : Str} : iterD (.str x) = .ok (signsD x) := rfl
@[simp] theorem iter_lst {ds : List D} : iterD (.lst ds) = .ok ds := rfl
def putAt (n : Nat) (ds : List D) (d : D) (τ : DS) : D → Fl
  | .int k => match ixN ds.length k with
    | some j => .nx (τ.set n (some (.own (ds.set j d))))
    | none => .no
  | _ => .no
theorem sPut_ap : sPut n fi fe τ = Fl.of (fe τ) fun d => Fl.of (getO τ[n]?) fun ds => Fl.of (fi τ) (putAt n ds d τ) := by
  unfold sPut ownAt
  cases fe τ <;> rfl
theorem putAt_ok {ds : List D} {d : D} {j : Nat} (h : j < ds.length) : putAt n ds d τ (.int j) = .nx (τ.set n (some (.own (ds.set j d)))) := by
  have : ixN ds.length (j : Int) = some j := by
    unfold ixN
    rw [if_pos (by omega), if_pos (by omega)]
    simp
  simp only [putAt, this]
def ixO (ds : List D) : D → Rs D
  | .int k => match atI ds k with
    | some d => .ok d
    | none => .no
  | _ => .no
theorem eIxO_ap : eIxO n fi τ = (getO τ[n]?).bind fun ds => (fi τ).bind (ixO ds) := by
  unfold eIxO
  show (getO τ[n]?).bind _ = _
  cases getO τ[n]? <;> rfl
def catD (x y : D) : Rs (List D) := match lst2 x y with
  | some (i, j) => if i.length + j.length ≤ sizeLine then .ok (i ++ j) else .no
  | none => .no
theorem eCat_ap : eCat fa fb τ = (fa τ).bind fun x => (fb τ).bind fun y => catD x y := rfl
end
end FD
namespace Law
open PySem PySem.Spec PyProof.Rows L2 FD
abbrev tx (x : List Nat) : D := .str ⟨x.toArray⟩
abbrev nts (x : List Nat) : D := .lst (x.map fun (k : Nat) => D.int k)
theorem tx_len (x : List Nat) (h : x.length ≤ 1000) : lenD [tx x] = .ok (.int x.length) := by
  rw [lenD_str (by rw [sizeLine_v]; show x.toArray.size ≤ _; simp; omega)]
  show Rs.ok (D.int ((x.toArray.size : Nat) : Int)) = _
  simp
theorem tx_ix (x : List Nat) (j : Nat) (c : Nat) (h : x[j]? = some c) (hl : x.length ≤ 1000) : ixD (tx x) (.int j) = .ok (signD c) := by
  refine ixD_str (atI_of (by omega) (by simpa using h)) (by rw [sizeLine_v]; show x.toArray.size ≤ _; simp; omega)
theorem tx_signs (x : List Nat) : signsD ⟨x.toArray⟩ = x.map signD := by simp [signsD]
end Law
set_option Elab.async false
set_option linter.all false
set_option maxHeartbeats 1000000
namespace Law
open PySem PySem.Spec PyProof.Rows L2 FD
abbrev its (x : List Int) : D := .lst (x.map D.int)
theorem comp_map {set : FG} {fe : FE} {τ : DS} {α β : Type} (f : α → D) (g : β → D) (h : α → β) : ∀ (xs : List α), (∀ a ∈ xs, ∃ τ1, set (f a) τ = .ok τ1 ∧ fe τ1 = .ok (g (h a))) → compL set (fun _ => .ok true) fe τ (xs.map f) = .ok ((xs.map h).map g)
  | [], _ => rfl
  | a :: xs, hs => by
    obtain ⟨τ1, h1, h2⟩ := hs a (List.mem_cons_self ..)
    rw [List.map_cons, compL, h1]
    simp only [h2, comp_map f g h xs fun b hb => hs b (List.mem_cons_of_mem _ hb), Rs.bind_ok, List.map_cons]
end Law
set_option Elab.async false
set_option linter.all false
set_option maxHeartbeats 1000000
namespace FD
open PySem PySem.Spec PyProof.Rows L2
theorem mk_len (x : List Nat) : (⟨x.toArray⟩ : Str).length = x.length := by show x.toArray.size = _; simp
theorem comp_filter {set : FG} {ft : FT} {fe : FE} {τ : DS} {α : Type} (f g : α → D) (p : α → Bool) : ∀ (xs : List α), (∀ a ∈ xs, ∃ τ1, set (f a) τ = .ok τ1 ∧ ft τ1 = .ok (p a) ∧ fe τ1 = .ok (g a)) → compL set ft fe τ (xs.map f) = .ok ((xs.filter p).map g)
  | [], _ => rfl
  | a :: xs, hs => by
    obtain ⟨τ1, h1, h2, h3⟩ := hs a (List.mem_cons_self ..)
    have ih := comp_filter f g p xs fun b hb => hs b (List.mem_cons_of_mem _ hb)
    rw [List.map_cons, compL, h1]
    cases hp : p a
    · rw [hp] at h2
      simp only [h2, ih, List.filter_cons, hp, Bool.false_eq_true, if_false]
    · rw [hp] at h2
      simp only [h2, h3, ih, List.filter_cons, hp, if_true, Rs.bind_ok, List.map_cons]
end FD
namespace Law
open PySem PySem.Spec PyProof.Rows L2 FD
theorem f1 : ∀ a ∈ QS, ∀ c ∈ NS, meetC (lo1 a) c = meetC (lo1 a) (lo1 c) := by decide
theorem f2 : ∀ a ∈ QS, ∀ c ∈ NS, meetC a c = true → meetC (lo1 a) c = true := by decide
theorem f3 : ∀ a ∈ QS, ∀ c ∈ NS, meetC a c = true → lo1 c = lo1 a := by decide
theorem f5 : ∀ c ∈ NS, c < 128 ∧ lo1 c < 128 := by decide
theorem f6 : ∀ c ∈ QS, c < 128 ∧ lo1 c < 128 := by decide
structure Lay (q x l : List Nat) : Prop where
  len : l.length = q.length
  ris : ∀ j, j + 1 < l.length → l.getD j 0 < l.getD (j + 1) 0
  inn : ∀ j, j < l.length → l.getD j 0 < x.length
  met : ∀ j, j < l.length → meetC (q.getD j 0) (x.getD (l.getD j 0) 0) = true
theorem getD_take (l : List Nat) (m j : Nat) (h : j < m) : (l.take m).getD j 0 = l.getD j 0 := by
  simp [List.getD_eq_getElem?_getD, List.getElem?_take, h]
theorem Lay.take {q x l : List Nat} (h : Lay q x l) (m : Nat) : Lay (q.take m) x (l.take m) := by
  refine ⟨by simp [h.len], fun j hj => ?_, fun j hj => ?_, fun j hj => ?_⟩
  · rw [List.length_take] at hj
    rw [getD_take _ _ _ (by omega), getD_take _ _ _ (by omega)]
    exact h.ris j (by omega)
  · rw [List.length_take] at hj
    rw [getD_take _ _ _ (by omega)]
    exact h.inn j (by omega)
  · rw [List.length_take] at hj
    rw [getD_take _ _ _ (by omega), getD_take _ _ _ (by omega)]
    exact h.met j (by omega)
def begP (x : List Nat) (p : Nat) : Int := if p = 0 then 8 else if x.getD (p - 1) 0 ∈ MK then 6 else if (65 ≤ x.getD p 0 ∧ x.getD p 0 ≤ 90) ∧ ((97 ≤ x.getD (p - 1) 0 ∧ x.getD (p - 1) 0 ≤ 122) ∨ (48 ≤ x.getD (p - 1) 0 ∧ x.getD (p - 1) 0 ≤ 57)) then 5 else 0
def ownP (a : Nat) (x : List Nat) (p : Nat) : Int := 10 + begP x p + (if x.getD p 0 = a then 1 else 0)
def leadP (p : Nat) : Int := -(if (p : Int) < 3 then (p : Int) else 3)
def linkP (r p : Nat) : Int := if (p : Int) - r - 1 = 0 then 7 else -(if (p : Int) - r - 1 < 5 then (p : Int) - r - 1 else 5)
def trm (q x l : List Nat) (j : Nat) : Int := ownP (q.getD j 0) x (l.getD j 0) + (if j = 0 then leadP (l.getD 0 0) else linkP (l.getD (j - 1) 0) (l.getD j 0))
def pts (q x l : List Nat) : Nat → Int
  | 0 => 0
  | n + 1 => pts q x l n + trm q x l n
abbrev Tl := Int × List Nat
def fmost : List Tl → Option Tl → Option Tl
  | [], c => c
  | t :: r, none => fmost r (some t)
  | t :: r, some c => fmost r (some (if c.1 < t.1 then t else c))
def lastT (a : Nat) (x : List Nat) : List Tl := ((List.range x.length).filter fun p => meetC a (x.getD p 0)).map fun p => (ownP a x p, [p])
def linkT (p : Nat) (ts : List Tl) : List Tl := (ts.filter fun t => decide (p < t.2.getD 0 0)).map fun t => (t.1 + linkP p (t.2.getD 0 0), t.2)
def longF (a : Nat) (x : List Nat) (ts : List Tl) (p : Nat) : Option Tl := if meetC a (x.getD p 0) = true then (fmost (linkT p ts) none).map fun t => (ownP a x p + t.1, p :: t.2) else none
def longT (a : Nat) (x : List Nat) (ts : List Tl) : List Tl := (List.range x.length).filterMap (longF a x ts)
def tailsR : List Nat → List Nat → List Tl
  | [], _ => []
  | [a], x => lastT a x
  | a :: b :: q, x => longT a x (tailsR (b :: q) x)
def leadT (t : Tl) : Tl := (t.1 + leadP (t.2.getD 0 0), t.2)
def bestR (q x : List Nat) : Option Tl := fmost ((tailsR q x).map leadT) none
theorem fmost_mem : ∀ (ts : List Tl) (c : Option Tl) (t : Tl), fmost ts c = some t → t ∈ ts ∨ c = some t
  | [], c, t, h => .inr h
  | u :: r, none, t, h => by
    rcases fmost_mem r (some u) t h with h | h
    · exact .inl (List.mem_cons_of_mem _ h)
    · cases h; exact .inl (List.mem_cons_self ..)
  | u :: r, some c, t, h => by
    rcases fmost_mem r _ t h with h | h
    · exact .inl (List.mem_cons_of_mem _ h)
    · by_cases g : c.1 < u.1
      · rw [if_pos g] at h; cases h; exact .inl (List.mem_cons_self ..)
      · rw [if_neg g] at h; exact .inr h
def sm (f : Nat → Int) : Nat → Int
  | 0 => 0
  | n + 1 => sm f n + f n
theorem sm_head (f : Nat → Int) : ∀ n, sm f (n + 1) = f 0 + sm (fun j => f (j + 1)) n
  | 0 => by simp [sm]
  | n + 1 => by rw [sm, sm_head f n, sm]; omega
theorem pts_sm (q x l : List Nat) : ∀ n, pts q x l n = sm (trm q x l) n
  | 0 => rfl
  | n + 1 => by rw [pts, sm, pts_sm q x l n]
def trk (x : List Nat) (r : Nat) (q l : List Nat) (j : Nat) : Int := ownP (q.getD j 0) x (l.getD j 0) + linkP (if j = 0 then r else l.getD (j - 1) 0) (l.getD j 0)
theorem trm_cons (a p : Nat) (q x l : List Nat) (j : Nat) : trm (a :: q) x (p :: l) (j + 1) = trk x p q l j := by
  simp only [trm, trk, List.getD_cons_succ, Nat.succ_ne_zero, if_false, Nat.add_sub_cancel]
  cases j with
  | zero => rw [if_pos rfl, List.getD_cons_zero]
  | succ j => rw [if_neg (Nat.succ_ne_zero j), List.getD_cons_succ, Nat.add_sub_cancel]
theorem trk_cons (a p r : Nat) (q x l : List Nat) (j : Nat) : trk x r (a :: q) (p :: l) (j + 1) = trk x p q l j := by
  simp only [trk, List.getD_cons_succ, Nat.succ_ne_zero, if_false, Nat.add_sub_cancel]
  cases j with
  | zero => rw [if_pos rfl, List.getD_cons_zero]
  | succ j => rw [if_neg (Nat.succ_ne_zero j), List.getD_cons_succ, Nat.add_sub_cancel]
def tailP (x : List Nat) : List Nat → List Nat → Int
  | a :: q, p :: l => ownP a x p + sm (trk x p q l) l.length
  | _, _ => 0
theorem tail_pts (a p : Nat) (q x l : List Nat) : tailP x (a :: q) (p :: l) + leadP p = pts (a :: q) x (p :: l) (l.length + 1) := by
  rw [pts_sm, sm_head, funext (trm_cons a p q x l)]
  simp only [tailP, trm, if_true, List.getD_cons_zero]
  omega
theorem tail_long (a b p r : Nat) (q x l : List Nat) : tailP x (a :: b :: q) (p :: r :: l) = ownP a x p + linkP p r + tailP x (b :: q) (r :: l) := by
  simp only [tailP, List.length_cons]
  rw [sm_head, funext (trk_cons b r p q x l)]
  simp only [trk, if_true, List.getD_cons_zero]
  omega
theorem Lay.one {a p : Nat} {x : List Nat} (h1 : p < x.length) (h2 : meetC a (x.getD p 0) = true) : Lay [a] x [p] :=
  ⟨rfl, fun j hj => by simp at hj, fun j hj => by have : j = 0 := by simpa using hj
                                                  subst this; exact h1, fun j hj => by have : j = 0 := by simpa using hj
                                                                                       subst this; exact h2⟩
theorem Lay.cons {a p : Nat} {q x l : List Nat} (h : Lay q x l) (h1 : p < x.length) (h2 : meetC a (x.getD p 0) = true) (h3 : 0 < l.length → p < l.getD 0 0) : Lay (a :: q) x (p :: l) := by
  refine ⟨by simp [h.len], fun j hj => ?_, fun j hj => ?_, fun j hj => ?_⟩
  · cases j with
    | zero => simpa using h3 (by simpa using hj)
    | succ j => simpa using h.ris j (by simpa using hj)
  · cases j with
    | zero => simpa using h1
    | succ j => simpa using h.inn j (by simpa using hj)
  · cases j with
    | zero => exact h2
    | succ j => simpa using h.met j (by simpa using hj)
theorem Lay.tail {a p : Nat} {q x l : List Nat} (h : Lay (a :: q) x (p :: l)) : Lay q x l ∧ p < x.length ∧ meetC a (x.getD p 0) = true ∧ (0 < l.length → p < l.getD 0 0) := by
  refine ⟨⟨by simpa using h.len, fun j hj => ?_, fun j hj => ?_, fun j hj => ?_⟩, by simpa using h.inn 0 (by simp), by simpa using h.met 0 (by simp), fun h0 => by simpa using h.ris 0 (by simpa using h0)⟩
  · simpa using h.ris (j + 1) (by simpa using hj)
  · simpa using h.inn (j + 1) (by simpa using hj)
  · simpa using h.met (j + 1) (by simpa using hj)
theorem tails_sound (x : List Nat) : ∀ (q : List Nat) (t : Tl), t ∈ tailsR q x → Lay q x t.2 ∧ t.1 = tailP x q t.2
  | [], t, h => by simp [tailsR] at h
  | [a], t, h => by
    simp only [tailsR, lastT, List.mem_map, List.mem_filter, List.mem_range] at h
    obtain ⟨p, ⟨h1, h2⟩, rfl⟩ := h
    exact ⟨Lay.one h1 h2, by simp [tailP, sm]⟩
  | a :: b :: q, t, h => by
    simp only [tailsR, longT, List.mem_filterMap, List.mem_range] at h
    obtain ⟨p, h1, h2⟩ := h
    unfold longF at h2
    split at h2
    · rename_i hm
      cases e : fmost (linkT p (tailsR (b :: q) x)) none with
      | none => rw [e] at h2; cases h2
      | some u =>
        rw [e] at h2
        have h2 : some (ownP a x p + u.1, p :: u.2) = some t := h2
        cases h2
        rcases fmost_mem _ _ _ e with g | g
        · simp only [linkT, List.mem_map, List.mem_filter, decide_eq_true_eq] at g
          obtain ⟨v, ⟨g1, g2⟩, rfl⟩ := g
          obtain ⟨k1, k2⟩ := tails_sound x (b :: q) v g1
          refine ⟨k1.cons h1 hm fun _ => g2, ?_⟩
          have hl := k1.len
          cases e2 : v.2 with
          | nil => rw [e2] at hl; simp at hl
          | cons r l =>
            rw [e2] at k2
            simp only [e2, List.getD_cons_zero]
            rw [tail_long, k2]
            omega
        · cases g
    · cases h2
theorem best_sound (q x : List Nat) (hq : q ≠ []) (v : Int) (l : List Nat) (h : bestR q x = some (v, l)) : Lay q x l ∧ v = pts q x l q.length := by
  unfold bestR at h
  rcases fmost_mem _ _ _ h with g | g
  · obtain ⟨t, g1, g2⟩ := List.mem_map.mp g
    obtain ⟨k1, k2⟩ := tails_sound x q t g1
    simp only [leadT, Prod.mk.injEq] at g2
    obtain ⟨rfl, rfl⟩ := g2
    refine ⟨k1, ?_⟩
    cases q with
    | nil => exact absurd rfl hq
    | cons a q =>
      have hl := k1.len
      cases e2 : t.2 with
      | nil => rw [e2] at hl; simp at hl
      | cons p l =>
        rw [e2] at k2 hl
        simp only [List.length_cons] at hl ⊢
        have : q.length = l.length := by omega
        rw [this, ← tail_pts, k2, List.getD_cons_zero]
  · cases g
end Law
set_option Elab.async false
set_option linter.all false
set_option maxHeartbeats 1000000
namespace FD
open PySem PySem.Spec PyProof.Rows L2
def negI : D → Rs D
  | .int i => .ok (.int (-i))
  | _ => .no
@[simp] theorem negI_i {i : Int} : negI (.int i) = .ok (.int (-i)) := rfl
theorem eNeg_ap {fa : FE} {τ : DS} : eNeg fa τ = (fa τ).bind negI := by
  unfold eNeg
  show (fa τ).bind _ = _
  cases fa τ with
  | ok d => cases d <;> rfl
  | _ => rfl
theorem sAug_ap {n : Nat} {op : D → D → Rs D} {fe : FE} {τ : DS} : sAug n op fe τ = Fl.of (eVar n τ) fun x => Fl.of (fe τ) fun y => Fl.of (op x y) fun z => .nx (τ.set n (some (.val z))) := rfl
theorem io_i {g : Int → Int → D} {i j : Int} : intOp0 g (.int i) (.int j) = .ok (g i j) := rfl
theorem min2_i (i j : Int) : min2D [.int i, .int j] = .ok (.int (if j < i then j else i)) := rfl
end FD
namespace Law
open PySem PySem.Spec PyProof.Rows L2 FD
abbrev tlD (t : Tl) : D := .tup [.int t.1, nts t.2]
def optD : Option Tl → D
  | none => .non
  | some t => tlD t
theorem tl_0 (t : Tl) : ixD (tlD t) (.int 0) = .ok (.int t.1) := rfl
theorem tl_1 (t : Tl) : ixD (tlD t) (.int 1) = .ok (nts t.2) := rfl
theorem nts_ix (l : List Nat) (j : Nat) (h : j < l.length) : ixD (nts l) (.int (j : Int)) = .ok (.int (l.getD j 0 : Nat)) := by
  refine ixD_lst (atI_of (by omega) ?_)
  simp [List.getD_eq_getElem?_getD, List.getElem?_eq_getElem h]
theorem nts_ix0 (l : List Nat) (h : 0 < l.length) : ixD (nts l) (.int 0) = .ok (.int (l.getD 0 0 : Nat)) := nts_ix l 0 h
theorem get_some (x : List Nat) (j : Nat) (h : j < x.length) : x[j]? = some (x.getD j 0) := by
  rw [List.getD_eq_getElem?_getD, List.getElem?_eq_getElem h]; rfl
theorem tx_at (x : List Nat) (j : Nat) (h : j < x.length) (hx : x.length ≤ 1000) : ixD (tx x) (.int (j : Int)) = .ok (signD (x.getD j 0)) := tx_ix x j _ (get_some x j h) hx
theorem great_l : ("ABCDEFGHIJKLMNOPQRSTUVWXYZ" : Str).cps.toList = (List.range 26).map (· + 65) := by decide +kernel
theorem figs_l : ("0123456789" : Str).cps.toList = (List.range 10).map (· + 48) := by decide +kernel
theorem run_mem (c n a : Nat) : decide (c ∈ (List.range (n + 1)).map (· + a)) = decide (a ≤ c ∧ c ≤ n + a) := by
  apply decide_eq_decide.mpr
  rw [List.mem_map]
  constructor
  · rintro ⟨i, hi, rfl⟩
    have := List.mem_range.mp hi
    omega
  · intro h
    exact ⟨c - a, List.mem_range.mpr (by omega), by omega⟩
theorem great_mem (c : Nat) : decide (c ∈ ("ABCDEFGHIJKLMNOPQRSTUVWXYZ" : Str).cps.toList) = decide (65 ≤ c ∧ c ≤ 90) := by
  rw [great_l]; exact run_mem c 25 65
theorem figs_mem (c : Nat) : decide (c ∈ ("0123456789" : Str).cps.toList) = decide (48 ≤ c ∧ c ≤ 57) := by
  rw [figs_l]; exact run_mem c 9 48
theorem beg_ok (x : List Nat) (p : Nat) (hx : x.length ≤ 1000) (hp : p < x.length) : m_beginning_points [tx x, .int (p : Int)] = .ok (.int (begP x p)) := by
  have st : startD 3 [tx x, .int (p : Int)] = [some (.val (tx x)), some (.val (.int (p : Int))), none] := rfl
  unfold m_beginning_points b_beginning_points
  rw [runF_ap, st]
  cases p with
  | zero =>
    simp only [sSeq_ap, sSet_ap, sSetO_ap, sIf_ap, sRet_ap, sRetO_ap, ownAt_ap, sNext_ap, sFor_ap, sApp_ap, sPut_ap, eIxO_ap, eCat_ap, eLenO_ap, iAny_ap, iter_str, iter_lst, tB_ap, tTru_ap, tAnd_ap, tOr_ap, tNot_ap, eOp_ap, eVar_ap, eC_ap, aNil_ap, aCons_ap, eCall_ap, eBlt_ap, eIf_ap, eAnd_ap, eOr_ap, eNot_ap, eMt0_ap, eMt_ap, eSl_ap, oNone_ap, oSome_ap, someInt_int, List.getElem?_cons_zero, List.getElem?_cons_succ, List.set_cons_succ, List.set_cons_zero, getV_val, getO_own, Rs.bind_ok, Fl.of_ok, thn_nx, thn_rt, flRes_rt, noEx_ok, boolOf_bl, truD_bl, addD_i, subD_i, ltI_i, leD_i, gtD_i, geD_i, eqD_i, eqD_s, neD_i, neD_s, lenD_lst, gNm_ap, if_true, Bool.false_eq_true, if_false, Bool.not_true, Bool.not_false, show ((((0 : Nat) : Int)) == 0) = true from rfl]
    rfl
  | succ k =>
    have e0 : (((k + 1 : Nat) : Int) == 0) = false := by simp; omega
    have e1 : ((k + 1 : Nat) : Int) - 1 = (k : Int) := by omega
    have hk := tx_at x k (by omega) hx
    have hk1 := tx_at x (k + 1) hp hx
    have hb : begP x (k + 1) = if x.getD k 0 ∈ MK then 6 else if (65 ≤ x.getD (k + 1) 0 ∧ x.getD (k + 1) 0 ≤ 90) ∧ ((97 ≤ x.getD k 0 ∧ x.getD k 0 ≤ 122) ∨ (48 ≤ x.getD k 0 ∧ x.getD k 0 ≤ 57)) then 5 else 0 := by
      unfold begP; rw [if_neg (Nat.succ_ne_zero k)]; rfl
    rw [hb]
    generalize x.getD k 0 = c at *
    generalize x.getD (k + 1) 0 = d at *
    simp only [signD] at hk hk1
    by_cases h1 : c ∈ MK
    · simp only [sSeq_ap, sSet_ap, sSetO_ap, sIf_ap, sRet_ap, sRetO_ap, ownAt_ap, sNext_ap, sFor_ap, sApp_ap, sPut_ap, eIxO_ap, eCat_ap, eLenO_ap, iAny_ap, iter_str, iter_lst, tB_ap, tTru_ap, tAnd_ap, tOr_ap, tNot_ap, eOp_ap, eVar_ap, eC_ap, aNil_ap, aCons_ap, eCall_ap, eBlt_ap, eIf_ap, eAnd_ap, eOr_ap, eNot_ap, eMt0_ap, eMt_ap, eSl_ap, oNone_ap, oSome_ap, someInt_int, List.getElem?_cons_zero, List.getElem?_cons_succ, List.set_cons_succ, List.set_cons_zero, getV_val, getO_own, Rs.bind_ok, Fl.of_ok, thn_nx, thn_rt, flRes_rt, noEx_ok, boolOf_bl, truD_bl, addD_i, subD_i, ltI_i, leD_i, gtD_i, geD_i, eqD_i, eqD_s, neD_i, neD_s, lenD_lst, gNm_ap, if_true, Bool.false_eq_true, if_false, Bool.not_true, Bool.not_false, e0, e1, hk, inD_s, strIn_one, mk_l, h1, decide_true]
    · by_cases h2 : 65 ≤ d ∧ d ≤ 90
      · by_cases h3 : 97 ≤ c ∧ c ≤ 122
        · have h4 : (65 ≤ d ∧ d ≤ 90) ∧ ((97 ≤ c ∧ c ≤ 122) ∨ (48 ≤ c ∧ c ≤ 57)) := ⟨h2, .inl h3⟩
          rw [if_neg h1, if_pos h4]
          simp only [sSeq_ap, sSet_ap, sSetO_ap, sIf_ap, sRet_ap, sRetO_ap, ownAt_ap, sNext_ap, sFor_ap, sApp_ap, sPut_ap, eIxO_ap, eCat_ap, eLenO_ap, iAny_ap, iter_str, iter_lst, tB_ap, tTru_ap, tAnd_ap, tOr_ap, tNot_ap, eOp_ap, eVar_ap, eC_ap, aNil_ap, aCons_ap, eCall_ap, eBlt_ap, eIf_ap, eAnd_ap, eOr_ap, eNot_ap, eMt0_ap, eMt_ap, eSl_ap, oNone_ap, oSome_ap, someInt_int, List.getElem?_cons_zero, List.getElem?_cons_succ, List.set_cons_succ, List.set_cons_zero, getV_val, getO_own, Rs.bind_ok, Fl.of_ok, thn_nx, thn_rt, flRes_rt, noEx_ok, boolOf_bl, truD_bl, addD_i, subD_i, ltI_i, leD_i, gtD_i, geD_i, eqD_i, eqD_s, neD_i, neD_s, lenD_lst, gNm_ap, if_true, Bool.false_eq_true, if_false, Bool.not_true, Bool.not_false, e0, e1, hk, hk1, inD_s, strIn_one, mk_l, h1, decide_false, great_mem, small_mem, figs_mem, h2, h3, and_self, decide_true]
        · by_cases h5 : 48 ≤ c ∧ c ≤ 57
          · have h4 : (65 ≤ d ∧ d ≤ 90) ∧ ((97 ≤ c ∧ c ≤ 122) ∨ (48 ≤ c ∧ c ≤ 57)) := ⟨h2, .inr h5⟩
            rw [if_neg h1, if_pos h4]
            simp only [sSeq_ap, sSet_ap, sSetO_ap, sIf_ap, sRet_ap, sRetO_ap, ownAt_ap, sNext_ap, sFor_ap, sApp_ap, sPut_ap, eIxO_ap, eCat_ap, eLenO_ap, iAny_ap, iter_str, iter_lst, tB_ap, tTru_ap, tAnd_ap, tOr_ap, tNot_ap, eOp_ap, eVar_ap, eC_ap, aNil_ap, aCons_ap, eCall_ap, eBlt_ap, eIf_ap, eAnd_ap, eOr_ap, eNot_ap, eMt0_ap, eMt_ap, eSl_ap, oNone_ap, oSome_ap, someInt_int, List.getElem?_cons_zero, List.getElem?_cons_succ, List.set_cons_succ, List.set_cons_zero, getV_val, getO_own, Rs.bind_ok, Fl.of_ok, thn_nx, thn_rt, flRes_rt, noEx_ok, boolOf_bl, truD_bl, addD_i, subD_i, ltI_i, leD_i, gtD_i, geD_i, eqD_i, eqD_s, neD_i, neD_s, lenD_lst, gNm_ap, if_true, Bool.false_eq_true, if_false, Bool.not_true, Bool.not_false, e0, e1, hk, hk1, inD_s, strIn_one, mk_l, h1, decide_false, great_mem, small_mem, figs_mem, decide_eq_true h2, decide_eq_false h3, decide_eq_true h5]
          · have h4 : ¬ ((65 ≤ d ∧ d ≤ 90) ∧ ((97 ≤ c ∧ c ≤ 122) ∨ (48 ≤ c ∧ c ≤ 57))) := fun h => by rcases h.2 with h | h; exact h3 h; exact h5 h
            rw [if_neg h1, if_neg h4]
            simp only [sSeq_ap, sSet_ap, sSetO_ap, sIf_ap, sRet_ap, sRetO_ap, ownAt_ap, sNext_ap, sFor_ap, sApp_ap, sPut_ap, eIxO_ap, eCat_ap, eLenO_ap, iAny_ap, iter_str, iter_lst, tB_ap, tTru_ap, tAnd_ap, tOr_ap, tNot_ap, eOp_ap, eVar_ap, eC_ap, aNil_ap, aCons_ap, eCall_ap, eBlt_ap, eIf_ap, eAnd_ap, eOr_ap, eNot_ap, eMt0_ap, eMt_ap, eSl_ap, oNone_ap, oSome_ap, someInt_int, List.getElem?_cons_zero, List.getElem?_cons_succ, List.set_cons_succ, List.set_cons_zero, getV_val, getO_own, Rs.bind_ok, Fl.of_ok, thn_nx, thn_rt, flRes_rt, noEx_ok, boolOf_bl, truD_bl, addD_i, subD_i, ltI_i, leD_i, gtD_i, geD_i, eqD_i, eqD_s, neD_i, neD_s, lenD_lst, gNm_ap, if_true, Bool.false_eq_true, if_false, Bool.not_true, Bool.not_false, e0, e1, hk, hk1, inD_s, strIn_one, mk_l, h1, decide_false, great_mem, small_mem, figs_mem, decide_eq_true h2, decide_eq_false h3, decide_eq_false h5]
      · have h4 : ¬ ((65 ≤ d ∧ d ≤ 90) ∧ ((97 ≤ c ∧ c ≤ 122) ∨ (48 ≤ c ∧ c ≤ 57))) := fun h => h2 h.1
        rw [if_neg h1, if_neg h4]
        simp only [sSeq_ap, sSet_ap, sSetO_ap, sIf_ap, sRet_ap, sRetO_ap, ownAt_ap, sNext_ap, sFor_ap, sApp_ap, sPut_ap, eIxO_ap, eCat_ap, eLenO_ap, iAny_ap, iter_str, iter_lst, tB_ap, tTru_ap, tAnd_ap, tOr_ap, tNot_ap, eOp_ap, eVar_ap, eC_ap, aNil_ap, aCons_ap, eCall_ap, eBlt_ap, eIf_ap, eAnd_ap, eOr_ap, eNot_ap, eMt0_ap, eMt_ap, eSl_ap, oNone_ap, oSome_ap, someInt_int, List.getElem?_cons_zero, List.getElem?_cons_succ, List.set_cons_succ, List.set_cons_zero, getV_val, getO_own, Rs.bind_ok, Fl.of_ok, thn_nx, thn_rt, flRes_rt, noEx_ok, boolOf_bl, truD_bl, addD_i, subD_i, ltI_i, leD_i, gtD_i, geD_i, eqD_i, eqD_s, neD_i, neD_s, lenD_lst, gNm_ap, if_true, Bool.false_eq_true, if_false, Bool.not_true, Bool.not_false, e0, e1, hk, hk1, inD_s, strIn_one, mk_l, h1, decide_false, great_mem, decide_eq_false h2]
theorem own_ok (a : Nat) (x : List Nat) (p : Nat) (hx : x.length ≤ 1000) (hp : p < x.length) : m_own_points [signD a, tx x, .int (p : Int)] = .ok (.int (ownP a x p)) := by
  have st : startD 4 [signD a, tx x, .int (p : Int)] = [some (.val (signD a)), some (.val (tx x)), some (.val (.int (p : Int))), none] := rfl
  have hk := tx_at x p hp hx
  have hb := beg_ok x p hx hp
  unfold m_own_points b_own_points ownP
  rw [runF_ap, st]
  simp only [signD] at hk ⊢
  by_cases h : x.getD p 0 = a
  · have h' : (x.getD p 0 == a) = true := by simpa using h
    rw [if_pos h]
    simp only [sSeq_ap, sSet_ap, sSetO_ap, sIf_ap, sRet_ap, sRetO_ap, ownAt_ap, sNext_ap, sFor_ap, sApp_ap, sPut_ap, eIxO_ap, eCat_ap, eLenO_ap, iAny_ap, iter_str, iter_lst, tB_ap, tTru_ap, tAnd_ap, tOr_ap, tNot_ap, eOp_ap, eVar_ap, eC_ap, aNil_ap, aCons_ap, eCall_ap, eBlt_ap, eIf_ap, eAnd_ap, eOr_ap, eNot_ap, eMt0_ap, eMt_ap, eSl_ap, oNone_ap, oSome_ap, someInt_int, List.getElem?_cons_zero, List.getElem?_cons_succ, List.set_cons_succ, List.set_cons_zero, getV_val, getO_own, Rs.bind_ok, Fl.of_ok, thn_nx, thn_rt, flRes_rt, noEx_ok, boolOf_bl, truD_bl, addD_i, subD_i, ltI_i, leD_i, gtD_i, geD_i, eqD_i, eqD_s, neD_i, neD_s, lenD_lst, gNm_ap, if_true, Bool.false_eq_true, if_false, Bool.not_true, Bool.not_false, hk, one_eq, h', hb]
  · have h' : (x.getD p 0 == a) = false := by simpa using h
    rw [if_neg h]
    simp only [sSeq_ap, sSet_ap, sSetO_ap, sIf_ap, sRet_ap, sRetO_ap, ownAt_ap, sNext_ap, sFor_ap, sApp_ap, sPut_ap, eIxO_ap, eCat_ap, eLenO_ap, iAny_ap, iter_str, iter_lst, tB_ap, tTru_ap, tAnd_ap, tOr_ap, tNot_ap, eOp_ap, eVar_ap, eC_ap, aNil_ap, aCons_ap, eCall_ap, eBlt_ap, eIf_ap, eAnd_ap, eOr_ap, eNot_ap, eMt0_ap, eMt_ap, eSl_ap, oNone_ap, oSome_ap, someInt_int, List.getElem?_cons_zero, List.getElem?_cons_succ, List.set_cons_succ, List.set_cons_zero, getV_val, getO_own, Rs.bind_ok, Fl.of_ok, thn_nx, thn_rt, flRes_rt, noEx_ok, boolOf_bl, truD_bl, addD_i, subD_i, ltI_i, leD_i, gtD_i, geD_i, eqD_i, eqD_s, neD_i, neD_s, lenD_lst, gNm_ap, if_true, Bool.false_eq_true, if_false, Bool.not_true, Bool.not_false, hk, one_eq, h', hb]
theorem lead_ok (p : Nat) : m_lead_points [.int (p : Int)] = .ok (.int (leadP p)) := by
  have st : startD 1 [.int (p : Int)] = [some (.val (.int (p : Int)))] := rfl
  unfold m_lead_points b_lead_points leadP
  rw [runF_ap, st]
  simp only [sSeq_ap, sSet_ap, sSetO_ap, sIf_ap, sRet_ap, sRetO_ap, ownAt_ap, sNext_ap, sFor_ap, sApp_ap, sPut_ap, eIxO_ap, eCat_ap, eLenO_ap, iAny_ap, iter_str, iter_lst, tB_ap, tTru_ap, tAnd_ap, tOr_ap, tNot_ap, eOp_ap, eVar_ap, eC_ap, aNil_ap, aCons_ap, eCall_ap, eBlt_ap, eIf_ap, eAnd_ap, eOr_ap, eNot_ap, eMt0_ap, eMt_ap, eSl_ap, oNone_ap, oSome_ap, someInt_int, List.getElem?_cons_zero, List.getElem?_cons_succ, List.set_cons_succ, List.set_cons_zero, getV_val, getO_own, Rs.bind_ok, Fl.of_ok, thn_nx, thn_rt, flRes_rt, noEx_ok, boolOf_bl, truD_bl, addD_i, subD_i, ltI_i, leD_i, gtD_i, geD_i, eqD_i, eqD_s, neD_i, neD_s, lenD_lst, gNm_ap, if_true, Bool.false_eq_true, if_false, Bool.not_true, Bool.not_false, min2_i, eNeg_ap, negI_i]
  congr 3
  split <;> split <;> omega
theorem link_ok (r p : Nat) : m_link_points [.int (r : Int), .int (p : Int)] = .ok (.int (linkP r p)) := by
  have st : startD 3 [.int (r : Int), .int (p : Int)] = [some (.val (.int (r : Int))), some (.val (.int (p : Int))), none] := rfl
  unfold m_link_points b_link_points linkP
  rw [runF_ap, st]
  by_cases h : (p : Int) - r - 1 = 0
  · have h' : ((p : Int) - r - 1 == 0) = true := by simpa using h
    rw [if_pos h]
    simp only [sSeq_ap, sSet_ap, sSetO_ap, sIf_ap, sRet_ap, sRetO_ap, ownAt_ap, sNext_ap, sFor_ap, sApp_ap, sPut_ap, eIxO_ap, eCat_ap, eLenO_ap, iAny_ap, iter_str, iter_lst, tB_ap, tTru_ap, tAnd_ap, tOr_ap, tNot_ap, eOp_ap, eVar_ap, eC_ap, aNil_ap, aCons_ap, eCall_ap, eBlt_ap, eIf_ap, eAnd_ap, eOr_ap, eNot_ap, eMt0_ap, eMt_ap, eSl_ap, oNone_ap, oSome_ap, someInt_int, List.getElem?_cons_zero, List.getElem?_cons_succ, List.set_cons_succ, List.set_cons_zero, getV_val, getO_own, Rs.bind_ok, Fl.of_ok, thn_nx, thn_rt, flRes_rt, noEx_ok, boolOf_bl, truD_bl, addD_i, subD_i, ltI_i, leD_i, gtD_i, geD_i, eqD_i, eqD_s, neD_i, neD_s, lenD_lst, gNm_ap, if_true, Bool.false_eq_true, if_false, Bool.not_true, Bool.not_false, h']
  · have h' : ((p : Int) - r - 1 == 0) = false := by simpa using h
    rw [if_neg h]
    simp only [sSeq_ap, sSet_ap, sSetO_ap, sIf_ap, sRet_ap, sRetO_ap, ownAt_ap, sNext_ap, sFor_ap, sApp_ap, sPut_ap, eIxO_ap, eCat_ap, eLenO_ap, iAny_ap, iter_str, iter_lst, tB_ap, tTru_ap, tAnd_ap, tOr_ap, tNot_ap, eOp_ap, eVar_ap, eC_ap, aNil_ap, aCons_ap, eCall_ap, eBlt_ap, eIf_ap, eAnd_ap, eOr_ap, eNot_ap, eMt0_ap, eMt_ap, eSl_ap, oNone_ap, oSome_ap, someInt_int, List.getElem?_cons_zero, List.getElem?_cons_succ, List.set_cons_succ, List.set_cons_zero, getV_val, getO_own, Rs.bind_ok, Fl.of_ok, thn_nx, thn_rt, flRes_rt, noEx_ok, boolOf_bl, truD_bl, addD_i, subD_i, ltI_i, leD_i, gtD_i, geD_i, eqD_i, eqD_s, neD_i, neD_s, lenD_lst, gNm_ap, if_true, Bool.false_eq_true, if_false, Bool.not_true, Bool.not_false, h', min2_i, eNeg_ap, negI_i]
    congr 3
    split <;> split <;> omega
end Law
set_option Elab.async false
set_option linter.all false
set_option maxHeartbeats 1000000
namespace FD
open PySem PySem.Spec PyProof.Rows L2
theorem rg3_ok {fs : FA} {τ : DS} {i j : Int} (h : fs τ = .ok [.int i, .int j, .int (-1)]) (h1 : -(2 ^ 62) ≤ i) (h2 : i < 2 ^ 62) (h3 : -(2 ^ 62) ≤ j) (h4 : j < 2 ^ 62) : iRg3 fs τ = .ok (rngDn i (i - j).toNat) := by
  unfold iRg3
  rw [h]
  simp only [Rs.bind_ok, int3d]
  rw [if_pos ⟨⟨h1, h2⟩, h3, h4⟩]
end FD
namespace Law
open PySem PySem.Spec PyProof.Rows L2 FD
def fmBody : FS := (sIf (tOrD (FD.tB (eOp isD (eVar 1) (eC .non))) (FD.tB (eOp gtD (eOp ixD (eVar 2) (eC (.int 0))) (eOp ixD (eVar 1) (eC (.int 0)))))) (sSet 1 (eVar 2)) sNext)
theorem is_non : isD .non .non = .ok (.bl true) := rfl
theorem is_tl (t : Tl) : isD (tlD t) .non = .ok (.bl false) := rfl
theorem isNot_non : isNotD .non .non = .ok (.bl false) := rfl
theorem isNot_tl (t : Tl) : isNotD (tlD t) .non = .ok (.bl true) := rfl
theorem fm_loop (z : D) : ∀ (ts : List Tl) (c : Option Tl) (s : Option Sl), ∃ s', loopD (gNm 2) fmBody (ts.map tlD) [some (.val z), some (.val (optD c)), s] = .nx [some (.val z), some (.val (optD (fmost ts c))), s']
  | [], c, s => ⟨s, rfl⟩
  | t :: ts, none, s => by
    obtain ⟨s', ih⟩ := fm_loop z ts (some t) (some (.val (tlD t)))
    refine ⟨s', ?_⟩
    have : fmBody [some (.val z), some (.val (optD none)), some (.val (tlD t))] = .nx [some (.val z), some (.val (optD (some t))), some (.val (tlD t))] := by
      unfold fmBody optD
      simp only [sSeq_ap, sSet_ap, sSetO_ap, sIf_ap, sRet_ap, sRetO_ap, ownAt_ap, sNext_ap, sFor_ap, sApp_ap, sPut_ap, eIxO_ap, eCat_ap, eLenO_ap, iAny_ap, iter_str, iter_lst, tB_ap, tTru_ap, tAnd_ap, tOr_ap, tNot_ap, eOp_ap, eVar_ap, eC_ap, aNil_ap, aCons_ap, eCall_ap, eBlt_ap, eIf_ap, eAnd_ap, eOr_ap, eNot_ap, eMt0_ap, eMt_ap, eSl_ap, oNone_ap, oSome_ap, someInt_int, List.getElem?_cons_zero, List.getElem?_cons_succ, List.set_cons_succ, List.set_cons_zero, getV_val, getO_own, Rs.bind_ok, Fl.of_ok, thn_nx, thn_rt, flRes_rt, noEx_ok, boolOf_bl, truD_bl, addD_i, subD_i, ltI_i, leD_i, gtD_i, geD_i, eqD_i, eqD_s, neD_i, neD_s, lenD_lst, gNm_ap, if_true, Bool.false_eq_true, if_false, Bool.not_true, Bool.not_false, is_non]
    rw [List.map_cons, loopD, gNm_ap, Fl.of_ok]
    simp only [List.set_cons_succ, List.set_cons_zero, this]
    rw [ih]
    rfl
  | t :: ts, some c, s => by
    obtain ⟨s', ih⟩ := fm_loop z ts (some (if c.1 < t.1 then t else c)) (some (.val (tlD t)))
    refine ⟨s', ?_⟩
    have : fmBody [some (.val z), some (.val (optD (some c))), some (.val (tlD t))] = .nx [some (.val z), some (.val (optD (some (if c.1 < t.1 then t else c)))), some (.val (tlD t))] := by
      unfold fmBody optD
      by_cases h : c.1 < t.1
      · rw [if_pos h]
        simp only [sSeq_ap, sSet_ap, sSetO_ap, sIf_ap, sRet_ap, sRetO_ap, ownAt_ap, sNext_ap, sFor_ap, sApp_ap, sPut_ap, eIxO_ap, eCat_ap, eLenO_ap, iAny_ap, iter_str, iter_lst, tB_ap, tTru_ap, tAnd_ap, tOr_ap, tNot_ap, eOp_ap, eVar_ap, eC_ap, aNil_ap, aCons_ap, eCall_ap, eBlt_ap, eIf_ap, eAnd_ap, eOr_ap, eNot_ap, eMt0_ap, eMt_ap, eSl_ap, oNone_ap, oSome_ap, someInt_int, List.getElem?_cons_zero, List.getElem?_cons_succ, List.set_cons_succ, List.set_cons_zero, getV_val, getO_own, Rs.bind_ok, Fl.of_ok, thn_nx, thn_rt, flRes_rt, noEx_ok, boolOf_bl, truD_bl, addD_i, subD_i, ltI_i, leD_i, gtD_i, geD_i, eqD_i, eqD_s, neD_i, neD_s, lenD_lst, gNm_ap, if_true, Bool.false_eq_true, if_false, Bool.not_true, Bool.not_false, is_tl, tl_0, h, decide_true]
      · rw [if_neg h]
        simp only [sSeq_ap, sSet_ap, sSetO_ap, sIf_ap, sRet_ap, sRetO_ap, ownAt_ap, sNext_ap, sFor_ap, sApp_ap, sPut_ap, eIxO_ap, eCat_ap, eLenO_ap, iAny_ap, iter_str, iter_lst, tB_ap, tTru_ap, tAnd_ap, tOr_ap, tNot_ap, eOp_ap, eVar_ap, eC_ap, aNil_ap, aCons_ap, eCall_ap, eBlt_ap, eIf_ap, eAnd_ap, eOr_ap, eNot_ap, eMt0_ap, eMt_ap, eSl_ap, oNone_ap, oSome_ap, someInt_int, List.getElem?_cons_zero, List.getElem?_cons_succ, List.set_cons_succ, List.set_cons_zero, getV_val, getO_own, Rs.bind_ok, Fl.of_ok, thn_nx, thn_rt, flRes_rt, noEx_ok, boolOf_bl, truD_bl, addD_i, subD_i, ltI_i, leD_i, gtD_i, geD_i, eqD_i, eqD_s, neD_i, neD_s, lenD_lst, gNm_ap, if_true, Bool.false_eq_true, if_false, Bool.not_true, Bool.not_false, is_tl, tl_0, h, decide_false]
    rw [List.map_cons, loopD, gNm_ap, Fl.of_ok]
    simp only [List.set_cons_succ, List.set_cons_zero, this]
    rw [ih]
    rfl
theorem fm_ok (ts : List Tl) : m_first_of_most [.lst (ts.map tlD)] = .ok (optD (fmost ts none)) := by
  have st : startD 3 [.lst (ts.map tlD)] = [some (.val (.lst (ts.map tlD))), none, none] := rfl
  obtain ⟨s', h⟩ := fm_loop (.lst (ts.map tlD)) ts none none
  unfold fmBody at h
  unfold m_first_of_most b_first_of_most
  rw [runF_ap, st]
  simp only [optD] at h
  simp only [sSeq_ap, sSet_ap, sSetO_ap, sIf_ap, sRet_ap, sRetO_ap, ownAt_ap, sNext_ap, sFor_ap, sApp_ap, sPut_ap, eIxO_ap, eCat_ap, eLenO_ap, iAny_ap, iter_str, iter_lst, tB_ap, tTru_ap, tAnd_ap, tOr_ap, tNot_ap, eOp_ap, eVar_ap, eC_ap, aNil_ap, aCons_ap, eCall_ap, eBlt_ap, eIf_ap, eAnd_ap, eOr_ap, eNot_ap, eMt0_ap, eMt_ap, eSl_ap, oNone_ap, oSome_ap, someInt_int, List.getElem?_cons_zero, List.getElem?_cons_succ, List.set_cons_succ, List.set_cons_zero, getV_val, getO_own, Rs.bind_ok, Fl.of_ok, thn_nx, thn_rt, flRes_rt, noEx_ok, boolOf_bl, truD_bl, addD_i, subD_i, ltI_i, leD_i, gtD_i, geD_i, eqD_i, eqD_s, neD_i, neD_s, lenD_lst, gNm_ap, if_true, Bool.false_eq_true, if_false, Bool.not_true, Bool.not_false, h]
  rfl
theorem size2 : ∀ a b : D, ([a, b] : List D).length ≤ sizeLine := fun a b => by rw [sizeLine_v]; exact Nat.le_of_ble_eq_true rfl
theorem size1 : ∀ a : D, ([a] : List D).length ≤ sizeLine := fun a => by rw [sizeLine_v]; exact Nat.le_of_ble_eq_true rfl
theorem tup2 {fa fb : FE} {τ : DS} {a b : D} (h1 : fa τ = .ok a) (h2 : fb τ = .ok b) : eTup (aCons fa (aCons fb aNil)) τ = .ok (.tup [a, b]) := by
  rw [eTup_ap, aCons_ap, h1, Rs.bind_ok, aCons_ap, h2, Rs.bind_ok, aNil_ap, Rs.bind_ok, Rs.bind_ok, Rs.bind_ok]
  exact if_pos (size2 a b)
theorem lst1e {fa : FE} {τ : DS} {a : D} (h1 : fa τ = .ok a) : eLst (aCons fa aNil) τ = .ok (.lst [a]) := by
  rw [eLst_ap, aCons_ap, h1, Rs.bind_ok, aNil_ap, Rs.bind_ok, Rs.bind_ok]
  exact if_pos (size1 a)
theorem call1 {f : List D → Rs D} {fa : FE} {τ : DS} {a d : D} (h1 : fa τ = .ok a) (h : f [a] = .ok d) : eCall f (aCons fa aNil) τ = .ok d := by
  rw [eCall_ap, aCons_ap, h1, Rs.bind_ok, aNil_ap, Rs.bind_ok, Rs.bind_ok, h]; rfl
theorem call2 {f : List D → Rs D} {fa fb : FE} {τ : DS} {a b d : D} (h1 : fa τ = .ok a) (h2 : fb τ = .ok b) (h : f [a, b] = .ok d) : eCall f (aCons fa (aCons fb aNil)) τ = .ok d := by
  rw [eCall_ap, aCons_ap, h1, Rs.bind_ok, aCons_ap, h2, Rs.bind_ok, aNil_ap, Rs.bind_ok, Rs.bind_ok, Rs.bind_ok, h]; rfl
theorem call3 {f : List D → Rs D} {fa fb fc : FE} {τ : DS} {a b c d : D} (h1 : fa τ = .ok a) (h2 : fb τ = .ok b) (h3 : fc τ = .ok c) (h : f [a, b, c] = .ok d) : eCall f (aCons fa (aCons fb (aCons fc aNil))) τ = .ok d := by
  rw [eCall_ap, aCons_ap, h1, Rs.bind_ok, aCons_ap, h2, Rs.bind_ok, aCons_ap, h3, Rs.bind_ok, aNil_ap, Rs.bind_ok, Rs.bind_ok, Rs.bind_ok, Rs.bind_ok, h]; rfl
theorem op2 {op : D → D → Rs D} {fa fb : FE} {τ : DS} {a b : D} {r : Rs D} (h1 : fa τ = .ok a) (h2 : fb τ = .ok b) (h : op a b = r) : eOp op fa fb τ = r := by
  rw [eOp_ap, h1, Rs.bind_ok, h2, Rs.bind_ok, h]
theorem var_ok {n : Nat} {τ : DS} {d : D} (h : τ[n]? = some (some (.val d))) : eVar n τ = .ok d := by rw [eVar_ap, h]; rfl
theorem comp_ok {k : Nat} {idx : List Nat} {fi : FA} {set : FG} {ft : FT} {fe : FE} {τ : DS} {ds xs : List D} (h1 : fi τ = .ok ds) (h2 : compL set ft fe (tau0 k idx τ) ds = .ok xs) (h3 : xs.length ≤ 1000) : eComp k idx fi set ft fe τ = .ok xs := by
  unfold eComp
  rw [h1, Rs.bind_ok, h2]
  exact if_pos (by rw [sizeLine_v]; omega)
theorem tru_ok {fe : FE} {τ : DS} {b : Bool} (h : fe τ = .ok (.bl b)) : tTru fe τ = .ok b := by rw [tTru_ap, h]; rfl
theorem tB_ok {fe : FE} {τ : DS} {b : Bool} (h : fe τ = .ok (.bl b)) : FD.tB fe τ = .ok b := by rw [tB_ap, h]; rfl
theorem rng_ok {fa : FE} {τ : DS} {n : Nat} (h : fa τ = .ok (.int (n : Int))) (hn : n ≤ 1000) : iRg1 (aCons fa aNil) τ = .ok ((List.range n).map fun (k : Nat) => D.int (0 + k)) := by
  rw [rg1_ok (j := (n : Int)) (by rw [aCons_ap, h, Rs.bind_ok, aNil_ap, Rs.bind_ok]) (by omega) (by omega), Int.toNat_natCast]; rfl
theorem blt1 {g : List D → Rs D} {fa : FE} {τ : DS} {a d : D} (h1 : fa τ = .ok a) (h : g [a] = .ok d) : eBlt g (aCons fa aNil) τ = .ok d := by
  rw [eBlt_ap, aCons_ap, h1, Rs.bind_ok, aNil_ap, Rs.bind_ok, Rs.bind_ok, h]
theorem last_tails_ok (a : Nat) (x : List Nat) (ha : a < 128) (hx : x.length ≤ 1000) : m_last_sign_tails [signD a, tx x] = .ok (.lst ((lastT a x).map tlD)) := by
  have st : startD 2 [signD a, tx x] = [some (.val (signD a)), some (.val (tx x))] := rfl
  have cf := comp_filter (set := gNm 0) (ft := (tTru (eCall m_meets (aCons (eVar 1) (aCons (eOp ixD (eVar 2) (eVar 0)) aNil))))) (fe := (eTup (aCons (eCall m_own_points (aCons (eVar 1) (aCons (eVar 2) (aCons (eVar 0) aNil)))) (aCons (eLst (aCons (eVar 0) aNil)) aNil)))) (τ := [none, some (.val (signD a)), some (.val (tx x))])
    (fun (k : Nat) => D.int (0 + k)) (fun (p : Nat) => tlD (ownP a x p, [p])) (fun p => meetC a (x.getD p 0)) (List.range x.length) fun p hp => by
      have hp := List.mem_range.mp hp
      refine ⟨[some (.val (.int (p : Int))), some (.val (signD a)), some (.val (tx x))], by rw [Int.zero_add]; rfl, ?_, ?_⟩
      · exact tru_ok (call2 (var_ok rfl) (op2 (var_ok rfl) (var_ok rfl) (tx_at x p hp hx)) (meets_ok a _ ha))
      · exact tup2 (call3 (var_ok rfl) (var_ok rfl) (var_ok rfl) (own_ok a x p hx hp)) (lst1e (var_ok rfl))
  have hlen : (((List.range x.length).filter fun p => meetC a (x.getD p 0)).map fun (p : Nat) => tlD (ownP a x p, [p])).length ≤ 1000 := by
    rw [List.length_map]
    have := List.length_filter_le (fun p => meetC a (x.getD p 0)) (List.range x.length)
    rw [List.length_range] at this; omega
  have ec := comp_ok (k := 1) (idx := [0, 1]) (fi := iRg1 (aCons (eBlt lenD (aCons (eVar 1) aNil)) aNil)) (τ := [some (.val (signD a)), some (.val (tx x))]) (rng_ok (blt1 (var_ok rfl) (tx_len x hx)) hx) cf hlen
  unfold m_last_sign_tails b_last_sign_tails
  rw [runF_ap, st, sRet_ap]
  simp only [ec, Rs.bind_ok, Fl.of_ok, flRes_rt]
  unfold lastT
  rw [List.map_map]
  rfl
theorem linked_ok (p : Nat) (ts : List Tl) (hs : ts.length ≤ 1000) (hn : ∀ t ∈ ts, 0 < t.2.length) : m_linked_tails [.int (p : Int), .lst (ts.map tlD)] = .ok (.lst ((linkT p ts).map tlD)) := by
  have st : startD 2 [.int (p : Int), .lst (ts.map tlD)] = [some (.val (.int (p : Int))), some (.val (.lst (ts.map tlD)))] := rfl
  have cf := comp_filter (set := gNm 0) (ft := (FD.tB (eOp gtD (eOp ixD (eOp ixD (eVar 0) (eC (.int 1))) (eC (.int 0))) (eVar 1)))) (fe := (eTup (aCons (eOp addD (eOp ixD (eVar 0) (eC (.int 0))) (eCall m_link_points (aCons (eVar 1) (aCons (eOp ixD (eOp ixD (eVar 0) (eC (.int 1))) (eC (.int 0))) aNil)))) (aCons (eOp ixD (eVar 0) (eC (.int 1))) aNil)))) (τ := [none, some (.val (.int (p : Int)))])
    tlD (fun t => tlD (t.1 + linkP p (t.2.getD 0 0), t.2)) (fun t => decide (p < t.2.getD 0 0)) ts fun t ht => by
      refine ⟨[some (.val (tlD t)), some (.val (.int (p : Int)))], rfl, ?_, ?_⟩
      · have := nts_ix0 t.2 (hn t ht)
        refine tB_ok (op2 (op2 (op2 (var_ok rfl) rfl (tl_1 t)) rfl this) (var_ok rfl) ?_)
        rw [gtD_i]
        congr 2
        exact decide_eq_decide.mpr (by omega)
      · have := nts_ix0 t.2 (hn t ht)
        exact tup2 (op2 (op2 (var_ok rfl) rfl (tl_0 t)) (call2 (var_ok rfl) (op2 (op2 (var_ok rfl) rfl (tl_1 t)) rfl this) (link_ok p _)) (addD_i)) (op2 (var_ok rfl) rfl (tl_1 t))
  have hlen : ((ts.filter fun t => decide (p < t.2.getD 0 0)).map fun t => tlD (t.1 + linkP p (t.2.getD 0 0), t.2)).length ≤ 1000 := by
    rw [List.length_map]
    have := List.length_filter_le (fun t : Tl => decide (p < t.2.getD 0 0)) ts
    omega
  have it : iAny (eVar 1) [some (.val (.int (p : Int))), some (.val (.lst (ts.map tlD)))] = .ok (ts.map tlD) := rfl
  have ec := comp_ok (k := 1) (idx := [0]) (τ := [some (.val (.int (p : Int))), some (.val (.lst (ts.map tlD)))]) it cf hlen
  unfold m_linked_tails b_linked_tails
  rw [runF_ap, st, sRet_ap]
  simp only [ec, Rs.bind_ok, Fl.of_ok, flRes_rt]
  unfold linkT
  rw [List.map_map]
  rfl
def lgBody : FS := (sIf (tTru (eCall m_meets (aCons (eVar 0) (aCons (eOp ixD (eVar 1) (eVar 4)) aNil)))) (sSeq (sSet 5 (eCall m_first_of_most (aCons (eCall m_linked_tails (aCons (eVar 4) (aCons (eVar 2) aNil))) aNil)))
      (sIf (FD.tB (eOp isNotD (eVar 5) (eC .non))) (sApp 3 (eTup (aCons (eOp addD (eCall m_own_points (aCons (eVar 0) (aCons (eVar 1) (aCons (eVar 4) aNil)))) (eOp ixD (eVar 5) (eC (.int 0)))) (aCons (eOp addD (eLst (aCons (eVar 4) aNil)) (eOp ixD (eVar 5) (eC (.int 1)))) aNil)))) sNext)) sNext)
theorem cat_place (p : Nat) (l : List Nat) (h : l.length ≤ 1000) : addD (.lst [.int (p : Int)]) (nts l) = .ok (nts (p :: l)) := by
  show (if _ then Rs.ok (D.lst _) else Rs.no) = _
  rw [if_pos (by rw [sizeLine_v, List.length_map, List.length_singleton]; omega)]
  rfl
theorem link_len (p : Nat) (ts : List Tl) : ∀ t, fmost (linkT p ts) none = some t → ∃ u ∈ ts, t.2 = u.2 := fun t h => by
  rcases fmost_mem _ _ _ h with g | g
  · simp only [linkT, List.mem_map, List.mem_filter] at g
    obtain ⟨u, ⟨g1, _⟩, rfl⟩ := g
    exact ⟨u, g1, rfl⟩
  · cases g
theorem lg_step (a : Nat) (x : List Nat) (ts acc : List Tl) (p : Nat) (s5 : Option Sl) (ha : a < 128) (hx : x.length ≤ 1000) (hs : ts.length ≤ 1000) (hn : ∀ t ∈ ts, 0 < t.2.length ∧ t.2.length ≤ 1000) (hp : p < x.length) (hc : acc.length ≤ 1000) :
    ∃ s', lgBody [some (.val (signD a)), some (.val (tx x)), some (.val (.lst (ts.map tlD))), some (.own (acc.map tlD)), some (.val (.int (p : Int))), s5] = .nx [some (.val (signD a)), some (.val (tx x)), some (.val (.lst (ts.map tlD))), some (.own ((acc ++ (longF a x ts p).toList).map tlD)), some (.val (.int (p : Int))), s'] := by
  have hm := meets_ok a (x.getD p 0) ha
  have hlk := linked_ok p ts hs fun t ht => (hn t ht).1
  have hfm := fm_ok (linkT p ts)
  have how := own_ok a x p hx hp
  have hix := tx_at x p hp hx
  have hsz : (acc.map tlD).length < sizeLine := by rw [sizeLine_v, List.length_map]; omega
  unfold lgBody longF
  generalize m_meets = fa at hm ⊢
  generalize m_linked_tails = fb at hlk ⊢
  generalize m_first_of_most = fc at hfm ⊢
  generalize m_own_points = fd at how ⊢
  by_cases h : meetC a (x.getD p 0) = true
  · rw [if_pos h]
    rw [h] at hm
    cases e : fmost (linkT p ts) none with
    | none =>
      rw [e] at hfm
      refine ⟨some (.val .non), ?_⟩
      simp only [sSeq_ap, sSet_ap, sSetO_ap, sIf_ap, sRet_ap, sRetO_ap, ownAt_ap, sNext_ap, sFor_ap, sApp_ap, sPut_ap, eIxO_ap, eCat_ap, eLenO_ap, iAny_ap, iter_str, iter_lst, tB_ap, tTru_ap, tAnd_ap, tOr_ap, tNot_ap, eOp_ap, eVar_ap, eC_ap, aNil_ap, aCons_ap, eCall_ap, eBlt_ap, eIf_ap, eAnd_ap, eOr_ap, eNot_ap, eMt0_ap, eMt_ap, eSl_ap, oNone_ap, oSome_ap, someInt_int, List.getElem?_cons_zero, List.getElem?_cons_succ, List.set_cons_succ, List.set_cons_zero, getV_val, getO_own, Rs.bind_ok, Fl.of_ok, thn_nx, thn_rt, flRes_rt, noEx_ok, boolOf_bl, truD_bl, addD_i, subD_i, ltI_i, leD_i, gtD_i, geD_i, eqD_i, eqD_s, neD_i, neD_s, lenD_lst, gNm_ap, if_true, Bool.false_eq_true, if_false, Bool.not_true, Bool.not_false, hix, hm, hlk, hfm, optD, isNot_non, Option.map_none, Option.toList_none, List.append_nil]
    | some t =>
      rw [e] at hfm
      obtain ⟨u, u1, u2⟩ := link_len p ts t e
      have hct := cat_place p t.2 (by rw [u2]; exact (hn u u1).2)
      refine ⟨some (.val (tlD t)), ?_⟩
      have tp : eTup (aCons (eOp addD (eCall fd (aCons (eVar 0) (aCons (eVar 1) (aCons (eVar 4) aNil)))) (eOp ixD (eVar 5) (eC (.int 0)))) (aCons (eOp addD (eLst (aCons (eVar 4) aNil)) (eOp ixD (eVar 5) (eC (.int 1)))) aNil)) [some (.val (signD a)), some (.val (tx x)), some (.val (.lst (ts.map tlD))), some (.own (acc.map tlD)), some (.val (.int (p : Int))), some (.val (tlD t))] = .ok (tlD (ownP a x p + t.1, p :: t.2)) :=
        tup2 (op2 (call3 (var_ok rfl) (var_ok rfl) (var_ok rfl) how) (op2 (var_ok rfl) rfl (tl_0 t)) addD_i) (op2 (lst1e (var_ok rfl)) (op2 (var_ok rfl) rfl (tl_1 t)) hct)
      simp only [sSeq_ap, sSet_ap, sSetO_ap, sIf_ap, sRet_ap, sRetO_ap, ownAt_ap, sNext_ap, sFor_ap, sApp_ap, sPut_ap, eIxO_ap, eCat_ap, eLenO_ap, iAny_ap, iter_str, iter_lst, tB_ap, tTru_ap, tAnd_ap, tOr_ap, tNot_ap, eOp_ap, eVar_ap, eC_ap, aNil_ap, aCons_ap, eCall_ap, eBlt_ap, eIf_ap, eAnd_ap, eOr_ap, eNot_ap, eMt0_ap, eMt_ap, eSl_ap, oNone_ap, oSome_ap, someInt_int, List.getElem?_cons_zero, List.getElem?_cons_succ, List.set_cons_succ, List.set_cons_zero, getV_val, getO_own, Rs.bind_ok, Fl.of_ok, thn_nx, thn_rt, flRes_rt, noEx_ok, boolOf_bl, truD_bl, addD_i, subD_i, ltI_i, leD_i, gtD_i, geD_i, eqD_i, eqD_s, neD_i, neD_s, lenD_lst, gNm_ap, if_true, Bool.false_eq_true, if_false, Bool.not_true, Bool.not_false, hix, hm, hlk, hfm, optD, isNot_tl, tp, hsz, Option.map_some, Option.toList_some, List.map_append, List.map_cons, List.map_nil]
  · have h' : meetC a (x.getD p 0) = false := by simpa using h
    rw [h'] at hm
    rw [if_neg h]
    refine ⟨s5, ?_⟩
    simp only [sSeq_ap, sSet_ap, sSetO_ap, sIf_ap, sRet_ap, sRetO_ap, ownAt_ap, sNext_ap, sFor_ap, sApp_ap, sPut_ap, eIxO_ap, eCat_ap, eLenO_ap, iAny_ap, iter_str, iter_lst, tB_ap, tTru_ap, tAnd_ap, tOr_ap, tNot_ap, eOp_ap, eVar_ap, eC_ap, aNil_ap, aCons_ap, eCall_ap, eBlt_ap, eIf_ap, eAnd_ap, eOr_ap, eNot_ap, eMt0_ap, eMt_ap, eSl_ap, oNone_ap, oSome_ap, someInt_int, List.getElem?_cons_zero, List.getElem?_cons_succ, List.set_cons_succ, List.set_cons_zero, getV_val, getO_own, Rs.bind_ok, Fl.of_ok, thn_nx, thn_rt, flRes_rt, noEx_ok, boolOf_bl, truD_bl, addD_i, subD_i, ltI_i, leD_i, gtD_i, geD_i, eqD_i, eqD_s, neD_i, neD_s, lenD_lst, gNm_ap, if_true, Bool.false_eq_true, if_false, Bool.not_true, Bool.not_false, hix, hm, Option.toList_none, List.append_nil]
theorem filterMap_snoc (f : Nat → Option Tl) (k : Nat) : (List.range (k + 1)).filterMap f = (List.range k).filterMap f ++ (f k).toList := by
  rw [List.range_succ, List.filterMap_append]
  simp only [List.filterMap_cons, List.filterMap_nil]
  cases h : f k <;> rfl
theorem longT_len (f : Nat → Option Tl) (k : Nat) : ((List.range k).filterMap f).length ≤ k := by
  have := List.length_filterMap_le f (List.range k)
  rwa [List.length_range] at this
theorem lg_loop (a : Nat) (x : List Nat) (ts : List Tl) (ha : a < 128) (hx : x.length ≤ 1000) (hs : ts.length ≤ 1000) (hn : ∀ t ∈ ts, 0 < t.2.length ∧ t.2.length ≤ 1000) :
    ∃ s4 s5, loopD (gNm 4) lgBody ((List.range x.length).map fun (k : Nat) => D.int (0 + k)) [some (.val (signD a)), some (.val (tx x)), some (.val (.lst (ts.map tlD))), some (.own []), none, none] = .nx [some (.val (signD a)), some (.val (tx x)), some (.val (.lst (ts.map tlD))), some (.own ((longT a x ts).map tlD)), s4, s5] := by
  obtain ⟨τ', h1, s4, s5, h2⟩ := loop_inv0 (set := gNm 4) (body := lgBody) (fun (k : Nat) => D.int (0 + k)) (fun k τ => ∃ s4 s5, τ = [some (.val (signD a)), some (.val (tx x)), some (.val (.lst (ts.map tlD))), some (.own (((List.range k).filterMap (longF a x ts)).map tlD)), s4, s5]) x.length
    [some (.val (signD a)), some (.val (tx x)), some (.val (.lst (ts.map tlD))), some (.own []), none, none] ⟨_, _, rfl⟩ fun k τ hk ⟨s4, s5, e⟩ => by
      subst e
      obtain ⟨s', g⟩ := lg_step a x ts ((List.range k).filterMap (longF a x ts)) k s5 ha hx hs hn hk (by have := longT_len (longF a x ts) k; omega)
      have e0 : (0 : Int) + (k : Int) = (k : Int) := by omega
      rw [filterMap_snoc]
      exact ⟨_, _, by rw [e0]; exact gNm_ap, g, _, _, rfl⟩
  subst h2
  exact ⟨s4, s5, h1⟩
theorem gen_lg (bd : FS) (ri : FA) (A B C : D) (n : Nat) (P : List D) (s4 s5 : Option Sl) (r1 : ri [some (.val A), some (.val B), some (.val C), some (.own []), none, none] = .ok ((List.range n).map fun (k : Nat) => D.int (0 + k)))
    (h1 : loopD (gNm 4) bd ((List.range n).map fun (k : Nat) => D.int (0 + k)) [some (.val A), some (.val B), some (.val C), some (.own []), none, none] = .nx [some (.val A), some (.val B), some (.val C), some (.own P), s4, s5]) :
    runF 6 (sSeq (sSetO 3 (fun τ => (aNil τ).bind fun ds => if ds.length ≤ sizeLine then .ok ds else .no)) (sSeq (sFor ri (gNm 4) bd) (sRetO 3))) [A, B, C] = .ok (.lst P) := by
  have st : startD 6 [A, B, C] = [some (.val A), some (.val B), some (.val C), none, none, none] := rfl
  rw [runF_ap, st]
  simp only [sSeq_ap, sSet_ap, sSetO_ap, sIf_ap, sRet_ap, sRetO_ap, ownAt_ap, sNext_ap, sFor_ap, sApp_ap, sPut_ap, eIxO_ap, eCat_ap, eLenO_ap, iAny_ap, iter_str, iter_lst, tB_ap, tTru_ap, tAnd_ap, tOr_ap, tNot_ap, eOp_ap, eVar_ap, eC_ap, aNil_ap, aCons_ap, eCall_ap, eBlt_ap, eIf_ap, eAnd_ap, eOr_ap, eNot_ap, eMt0_ap, eMt_ap, eSl_ap, oNone_ap, oSome_ap, someInt_int, List.getElem?_cons_zero, List.getElem?_cons_succ, List.set_cons_succ, List.set_cons_zero, getV_val, getO_own, Rs.bind_ok, Fl.of_ok, thn_nx, thn_rt, flRes_rt, noEx_ok, boolOf_bl, truD_bl, addD_i, subD_i, ltI_i, leD_i, gtD_i, geD_i, eqD_i, eqD_s, neD_i, neD_s, lenD_lst, gNm_ap, if_true, Bool.false_eq_true, if_false, Bool.not_true, Bool.not_false, List.length_nil, Nat.zero_le, r1, h1]
theorem longer_b : b_longer_tails = (sSeq (sSetO 3 (fun τ => (aNil τ).bind fun ds => if ds.length ≤ sizeLine then .ok ds else .no)) (sSeq (sFor (iRg1 (aCons (eBlt lenD (aCons (eVar 1) aNil)) aNil)) (gNm 4) lgBody) (sRetO 3))) := by unfold b_longer_tails lgBody; rfl
theorem longer_ok (a : Nat) (x : List Nat) (ts : List Tl) (ha : a < 128) (hx : x.length ≤ 1000) (hs : ts.length ≤ 1000) (hn : ∀ t ∈ ts, 0 < t.2.length ∧ t.2.length ≤ 1000) : m_longer_tails [signD a, tx x, .lst (ts.map tlD)] = .ok (.lst ((longT a x ts).map tlD)) := by
  obtain ⟨s4, s5, h1⟩ := lg_loop a x ts ha hx hs hn
  unfold m_longer_tails
  rw [longer_b]
  exact gen_lg _ _ _ _ _ x.length _ _ _ (rng_ok (blt1 (var_ok rfl) (tx_len x hx)) hx) h1
theorem tails_len (x : List Nat) : ∀ q : List Nat, (tailsR q x).length ≤ x.length
  | [] => by simp [tailsR]
  | [a] => by
    simp only [tailsR, lastT, List.length_map]
    have := List.length_filter_le (fun p => meetC a (x.getD p 0)) (List.range x.length)
    rwa [List.length_range] at this
  | a :: b :: q => by simp only [tailsR, longT]; exact longT_len _ _
theorem tails_in (q x : List Nat) (hq : q ≠ []) (hl : q.length ≤ 1000) : ∀ t ∈ tailsR q x, 0 < t.2.length ∧ t.2.length ≤ 1000 := fun t ht => by
  have := (tails_sound x q t ht).1.len
  have : 0 < q.length := List.length_pos_iff.mpr hq
  omega
def bsBody : FS := (sSet 2 (eCall m_longer_tails (aCons (eOp ixD (eVar 0) (eVar 3)) (aCons (eVar 1) (aCons (eVar 2) aNil)))))
theorem bs_loop (q x : List Nat) (m : Nat) (hm : q.length = m + 1) (hq : q.length ≤ 1000) (hx : x.length ≤ 1000) (ha : ∀ c ∈ q, c < 128) :
    ∃ s, loopD (gNm 3) bsBody (rngDn ((m : Int) - 1) m) [some (.val (tx q)), some (.val (tx x)), some (.val (.lst ((tailsR (q.drop m) x).map tlD))), none] = .nx [some (.val (tx q)), some (.val (tx x)), some (.val (.lst ((tailsR q x).map tlD))), s] := by
  obtain ⟨τ', h1, s, h2⟩ := loop_inv0 (set := gNm 3) (body := bsBody) (fun (k : Nat) => D.int ((m : Int) - 1 - k)) (fun k τ => ∃ s, τ = [some (.val (tx q)), some (.val (tx x)), some (.val (.lst ((tailsR (q.drop (m - k)) x).map tlD))), s]) m
    [some (.val (tx q)), some (.val (tx x)), some (.val (.lst ((tailsR (q.drop m) x).map tlD))), none] ⟨_, rfl⟩ fun k τ hk ⟨s, e⟩ => by
      subst e
      obtain ⟨j, hj⟩ : ∃ j, m = j + 1 + k := ⟨m - 1 - k, by omega⟩
      have e0 : (m : Int) - 1 - (k : Int) = (j : Int) := by omega
      have d1 : q.drop (m - k) = q.drop (j + 1) := by congr 1; omega
      have d2 : q.drop (m - (k + 1)) = q.drop j := by congr 1; omega
      have hjq : j < q.length := by omega
      have hne : q.drop (j + 1) ≠ [] := fun h => by
        have := congrArg List.length h
        rw [List.length_drop] at this; simp at this; omega
      have hlg := longer_ok (q.getD j 0) x (tailsR (q.drop (j + 1)) x) (ha _ (List.mem_of_getElem? (get_some q j hjq))) hx (by have := tails_len x (q.drop (j + 1)); omega) (tails_in _ x hne (by rw [List.length_drop]; omega))
      have ht : longT (q.getD j 0) x (tailsR (q.drop (j + 1)) x) = tailsR (q.drop j) x := by
        have e1 : q.drop j = q.getD j 0 :: q.drop (j + 1) := by
          rw [List.drop_eq_getElem_cons hjq, List.getD_eq_getElem?_getD, List.getElem?_eq_getElem hjq]; rfl
        rw [e1]
        cases e2 : q.drop (j + 1) with
        | nil => exact absurd e2 hne
        | cons b r => rfl
      rw [ht] at hlg
      rw [d1, d2]
      refine ⟨[some (.val (tx q)), some (.val (tx x)), some (.val (.lst ((tailsR (q.drop (j + 1)) x).map tlD))), some (.val (.int (j : Int)))], [some (.val (tx q)), some (.val (tx x)), some (.val (.lst ((tailsR (q.drop j) x).map tlD))), some (.val (.int (j : Int)))], by rw [e0]; rfl, ?_, _, rfl⟩
      unfold bsBody
      rw [sSet_ap, call3 (op2 (var_ok rfl) (var_ok rfl) (tx_at q j hjq hq)) (var_ok rfl) (var_ok rfl) hlg, Fl.of_ok]
      rfl
  subst h2
  refine ⟨s, ?_⟩
  rw [Nat.sub_self, List.drop_zero] at h1
  exact h1
def ldE : FE := (fun τ => ((eComp 1 [] (iAny (eVar 2)) (gNm 0) (fun _ => .ok true) (eTup (aCons (eOp addD (eOp ixD (eVar 0) (eC (.int 0))) (eCall m_lead_points (aCons (eOp ixD (eOp ixD (eVar 0) (eC (.int 1))) (eC (.int 0))) aNil))) (aCons (eOp ixD (eVar 0) (eC (.int 1))) aNil)))) τ).bind fun ds => .ok (.lst ds))
theorem ld_ok (A B : D) (ts : List Tl) (s : Option Sl) (hs : ts.length ≤ 1000) (hn : ∀ t ∈ ts, 0 < t.2.length) : ldE [some (.val A), some (.val B), some (.val (.lst (ts.map tlD))), s] = .ok (.lst ((ts.map leadT).map tlD)) := by
  have cf := comp_map (set := gNm 0) (fe := (eTup (aCons (eOp addD (eOp ixD (eVar 0) (eC (.int 0))) (eCall m_lead_points (aCons (eOp ixD (eOp ixD (eVar 0) (eC (.int 1))) (eC (.int 0))) aNil))) (aCons (eOp ixD (eVar 0) (eC (.int 1))) aNil)))) (τ := [none]) tlD tlD leadT ts fun t ht => by
      refine ⟨[some (.val (tlD t))], rfl, ?_⟩
      have := nts_ix0 t.2 (hn t ht)
      exact tup2 (op2 (op2 (var_ok rfl) rfl (tl_0 t)) (call1 (op2 (op2 (var_ok rfl) rfl (tl_1 t)) rfl this) (lead_ok _)) addD_i) (op2 (var_ok rfl) rfl (tl_1 t))
  have it : iAny (eVar 2) [some (.val A), some (.val B), some (.val (.lst (ts.map tlD))), s] = .ok (ts.map tlD) := rfl
  have ec := comp_ok (k := 1) (idx := []) (τ := [some (.val A), some (.val B), some (.val (.lst (ts.map tlD))), s]) it cf (by simpa using hs)
  unfold ldE
  simp only [ec, Rs.bind_ok]
theorem best_b : b_best = (sSeq (sIf (FD.tB (eOp eqD (eBlt lenD (aCons (eVar 0) aNil)) (eC (.int 0)))) (sRet (eTup (aCons (eC (.int 0)) (aCons (eLst aNil) aNil)))) sNext)
      (sSeq (sSet 2 (eCall m_last_sign_tails (aCons (eOp ixD (eVar 0) (eNeg (eC (.int 1)))) (aCons (eVar 1) aNil))))
      (sSeq (sFor (iRg3 (aCons (eOp subD (eBlt lenD (aCons (eVar 0) aNil)) (eC (.int 2))) (aCons (eNeg (eC (.int 1))) (aCons (eNeg (eC (.int 1))) aNil)))) (gNm 3) bsBody)
      (sRet (eCall m_first_of_most (aCons ldE aNil)))))) := by unfold b_best bsBody ldE; rfl
theorem neg_ix (q : List Nat) (m : Nat) (hm : q.length = m + 1) (hq : q.length ≤ 1000) : ixD (tx q) (.int (-1)) = .ok (signD (q.getD m 0)) := by
  refine ixD_str ?_ (by rw [mk_len, sizeLine_v]; omega)
  have e : ixN q.length (-1) = some m := by
    unfold ixN
    rw [if_neg (by omega), if_pos (by omega)]
    congr 1; omega
  unfold atI
  show (ixN q.length (-1)).bind _ = _
  rw [e]
  exact get_some q m (by omega)
theorem bs_r3 (q x : List Nat) (T : D) (m : Nat) (hm : q.length = m + 1) (hq : q.length ≤ 1000) : iRg3 (aCons (eOp subD (eBlt lenD (aCons (eVar 0) aNil)) (eC (.int 2))) (aCons (eNeg (eC (.int 1))) (aCons (eNeg (eC (.int 1))) aNil))) [some (.val (tx q)), some (.val (tx x)), some (.val T), none] = .ok (rngDn ((m : Int) - 1) m) := by
  have a1 : eOp subD (eBlt lenD (aCons (eVar 0) aNil)) (eC (.int 2)) [some (.val (tx q)), some (.val (tx x)), some (.val T), none] = .ok (.int ((m : Int) - 1)) := by
    refine op2 (blt1 (var_ok rfl) (tx_len q hq)) rfl ?_
    rw [subD_i]; congr 2; omega
  have a2 : ∀ τ, eNeg (eC (.int 1)) τ = .ok (.int (-1)) := fun τ => rfl
  have r3 := rg3_ok (fs := aCons (eOp subD (eBlt lenD (aCons (eVar 0) aNil)) (eC (.int 2))) (aCons (eNeg (eC (.int 1))) (aCons (eNeg (eC (.int 1))) aNil))) (τ := [some (.val (tx q)), some (.val (tx x)), some (.val T), none]) (i := (m : Int) - 1) (j := -1)
    (by rw [aCons_ap, a1, Rs.bind_ok, aCons_ap, a2, Rs.bind_ok, aCons_ap, a2, Rs.bind_ok, aNil_ap, Rs.bind_ok, Rs.bind_ok, Rs.bind_ok]) (by omega) (by omega) (by omega) (by omega)
  rw [r3]
  congr 2
  omega
theorem gen_bs (g1 : FT) (g2 : FS) (e1 e2 : FE) (r3 : FA) (bd : FS) (A B T T' R : D) (L : List D) (s : Option Sl) (h0 : g1 [some (.val A), some (.val B), none, none] = .ok false) (h1 : e1 [some (.val A), some (.val B), none, none] = .ok T) (h2 : r3 [some (.val A), some (.val B), some (.val T), none] = .ok L) (h3 : loopD (gNm 3) bd L [some (.val A), some (.val B), some (.val T), none] = .nx [some (.val A), some (.val B), some (.val T'), s]) (h4 : e2 [some (.val A), some (.val B), some (.val T'), s] = .ok R) :
    runF 4 (sSeq (sIf g1 g2 sNext) (sSeq (sSet 2 e1) (sSeq (sFor r3 (gNm 3) bd) (sRet e2)))) [A, B] = .ok R := by
  have st : startD 4 [A, B] = [some (.val A), some (.val B), none, none] := rfl
  rw [runF_ap, st]
  simp only [sSeq_ap, sSet_ap, sSetO_ap, sIf_ap, sRet_ap, sRetO_ap, ownAt_ap, sNext_ap, sFor_ap, sApp_ap, sPut_ap, eIxO_ap, eCat_ap, eLenO_ap, iAny_ap, iter_str, iter_lst, tB_ap, tTru_ap, tAnd_ap, tOr_ap, tNot_ap, eOp_ap, eVar_ap, eC_ap, aNil_ap, aCons_ap, eCall_ap, eBlt_ap, eIf_ap, eAnd_ap, eOr_ap, eNot_ap, eMt0_ap, eMt_ap, eSl_ap, oNone_ap, oSome_ap, someInt_int, List.getElem?_cons_zero, List.getElem?_cons_succ, List.set_cons_succ, List.set_cons_zero, getV_val, getO_own, Rs.bind_ok, Fl.of_ok, thn_nx, thn_rt, flRes_rt, noEx_ok, boolOf_bl, truD_bl, addD_i, subD_i, ltI_i, leD_i, gtD_i, geD_i, eqD_i, eqD_s, neD_i, neD_s, lenD_lst, gNm_ap, if_true, Bool.false_eq_true, if_false, Bool.not_true, Bool.not_false, h0, h1, h2, h3, h4]
theorem best_ok (q x : List Nat) (hne : q ≠ []) (hq : q.length ≤ 1000) (hx : x.length ≤ 1000) (ha : ∀ c ∈ q, c < 128) : m_best [tx q, tx x] = .ok (optD (bestR q x)) := by
  have hpos : 0 < q.length := List.length_pos_iff.mpr hne
  obtain ⟨m, hm⟩ : ∃ m, q.length = m + 1 := ⟨q.length - 1, by omega⟩
  obtain ⟨s, hl⟩ := bs_loop q x m hm hq hx ha
  have hmem : q.getD m 0 ∈ q := List.mem_of_getElem? (get_some q m (by omega))
  have d : tailsR (q.drop m) x = lastT (q.getD m 0) x := by
    have e1 : q.drop m = [q.getD m 0] := by
      rw [List.drop_eq_getElem_cons (by omega), List.getD_eq_getElem?_getD, List.getElem?_eq_getElem (by omega : m < q.length), List.drop_eq_nil_of_le (by omega)]; rfl
    rw [e1]; rfl
  rw [d] at hl
  have h0 : FD.tB (eOp eqD (eBlt lenD (aCons (eVar 0) aNil)) (eC (.int 0))) [some (.val (tx q)), some (.val (tx x)), none, none] = .ok false := by
    refine tB_ok (op2 (blt1 (var_ok rfl) (tx_len q hq)) rfl ?_)
    rw [eqD_i]
    congr 2
    simp; exact hne
  have h1 : eCall m_last_sign_tails (aCons (eOp ixD (eVar 0) (eNeg (eC (.int 1)))) (aCons (eVar 1) aNil)) [some (.val (tx q)), some (.val (tx x)), none, none] = .ok (.lst ((lastT (q.getD m 0) x).map tlD)) :=
    call2 (op2 (var_ok rfl) rfl (neg_ix q m hm hq)) (var_ok rfl) (last_tails_ok _ x (ha _ hmem) hx)
  have h4 : eCall m_first_of_most (aCons ldE aNil) [some (.val (tx q)), some (.val (tx x)), some (.val (.lst ((tailsR q x).map tlD))), s] = .ok (optD (bestR q x)) :=
    call1 (ld_ok _ _ _ _ (by have := tails_len x q; omega) fun t ht => (tails_in q x hne hq t ht).1) (fm_ok _)
  unfold m_best
  rw [best_b]
  exact gen_bs _ _ _ _ _ _ _ _ _ _ _ _ _ h0 h1 (bs_r3 q x _ m hm hq) hl h4
end Law
set_option Elab.async false
set_option linter.all false
set_option maxHeartbeats 1000000
namespace Law
open PySem PySem.Spec PyProof.Rows L2 FD
abbrev hd0 (t : Tl) : Nat := t.2.getD 0 0
def Srt (ts : List Tl) : Prop := ts.Pairwise fun a b => hd0 a < hd0 b
def bestA (q x : List Nat) : Option Tl := if q = [] then some (0, []) else bestR q x
theorem lay_nil' (x : List Nat) : Lay [] x [] := ⟨rfl, fun j hj => by simp at hj, fun j hj => by simp at hj, fun j hj => by simp at hj⟩
end Law
set_option Elab.async false
set_option linter.all false
set_option maxHeartbeats 1000000
namespace FD
open PySem PySem.Spec PyProof.Rows L2
theorem chain_ok {op op' : D → D → Rs D} {fa fb fc : FE} {τ : DS} {a b c d : D} (h1 : fa τ = .ok a) (h2 : fb τ = .ok b) (h3 : fc τ = .ok c) (h4 : op a b = .ok (.bl true)) (h5 : op' b c = .ok d) : eChain op op' fa fb fc τ = .ok d := by
  unfold eChain
  simp only [h1, Rs.bind_ok, h2, h4, if_true, h3, h5]
theorem sl_ok {fe : FE} {fl fh : FO} {τ : DS} {d r : D} {l u : Option Int} (h1 : fe τ = .ok d) (h2 : fl τ = .ok l) (h3 : fh τ = .ok u) (h : slD d l u = .ok r) : eSl fe fl fh τ = .ok r := by
  rw [eSl_ap, h1, Rs.bind_ok, h2, Rs.bind_ok, h3, Rs.bind_ok, h]
theorem or_tr {f g : FT} {τ : DS} {b : Bool} (h1 : f τ = .ok false) (h2 : g τ = .ok b) : tOrD f g τ = .ok b := by rw [tOr_ap, h1, Rs.bind_ok, if_neg (by simp), h2]
end FD
namespace Law
open PySem PySem.Spec PyProof.Rows L2 FD
end Law
set_option Elab.async false
set_option linter.all false
set_option maxHeartbeats 1000000
namespace Law
open PySem PySem.Spec PyProof.Rows L2 FD
theorem nilE {τ : DS} : eLst aNil τ = .ok (.lst []) := by
  rw [eLst_ap, aNil_ap, Rs.bind_ok]; exact if_pos (Nat.zero_le _)
theorem abest_ok (q x : List Nat) (hq : q.length ≤ 1000) (hx : x.length ≤ 1000) (ha : ∀ c ∈ q, c < 128) : m_best [tx q, tx x] = .ok (optD (bestA q x)) := by
  by_cases z : q = []
  · subst z
    have st : startD 4 [tx [], tx x] = [some (.val (tx [])), some (.val (tx x)), none, none] := rfl
    have hl := tx_len [] (by simp)
    have hg : FD.tB (eOp eqD (eBlt lenD (aCons (eVar 0) aNil)) (eC (.int 0))) [some (.val (tx [])), some (.val (tx x)), none, none] = .ok true := tB_ok (op2 (blt1 (var_ok rfl) hl) rfl rfl)
    have he : eTup (aCons (eC (.int 0)) (aCons (eLst aNil) aNil)) [some (.val (tx [])), some (.val (tx x)), none, none] = .ok (.tup [.int 0, .lst []]) := tup2 rfl nilE
    unfold m_best
    rw [best_b, runF_ap, st, sSeq_ap, sIf_ap, hg, Fl.of_ok, if_pos rfl, sRet_ap, he]
    rfl
  · have := best_ok q x z hq hx ha
    rw [this]
    unfold bestA
    rw [if_neg z]
end Law
set_option Elab.async false
set_option linter.all false
set_option maxHeartbeats 1000000
namespace Law
open PySem PySem.Spec PyProof.Rows L2 FD
theorem gen_names (fc : FA) (g : FT) (fx : FE) (A B C : D) (L : List D) (b : Bool) (d : D) (h1 : fc [some (.val A), some (.val B), some (.val C), none] = .ok L) (h2 : g [some (.val A), some (.val B), some (.val C), some (.own L)] = .ok b)
    (h3 : b = true → fx [some (.val A), some (.val B), some (.val C), some (.own L)] = .ok d ∧ 0 < L.length) :
    runF 4 (sSeq (sSetO 3 fc) (sSeq (sIf g (sPut 3 (eC (.int 0)) fx) sNext) (sRetO 3))) [A, B, C] = .ok (.lst (if b = true then L.set 0 d else L)) := by
  have st : startD 4 [A, B, C] = [some (.val A), some (.val B), some (.val C), none] := rfl
  rw [runF_ap, st]
  cases b with
  | false => simp only [sSeq_ap, sSet_ap, sSetO_ap, sIf_ap, sRet_ap, sRetO_ap, ownAt_ap, sNext_ap, sFor_ap, sApp_ap, sPut_ap, eIxO_ap, eCat_ap, eLenO_ap, iAny_ap, iter_str, iter_lst, tB_ap, tTru_ap, tAnd_ap, tOr_ap, tNot_ap, eOp_ap, eVar_ap, eC_ap, aNil_ap, aCons_ap, eCall_ap, eBlt_ap, eIf_ap, eAnd_ap, eOr_ap, eNot_ap, eMt0_ap, eMt_ap, eSl_ap, oNone_ap, oSome_ap, someInt_int, List.getElem?_cons_zero, List.getElem?_cons_succ, List.set_cons_succ, List.set_cons_zero, getV_val, getO_own, Rs.bind_ok, Fl.of_ok, thn_nx, thn_rt, flRes_rt, noEx_ok, boolOf_bl, truD_bl, addD_i, subD_i, ltI_i, leD_i, gtD_i, geD_i, eqD_i, eqD_s, neD_i, neD_s, lenD_lst, gNm_ap, if_true, Bool.false_eq_true, if_false, Bool.not_true, Bool.not_false, h1, h2, sSetO_ap, sRetO_ap, ownAt_ap, getO_own, Bool.false_eq_true, if_false]
  | true =>
    obtain ⟨h3, h4⟩ := h3 rfl
    have hp := putAt_ok (n := 3) (τ := [some (.val A), some (.val B), some (.val C), some (.own L)]) (d := d) (j := 0) h4
    have e0 : (((0 : Nat) : Int)) = 0 := rfl
    rw [e0] at hp
    simp only [sSeq_ap, sSet_ap, sSetO_ap, sIf_ap, sRet_ap, sRetO_ap, ownAt_ap, sNext_ap, sFor_ap, sApp_ap, sPut_ap, eIxO_ap, eCat_ap, eLenO_ap, iAny_ap, iter_str, iter_lst, tB_ap, tTru_ap, tAnd_ap, tOr_ap, tNot_ap, eOp_ap, eVar_ap, eC_ap, aNil_ap, aCons_ap, eCall_ap, eBlt_ap, eIf_ap, eAnd_ap, eOr_ap, eNot_ap, eMt0_ap, eMt_ap, eSl_ap, oNone_ap, oSome_ap, someInt_int, List.getElem?_cons_zero, List.getElem?_cons_succ, List.set_cons_succ, List.set_cons_zero, getV_val, getO_own, Rs.bind_ok, Fl.of_ok, thn_nx, thn_rt, flRes_rt, noEx_ok, boolOf_bl, truD_bl, addD_i, subD_i, ltI_i, leD_i, gtD_i, geD_i, eqD_i, eqD_s, neD_i, neD_s, lenD_lst, gNm_ap, if_true, Bool.false_eq_true, if_false, Bool.not_true, Bool.not_false, h1, h2, h3, sSetO_ap, sRetO_ap, ownAt_ap, getO_own, sPut_ap, hp]
theorem namesb : b__law_names = (sSeq (sSetO 3 (eComp 1 [0, 1] (iRg1 (aCons (eCall m__law_drawn (aCons (eVar 0) (aCons (eVar 1) (aCons (eOp addD (eVar 2) (eC (.int 1))) aNil)))) aNil)) (gNm 0) (fun _ => .ok true) (eCall m__law_name (aCons (eVar 1) (aCons (eOp addD (eOp addD (eVar 2) (eC (.int 1))) (eOp mulD (eC (.int 12)) (eVar 0))) aNil)))))
      (sSeq (sIf (tAndD (FD.tB (eOp gtD (eLenO 3) (eC (.int 1)))) (FD.tB (eOp eqD (eCall m__law_drawn (aCons (eVar 0) (aCons (eOp addD (eVar 1) (eC (.int 12))) (aCons (eC (.int 5)) aNil)))) (eC (.int 0))))) (sPut 3 (eC (.int 0)) (eIxO 3 (eNeg (eC (.int 1))))) sNext)
      (sRetO 3))) := by unfold b__law_names; rfl
def NmOk (x : List Nat) : Prop := 0 < x.length ∧ x.length ≤ 10 ∧ ∀ c ∈ x, c ∈ NS
theorem nameL_ok (ns : List Int) (a : Int) (h0 : 0 ≤ a) : NmOk (nameL ns a (nameN ns a)) := by
  have d := draw_lt ns a (m := 10) (by decide)
  have hl : (nameL ns a (nameN ns a)).length = (1 + drawZ ns a 10).toNat := by simp [nameL, nameN]
  refine ⟨by rw [hl]; omega, by rw [hl]; omega, fun c hc => ?_⟩
  obtain ⟨k, _, rfl⟩ := List.mem_map.mp hc
  exact name_sign ns a k (by omega)
theorem and_b {f g : FT} {τ : DS} {b c : Bool} (h1 : f τ = .ok b) (h2 : b = true → g τ = .ok c) : tAndD f g τ = .ok (b && c) := by
  rw [tAnd_ap, h1, Rs.bind_ok]
  cases b with
  | false => rfl
  | true => rw [if_pos rfl, h2 rfl]; rfl
theorem names_ok (ns : List Int) (a most : Int) (h63 : ns.length ≤ 63) (h0 : 0 ≤ a) (ha : a < 800000) (hm0 : 0 ≤ most) (hm1 : most < 50) :
    ∃ X : List (List Nat), m__law_names [.scr ns, .int a, .int most] = .ok (.lst (X.map tx)) ∧ (X.length : Int) ≤ most ∧ ∀ x ∈ X, NmOk x := by
  have dl := draw_lt ns a (m := most + 1) (by omega)
  have dk := draw_ok ns a (most + 1) h63 h0 (by omega) (by omega)
  have dk2 := draw_ok ns (a + 12) 5 h63 (by omega) (by omega) (by decide)
  generalize hN : drawZ ns a (most + 1) = N at *
  generalize drawZ ns (a + 12) 5 = M at *
  have cf := comp_map (set := gNm 0) (fe := (eCall m__law_name (aCons (eVar 1) (aCons (eOp addD (eOp addD (eVar 2) (eC (.int 1))) (eOp mulD (eC (.int 12)) (eVar 0))) aNil)))) (τ := [none, some (.val (.scr ns)), some (.val (.int a))]) (fun (k : Nat) => D.int (0 + k)) tx
    (fun k => nameL ns (a + 1 + 12 * (k : Int)) (nameN ns (a + 1 + 12 * (k : Int)))) (List.range N.toNat) fun k hk => by
      have hk := List.mem_range.mp hk
      refine ⟨[some (.val (.int (k : Int))), some (.val (.scr ns)), some (.val (.int a))], by rw [Int.zero_add]; rfl, ?_⟩
      exact call2 (var_ok rfl) (op2 (op2 (var_ok rfl) rfl addD_i) (op2 rfl (var_ok rfl) (mulD_i (by omega))) addD_i) (name_ok ns _ h63 (by omega) (by omega))
  have it : iRg1 (aCons (eCall m__law_drawn (aCons (eVar 0) (aCons (eVar 1) (aCons (eOp addD (eVar 2) (eC (.int 1))) aNil)))) aNil) [some (.val (.scr ns)), some (.val (.int a)), some (.val (.int most)), none] = .ok ((List.range N.toNat).map fun (k : Nat) => D.int (0 + k)) :=
    rng_ok (n := N.toNat) (by rw [Int.toNat_of_nonneg dl.1]; exact call3 (var_ok rfl) (var_ok rfl) (op2 (var_ok rfl) rfl addD_i) dk) (by omega)
  have ec := comp_ok (k := 1) (idx := [0, 1]) it cf (by simp; omega)
  generalize hX0 : (List.range N.toNat).map (fun (k : Nat) => nameL ns (a + 1 + 12 * (k : Int)) (nameN ns (a + 1 + 12 * (k : Int)))) = X0 at ec cf
  have l0 : X0.length = N.toNat := by rw [← hX0]; simp
  have ok0 : ∀ x ∈ X0, NmOk x := fun x hx => by
    rw [← hX0] at hx
    obtain ⟨k, _, rfl⟩ := List.mem_map.mp hx
    exact nameL_ok ns _ (by omega)
  have hg : tAndD (FD.tB (eOp gtD (eLenO 3) (eC (.int 1)))) (FD.tB (eOp eqD (eCall m__law_drawn (aCons (eVar 0) (aCons (eOp addD (eVar 1) (eC (.int 12))) (aCons (eC (.int 5)) aNil)))) (eC (.int 0)))) [some (.val (.scr ns)), some (.val (.int a)), some (.val (.int most)), some (.own (X0.map tx))] = .ok (decide (1 < (X0.length : Int)) && (M == 0)) :=
    and_b (tB_ok (op2 (a := .int (X0.length : Int)) (by rw [eLenO_ap]; show Rs.ok (D.int ((X0.map tx).length : Int)) = _; rw [List.length_map]) rfl gtD_i)) fun _ => tB_ok (op2 (call3 (var_ok rfl) (op2 (var_ok rfl) rfl addD_i) rfl dk2) rfl eqD_i)
  have hne : (decide (1 < (X0.length : Int)) && (M == 0)) = true → 0 < X0.length := fun h => by
    rw [Bool.and_eq_true, decide_eq_true_eq] at h; omega
  have e := gen_names _ _ (eIxO 3 (eNeg (eC (.int 1)))) (.scr ns) (.int a) (.int most) (X0.map tx) _ (tx (X0.getD (X0.length - 1) [])) ec hg fun h => by
    have hp := hne h
    refine ⟨?_, by rw [List.length_map]; exact hp⟩
    rw [eIxO_ap]
    show (Rs.ok (X0.map tx)).bind (fun ds => (eNeg (eC (.int 1)) _).bind (ixO ds)) = _
    rw [Rs.bind_ok, eNeg_ap, eC_ap, Rs.bind_ok]
    show (Rs.ok (D.int (-1))).bind _ = _
    rw [Rs.bind_ok]
    unfold ixO
    have : atI (X0.map tx) (-1) = some (tx (X0.getD (X0.length - 1) [])) := by
      have e : ixN (X0.map tx).length (-1) = some (X0.length - 1) := by
        unfold ixN
        rw [List.length_map, if_neg (by omega), if_pos (by omega)]
        congr 1; omega
      unfold atI
      rw [e]
      show (X0.map tx)[X0.length - 1]? = _
      rw [List.getElem?_map, List.getElem?_eq_getElem (by omega)]
      simp [show X0.length - 1 < X0.length by omega]
    simp only [this]
  unfold m__law_names
  rw [namesb, e]
  cases hb : (decide (1 < (X0.length : Int)) && (M == 0)) with
  | false => exact ⟨X0, by rw [if_neg (by simp)], by omega, ok0⟩
  | true =>
    have hp := hne hb
    refine ⟨X0.set 0 (X0.getD (X0.length - 1) []), by rw [if_pos rfl, List.map_set], by rw [List.length_set]; omega, fun x hx => ?_⟩
    rcases List.mem_or_eq_of_mem_set hx with h | h
    · exact ok0 x h
    · rw [h]
      have : X0.getD (X0.length - 1) [] = X0[X0.length - 1]'(by omega) := by simp [show X0.length - 1 < X0.length by omega]
      rw [this]
      exact ok0 _ (List.getElem_mem _)
end Law
set_option Elab.async false
set_option linter.all false
set_option maxHeartbeats 1000000
namespace Law
open PySem PySem.Spec PyProof.Rows L2 FD
def plO (a : Nat) (x : List Nat) : List Int := ((List.range x.length).filter fun p => meetC a (x.getD p 0)).map (ownP a x)
def mostO (a : Nat) (x : List Nat) : Option Int := if plO a x = [] then none else some (mxI (plO a x))
def oI : Option Int → D
  | none => .non
  | some i => .int i
def bndF (x : List Nat) : List Nat → Nat → Int → Option Int
  | [], _, t => some t
  | a :: q, k, t => match mostO a x with
    | none => none
    | some m => bndF x q (k + 1) (t + m + if k = 0 then 0 else 7)
def bnd (q x : List Nat) : Option Int := bndF x q 0 0
theorem intsQ_map : ∀ is : List Int, intsQ (is.map D.int) = some is
  | [] => rfl
  | i :: is => by rw [List.map_cons, intsQ, intsQ_map is]; rfl
theorem plO_len (a : Nat) (x : List Nat) : (plO a x).length ≤ x.length := by
  unfold plO
  rw [List.length_map]
  have := List.length_filter_le (fun p => meetC a (x.getD p 0)) (List.range x.length)
  rw [List.length_range] at this; exact this
theorem plO_map (a : Nat) (x : List Nat) : (((List.range x.length).filter fun p => meetC a (x.getD p 0)).map fun p => D.int (ownP a x p)) = (plO a x).map D.int := by
  unfold plO; rw [List.map_map]; rfl
theorem most_ok (a : Nat) (x : List Nat) (ha : a < 128) (hx : x.length ≤ 1000) : m_most_of_sign [signD a, tx x] = .ok (oI (mostO a x)) := by
  have st : startD 2 [signD a, tx x] = [some (.val (signD a)), some (.val (tx x))] := rfl
  have cf := comp_filter (set := gNm 0) (ft := (tTru (eCall m_meets (aCons (eVar 1) (aCons (eOp ixD (eVar 2) (eVar 0)) aNil))))) (fe := (eCall m_own_points (aCons (eVar 1) (aCons (eVar 2) (aCons (eVar 0) aNil))))) (τ := [none, some (.val (signD a)), some (.val (tx x))])
    (fun (k : Nat) => D.int (0 + k)) (fun (p : Nat) => D.int (ownP a x p)) (fun p => meetC a (x.getD p 0)) (List.range x.length) fun p hp => by
      have hp := List.mem_range.mp hp
      refine ⟨[some (.val (.int (p : Int))), some (.val (signD a)), some (.val (tx x))], by rw [Int.zero_add]; rfl, ?_, ?_⟩
      · exact tru_ok (call2 (var_ok rfl) (op2 (var_ok rfl) (var_ok rfl) (tx_at x p hp hx)) (meets_ok a _ ha))
      · exact call3 (var_ok rfl) (var_ok rfl) (var_ok rfl) (own_ok a x p hx hp)
  rw [plO_map] at cf
  have ec := comp_ok (k := 1) (idx := [0, 1]) (fi := iRg1 (aCons (eBlt lenD (aCons (eVar 1) aNil)) aNil)) (τ := [some (.val (signD a)), some (.val (tx x))]) (rng_ok (blt1 (var_ok rfl) (tx_len x hx)) hx) cf (by rw [List.length_map]; exact Nat.le_trans (plO_len a x) hx)
  unfold m_most_of_sign b_most_of_sign
  rw [runF_ap, st, sRet_ap]
  unfold eMaxD
  simp only [ec, Rs.bind_ok, eC_ap, maxDD, intsQ_map, Fl.of_ok, flRes_rt]
  unfold mostO
  split <;> rfl
def bdBody : FS := (sSeq (sSet 5 (eCall m_most_of_sign (aCons (eVar 4) (aCons (eVar 1) aNil))))
      (sSeq (sIf (FD.tB (eOp isD (eVar 5) (eC .non))) (sRet (eC .non)) sNext)
      (sSeq (sAug 2 (intOp0 fun i j => .int (i + j)) (eVar 5))
      (sIf (FD.tB (eOp gtD (eVar 3) (eC (.int 0)))) (sAug 2 (intOp0 fun i j => .int (i + j)) (eC (.int 7))) sNext))))
theorem bd_b : b_bound = (sSeq (sSet 2 (eC (.int 0))) (sSeq (sFor (iEnS (aCons (eVar 0) aNil)) (gPr 3 4) bdBody) (sRet (eVar 2)))) := by unfold b_bound bdBody; rfl
theorem is_int (i : Int) : isD (.int i) .non = .ok (.bl false) := rfl
theorem gen_bd0 (e : FE) (r1 : FS) (a0 a1 a2 a3 a4 a5 : Option Sl) (h : e [a0, a1, a2, a3, a4, a5] = .ok .non) :
    (sSeq (sSet 5 e) (sSeq (sIf (FD.tB (eOp isD (eVar 5) (eC .non))) (sRet (eC .non)) sNext) r1)) [a0, a1, a2, a3, a4, a5] = .rt .non := by
  simp only [sSeq_ap, sSet_ap, sSetO_ap, sIf_ap, sRet_ap, sRetO_ap, ownAt_ap, sNext_ap, sFor_ap, sApp_ap, sPut_ap, eIxO_ap, eCat_ap, eLenO_ap, iAny_ap, iter_str, iter_lst, tB_ap, tTru_ap, tAnd_ap, tOr_ap, tNot_ap, eOp_ap, eVar_ap, eC_ap, aNil_ap, aCons_ap, eCall_ap, eBlt_ap, eIf_ap, eAnd_ap, eOr_ap, eNot_ap, eMt0_ap, eMt_ap, eSl_ap, oNone_ap, oSome_ap, someInt_int, List.getElem?_cons_zero, List.getElem?_cons_succ, List.set_cons_succ, List.set_cons_zero, getV_val, getO_own, Rs.bind_ok, Fl.of_ok, thn_nx, thn_rt, flRes_rt, noEx_ok, boolOf_bl, truD_bl, addD_i, subD_i, ltI_i, leD_i, gtD_i, geD_i, eqD_i, eqD_s, neD_i, neD_s, lenD_lst, gNm_ap, if_true, Bool.false_eq_true, if_false, Bool.not_true, Bool.not_false, h, is_non]
theorem gen_bd1 (e : FE) (a0 a1 a4 a5 : Option Sl) (t m k : Int) (h : e [a0, a1, some (.val (.int t)), some (.val (.int k)), a4, a5] = .ok (.int m)) :
    (sSeq (sSet 5 e) (sSeq (sIf (FD.tB (eOp isD (eVar 5) (eC .non))) (sRet (eC .non)) sNext) (sSeq (sAug 2 (intOp0 fun i j => .int (i + j)) (eVar 5)) (sIf (FD.tB (eOp gtD (eVar 3) (eC (.int 0)))) (sAug 2 (intOp0 fun i j => .int (i + j)) (eC (.int 7))) sNext)))) [a0, a1, some (.val (.int t)), some (.val (.int k)), a4, a5]
      = .nx [a0, a1, some (.val (.int (if 0 < k then t + m + 7 else t + m))), some (.val (.int k)), a4, some (.val (.int m))] := by
  by_cases z : 0 < k
  · simp only [sSeq_ap, sSet_ap, sSetO_ap, sIf_ap, sRet_ap, sRetO_ap, ownAt_ap, sNext_ap, sFor_ap, sApp_ap, sPut_ap, eIxO_ap, eCat_ap, eLenO_ap, iAny_ap, iter_str, iter_lst, tB_ap, tTru_ap, tAnd_ap, tOr_ap, tNot_ap, eOp_ap, eVar_ap, eC_ap, aNil_ap, aCons_ap, eCall_ap, eBlt_ap, eIf_ap, eAnd_ap, eOr_ap, eNot_ap, eMt0_ap, eMt_ap, eSl_ap, oNone_ap, oSome_ap, someInt_int, List.getElem?_cons_zero, List.getElem?_cons_succ, List.set_cons_succ, List.set_cons_zero, getV_val, getO_own, Rs.bind_ok, Fl.of_ok, thn_nx, thn_rt, flRes_rt, noEx_ok, boolOf_bl, truD_bl, addD_i, subD_i, ltI_i, leD_i, gtD_i, geD_i, eqD_i, eqD_s, neD_i, neD_s, lenD_lst, gNm_ap, if_true, Bool.false_eq_true, if_false, Bool.not_true, Bool.not_false, h, is_int, sAug_ap, io_i, z, decide_true]
  · simp only [sSeq_ap, sSet_ap, sSetO_ap, sIf_ap, sRet_ap, sRetO_ap, ownAt_ap, sNext_ap, sFor_ap, sApp_ap, sPut_ap, eIxO_ap, eCat_ap, eLenO_ap, iAny_ap, iter_str, iter_lst, tB_ap, tTru_ap, tAnd_ap, tOr_ap, tNot_ap, eOp_ap, eVar_ap, eC_ap, aNil_ap, aCons_ap, eCall_ap, eBlt_ap, eIf_ap, eAnd_ap, eOr_ap, eNot_ap, eMt0_ap, eMt_ap, eSl_ap, oNone_ap, oSome_ap, someInt_int, List.getElem?_cons_zero, List.getElem?_cons_succ, List.set_cons_succ, List.set_cons_zero, getV_val, getO_own, Rs.bind_ok, Fl.of_ok, thn_nx, thn_rt, flRes_rt, noEx_ok, boolOf_bl, truD_bl, addD_i, subD_i, ltI_i, leD_i, gtD_i, geD_i, eqD_i, eqD_s, neD_i, neD_s, lenD_lst, gNm_ap, if_true, Bool.false_eq_true, if_false, Bool.not_true, Bool.not_false, h, is_int, sAug_ap, io_i, z, decide_false]
theorem bd_loop (q0 x : List Nat) (hx : x.length ≤ 1000) : ∀ (r : List Nat) (k : Nat) (t : Int) (s3 s4 s5 : Option Sl), (∀ c ∈ r, c < 128) →
    (bndF x r k t = none → loopD (gPr 3 4) bdBody (enumFrom k (r.map signD)) [some (.val (tx q0)), some (.val (tx x)), some (.val (.int t)), s3, s4, s5] = .rt .non) ∧
    ∀ v, bndF x r k t = some v → ∃ t3 t4 t5, loopD (gPr 3 4) bdBody (enumFrom k (r.map signD)) [some (.val (tx q0)), some (.val (tx x)), some (.val (.int t)), s3, s4, s5] = .nx [some (.val (tx q0)), some (.val (tx x)), some (.val (.int v)), t3, t4, t5]
  | [], k, t, s3, s4, s5, _ => ⟨fun h => (by cases h), fun v h => by cases h; exact ⟨s3, s4, s5, rfl⟩⟩
  | a :: r, k, t, s3, s4, s5, ha => by
    have hset : gPr 3 4 (.tup [.int (k : Int), signD a]) [some (.val (tx q0)), some (.val (tx x)), some (.val (.int t)), s3, s4, s5] = .ok [some (.val (tx q0)), some (.val (tx x)), some (.val (.int t)), some (.val (.int (k : Int))), some (.val (signD a)), s5] := rfl
    have hm := most_ok a x (ha a List.mem_cons_self) hx
    have hc : ∀ s2, eCall m_most_of_sign (aCons (eVar 4) (aCons (eVar 1) aNil)) [some (.val (tx q0)), some (.val (tx x)), s2, some (.val (.int (k : Int))), some (.val (signD a)), s5] = .ok (oI (mostO a x)) := fun s2 => call2 (var_ok rfl) (var_ok rfl) hm
    rw [List.map_cons, enumFrom, loopD, hset, Fl.of_ok, bndF]
    cases q : mostO a x with
    | none =>
      rw [q] at hc
      have := gen_bd0 _ (sSeq (sAug 2 (intOp0 fun i j => .int (i + j)) (eVar 5)) (sIf (FD.tB (eOp gtD (eVar 3) (eC (.int 0)))) (sAug 2 (intOp0 fun i j => .int (i + j)) (eC (.int 7))) sNext)) _ _ _ _ _ _ (hc (some (.val (.int t))))
      refine ⟨fun _ => ?_, fun v h => by cases h⟩
      unfold bdBody
      rw [this]
    | some m =>
      rw [q] at hc
      have h1 := gen_bd1 _ _ _ _ _ t m k (hc (some (.val (.int t))))
      have e1 : (if (0 : Int) < (k : Int) then t + m + 7 else t + m) = t + m + if k = 0 then 0 else 7 := by
        by_cases z : k = 0
        · subst z; simp
        · rw [if_pos (by omega), if_neg z]
      rw [e1] at h1
      obtain ⟨i1, i2⟩ := bd_loop q0 x hx r (k + 1) (t + m + if k = 0 then 0 else 7) (some (.val (.int (k : Int)))) (some (.val (signD a))) (some (.val (.int m))) fun c hc => ha c (List.mem_cons_of_mem _ hc)
      unfold bdBody at i1 i2 ⊢
      rw [h1]
      exact ⟨i1, i2⟩
theorem gen_bnd (it : FA) (b : FS) (A B R : D) (L : List D) (h1 : it [some (.val A), some (.val B), some (.val (.int 0)), none, none, none] = .ok L)
    (h2 : loopD (gPr 3 4) b L [some (.val A), some (.val B), some (.val (.int 0)), none, none, none] = .rt R ∨ ∃ t3 t4 t5, loopD (gPr 3 4) b L [some (.val A), some (.val B), some (.val (.int 0)), none, none, none] = .nx [some (.val A), some (.val B), some (.val R), t3, t4, t5]) :
    runF 6 (sSeq (sSet 2 (eC (.int 0))) (sSeq (sFor it (gPr 3 4) b) (sRet (eVar 2)))) [A, B] = .ok R := by
  have st : startD 6 [A, B] = [some (.val A), some (.val B), none, none, none, none] := rfl
  rw [runF_ap, st]
  rcases h2 with h2 | ⟨t3, t4, t5, h2⟩
  · simp only [sSeq_ap, sSet_ap, sSetO_ap, sIf_ap, sRet_ap, sRetO_ap, ownAt_ap, sNext_ap, sFor_ap, sApp_ap, sPut_ap, eIxO_ap, eCat_ap, eLenO_ap, iAny_ap, iter_str, iter_lst, tB_ap, tTru_ap, tAnd_ap, tOr_ap, tNot_ap, eOp_ap, eVar_ap, eC_ap, aNil_ap, aCons_ap, eCall_ap, eBlt_ap, eIf_ap, eAnd_ap, eOr_ap, eNot_ap, eMt0_ap, eMt_ap, eSl_ap, oNone_ap, oSome_ap, someInt_int, List.getElem?_cons_zero, List.getElem?_cons_succ, List.set_cons_succ, List.set_cons_zero, getV_val, getO_own, Rs.bind_ok, Fl.of_ok, thn_nx, thn_rt, flRes_rt, noEx_ok, boolOf_bl, truD_bl, addD_i, subD_i, ltI_i, leD_i, gtD_i, geD_i, eqD_i, eqD_s, neD_i, neD_s, lenD_lst, gNm_ap, if_true, Bool.false_eq_true, if_false, Bool.not_true, Bool.not_false, h1, h2]
  · simp only [sSeq_ap, sSet_ap, sSetO_ap, sIf_ap, sRet_ap, sRetO_ap, ownAt_ap, sNext_ap, sFor_ap, sApp_ap, sPut_ap, eIxO_ap, eCat_ap, eLenO_ap, iAny_ap, iter_str, iter_lst, tB_ap, tTru_ap, tAnd_ap, tOr_ap, tNot_ap, eOp_ap, eVar_ap, eC_ap, aNil_ap, aCons_ap, eCall_ap, eBlt_ap, eIf_ap, eAnd_ap, eOr_ap, eNot_ap, eMt0_ap, eMt_ap, eSl_ap, oNone_ap, oSome_ap, someInt_int, List.getElem?_cons_zero, List.getElem?_cons_succ, List.set_cons_succ, List.set_cons_zero, getV_val, getO_own, Rs.bind_ok, Fl.of_ok, thn_nx, thn_rt, flRes_rt, noEx_ok, boolOf_bl, truD_bl, addD_i, subD_i, ltI_i, leD_i, gtD_i, geD_i, eqD_i, eqD_s, neD_i, neD_s, lenD_lst, gNm_ap, if_true, Bool.false_eq_true, if_false, Bool.not_true, Bool.not_false, h1, h2]
theorem ens_ok {fa : FE} {τ : DS} {x : List Nat} (h : fa τ = .ok (tx x)) : iEnS (aCons fa aNil) τ = .ok (enumFrom 0 (x.map signD)) := by
  unfold iEnS
  rw [aCons_ap, h, Rs.bind_ok, aNil_ap, Rs.bind_ok, Rs.bind_ok]
  show Rs.ok (enumFrom 0 (signsD _)) = _
  rw [tx_signs]
theorem bound_ok (q x : List Nat) (hx : x.length ≤ 1000) (ha : ∀ c ∈ q, c < 128) : m_bound [tx q, tx x] = .ok (oI (bnd q x)) := by
  obtain ⟨h1, h2⟩ := bd_loop q x hx q 0 0 none none none ha
  unfold m_bound
  rw [bd_b]
  refine gen_bnd _ _ _ _ _ _ (ens_ok (var_ok rfl)) ?_
  unfold bnd
  cases z : bndF x q 0 0 with
  | none => exact .inl (h1 z)
  | some v => exact .inr (h2 v z)
end Law
set_option Elab.async false
set_option linter.all false
set_option maxHeartbeats 1000000
namespace Law
open PySem PySem.Spec PyProof.Rows L2 FD
theorem insK_map {α β : Type} (f : α → β) (x : List Int × α) : ∀ l : List (List Int × α), insK (x.1, f x.2) (l.map fun p => (p.1, f p.2)) = (insK x l).map fun p => (p.1, f p.2)
  | [] => rfl
  | y :: r => by
    rw [List.map_cons, insK, insK]
    split
    · rfl
    · rw [insK_map f x r]; rfl
theorem sortK_map {α β : Type} (f : α → β) : ∀ l : List (List Int × α), sortK (l.map fun p => (p.1, f p.2)) = (sortK l).map fun p => (p.1, f p.2)
  | [] => rfl
  | x :: r => by rw [List.map_cons, sortK, sortK, sortK_map f r, insK_map]
def srtBy {α : Type} (key : α → List Int) (rs : List α) : List α := (sortK (rs.map fun r => (key r, r))).map (·.2)
theorem srtBy_D {α : Type} (key : α → List Int) (f : α → D) (rs : List α) : (sortK ((rs.map key).zip (rs.map f))).map (·.2) = (srtBy key rs).map f := by
  have e : (rs.map key).zip (rs.map f) = (rs.map fun r => (key r, r)).map fun p => (p.1, f p.2) := by
    induction rs with
    | nil => rfl
    | cons r rs ih => simp only [List.map_cons, List.zip_cons_cons, ih]
  rw [e, sortK_map]
  unfold srtBy
  rw [List.map_map, List.map_map]; rfl
theorem srtBy_perm {α : Type} (key : α → List Int) (rs : List α) : (srtBy key rs).Perm rs := by
  have := (sortK_perm (rs.map fun r => (key r, r))).map (·.2)
  rw [List.map_map] at this
  have e : rs.map ((fun p : List Int × α => p.2) ∘ fun r => (key r, r)) = rs := by
    rw [show ((fun p : List Int × α => p.2) ∘ fun r => (key r, r)) = id from rfl, List.map_id]
  rw [e] at this
  exact this
theorem sortK_keys {α : Type} (key : α → List Int) (rs : List α) : ∀ p ∈ sortK (rs.map fun r => (key r, r)), p.1 = key p.2 := fun p hp => by
  have := (sortK_perm (rs.map fun r => (key r, r))).mem_iff.mp hp
  obtain ⟨r, _, rfl⟩ := List.mem_map.mp this
  rfl
theorem srtBy_srt {α : Type} (key : α → List Int) (rs : List α) (nd : (rs.map key).Nodup) : (srtBy key rs).Pairwise fun a b => lxI (key a) (key b) = true := by
  have h := sortK_srt (rs.map fun r => (key r, r)) (by rw [List.map_map]; exact nd)
  unfold srtBy
  rw [List.pairwise_map]
  refine h.imp_of_mem fun {a b} ha hb q => ?_
  rw [← sortK_keys key rs a ha, ← sortK_keys key rs b hb]; exact q
theorem srtBy_uniq {α : Type} (key : α → List Int) {l rs : List α} (p : l.Perm rs) (h : l.Pairwise fun a b => lxI (key a) (key b) = true) (nd : (rs.map key).Nodup) : l = srtBy key rs :=
  perm_uniq (fun a b x y => by rw [lxI_asymm x] at y; cases y) (p.trans (srtBy_perm key rs).symm) h (srtBy_srt key rs nd)
def kD (k : List Int) : D := .tup (k.map D.int)
theorem intsD_map : ∀ k : List Int, intsD (k.map D.int) = some k
  | [] => rfl
  | i :: k => by
    show (intsD (k.map D.int)).map (i :: ·) = _
    rw [intsD_map k]; rfl
theorem keyD_k (k : List Int) : keyD (kD k) = some k := intsD_map k
theorem keysD_map {α : Type} (key : α → List Int) : ∀ rs : List α, keysD (rs.map fun r => kD (key r)) = some (rs.map key)
  | [] => rfl
  | r :: rs => by rw [List.map_cons, keysD, keyD_k, keysD_map key rs]; rfl
theorem sortBy_map {α : Type} (key : α → List Int) (f : α → D) (rs : List α) (h64 : rs.length < 64) (nd : (rs.map key).Nodup) (ne : ∀ r, key r ≠ []) : sortBy (rs.map fun r => kD (key r)) (rs.map f) = .ok (.lst ((srtBy key rs).map f)) := by
  unfold sortBy
  rw [keysD_map]
  simp only
  rw [if_pos ⟨by simpa using h64, nd, fun k hk => by obtain ⟨r, _, rfl⟩ := List.mem_map.mp hk; exact ne r⟩, srtBy_D]
theorem lamKeys_map {α : Type} {idx : List Nat} {fb : FE} {τ : DS} (key : α → List Int) (f : α → D) : ∀ rs : List α, (∀ r ∈ rs, lamD idx fb τ (f r) = .ok (kD (key r))) → lamKeys idx fb τ (rs.map f) = .ok (rs.map fun r => kD (key r))
  | [], _ => rfl
  | r :: rs, h => by
    rw [List.map_cons, lamKeys, h r List.mem_cons_self]
    simp only [lamKeys_map key f rs fun s hs => h s (List.mem_cons_of_mem _ hs), List.map_cons]
theorem eSortK_map {α : Type} {idx : List Nat} {fe fb : FE} {τ : DS} (key : α → List Int) (f : α → D) (rs : List α) (h : fe τ = .ok (.lst (rs.map f))) (hk : ∀ r ∈ rs, lamD idx fb τ (f r) = .ok (kD (key r))) (h64 : rs.length < 64) (nd : (rs.map key).Nodup) (ne : ∀ r, key r ≠ []) :
    eSortK idx fe fb τ = .ok (.lst ((srtBy key rs).map f)) := by
  unfold eSortK
  rw [h, Rs.bind_ok]
  simp only [lamKeys_map key f rs hk]
  exact sortBy_map key f rs h64 nd ne
abbrev Rw := Int × Nat
def rowD (r : Rw) : D := .tup [.int r.1, .int (r.2 : Int)]
theorem row_0 (r : Rw) : ixD (rowD r) (.int 0) = .ok (.int r.1) := rfl
theorem row_1 (r : Rw) : ixD (rowD r) (.int 1) = .ok (.int (r.2 : Int)) := rfl
theorem nodup_key {key : Rw → List Int} (hk : ∀ r s, key r = key s → r.2 = s.2) : ∀ rs : List Rw, (rs.map (·.2)).Nodup → (rs.map key).Nodup
  | [], _ => List.nodup_nil
  | r :: rs, h => by
    rw [List.map_cons, List.nodup_cons] at h ⊢
    refine ⟨fun hm => h.1 ?_, nodup_key hk rs h.2⟩
    obtain ⟨s, hs, e⟩ := List.mem_map.mp hm
    exact List.mem_map.mpr ⟨s, hs, hk s r e⟩
def keyB (r : Rw) : List Int := [-r.1, (r.2 : Int)]
def keyO (X : List (List Nat)) (r : Rw) : List Int := [-r.1, ((X.getD r.2 []).length : Int), (r.2 : Int)]
theorem keyB_inj (r s : Rw) (h : keyB r = keyB s) : r.2 = s.2 := by
  unfold keyB at h
  injection h with h1 h2
  injection h2 with h2 _
  omega
theorem keyO_inj (X : List (List Nat)) (r s : Rw) (h : keyO X r = keyO X s) : r.2 = s.2 := by
  unfold keyO at h
  injection h with h1 h2
  injection h2 with h2 h3
  injection h3 with h3 _
  omega
theorem enum_map {α : Type} (f : α → D) : ∀ (X : List α) (k : Nat), enumFrom k (X.map f) = (X.zipIdx k).map fun p => D.tup [.int (p.2 : Int), f p.1]
  | [], _ => rfl
  | x :: X, k => by rw [List.map_cons, enumFrom, List.zipIdx_cons, List.map_cons, enum_map f X (k + 1)]
theorem size3 : ∀ a b c : D, ([a, b, c] : List D).length ≤ sizeLine := fun a b c => by rw [sizeLine_v]; exact Nat.le_of_ble_eq_true rfl
theorem tup3 {fa fb fc : FE} {τ : DS} {a b c : D} (h1 : fa τ = .ok a) (h2 : fb τ = .ok b) (h3 : fc τ = .ok c) : eTup (aCons fa (aCons fb (aCons fc aNil))) τ = .ok (.tup [a, b, c]) := by
  rw [eTup_ap, aCons_ap, h1, Rs.bind_ok, aCons_ap, h2, Rs.bind_ok, aCons_ap, h3, Rs.bind_ok, aNil_ap, Rs.bind_ok, Rs.bind_ok, Rs.bind_ok, Rs.bind_ok]
  exact if_pos (size3 a b c)
theorem neg_ok {fa : FE} {τ : DS} {i : Int} (h : fa τ = .ok (.int i)) : eNeg fa τ = .ok (.int (-i)) := by rw [eNeg_ap, h]; rfl
theorem names_ix (X : List (List Nat)) (i : Nat) (h : i < X.length) : ixD (.lst (X.map tx)) (.int (i : Int)) = .ok (tx (X.getD i [])) := by
  refine ixD_lst (atI_nat ?_)
  rw [List.getElem?_map, List.getElem?_eq_getElem h]
  simp [h]
theorem take_ok (ds : List D) (n : Nat) : slD (.lst ds) none (some (n : Int)) = .ok (.lst (ds.take n)) := by
  have : FD.cutD ds none (some (n : Int)) = ds.take n := by
    have e0 : HT.sIx ds.length 0 none = 0 := rfl
    have e1 : HT.sIx ds.length ds.length (some (n : Int)) = min n ds.length := by
      unfold HT.sIx
      have : ¬ ((n : Int) < 0) := by omega
      simp [this]
    unfold FD.cutD
    rw [e0, e1, List.drop_zero, Nat.sub_zero]
    rcases Nat.le_total n ds.length with z | z
    · rw [Nat.min_eq_left z]
    · rw [Nat.min_eq_right z, List.take_length, List.take_of_length_le z]
  show Rs.ok (D.lst (FD.cutD ds none (some (n : Int)))) = _
  rw [this]
theorem order_b : b_in_order = (sRet (eSortK [0] (eVar 1) (eTup (aCons (eNeg (eOp ixD (eVar 0) (eC (.int 0)))) (aCons (eBlt lenD (aCons (eOp ixD (eVar 1) (eOp ixD (eVar 0) (eC (.int 1)))) aNil)) (aCons (eOp ixD (eVar 0) (eC (.int 1))) aNil)))))) := by unfold b_in_order; rfl
structure RsOk (X : List (List Nat)) (rs : List Rw) : Prop where
  few : rs.length < 64
  nd : (rs.map (·.2)).Nodup
  lt : ∀ r ∈ rs, r.2 < X.length
  sz : ∀ x ∈ X, x.length ≤ 1000
theorem getD_mem {X : List (List Nat)} {i : Nat} (h : i < X.length) : X.getD i [] ∈ X := by
  have : X.getD i [] = X[i] := by simp [h]
  rw [this]; exact List.getElem_mem _
theorem order_ok (X : List (List Nat)) (rs : List Rw) (h : RsOk X rs) : m_in_order [.lst (X.map tx), .lst (rs.map rowD)] = .ok (.lst ((srtBy (keyO X) rs).map rowD)) := by
  have st : startD 2 [.lst (X.map tx), .lst (rs.map rowD)] = [some (.val (.lst (X.map tx))), some (.val (.lst (rs.map rowD)))] := rfl
  unfold m_in_order
  rw [order_b, runF_ap, st, sRet_ap, eSortK_map (keyO X) rowD rs (var_ok rfl) (fun r hr => ?_) h.few (nodup_key (keyO_inj X) rs h.nd) (fun r z => nomatch z)]
  · rfl
  · have hlt := h.lt r hr
    have hsz := h.sz _ (getD_mem hlt)
    have : eTup (aCons (eNeg (eOp ixD (eVar 0) (eC (.int 0)))) (aCons (eBlt lenD (aCons (eOp ixD (eVar 1) (eOp ixD (eVar 0) (eC (.int 1)))) aNil)) (aCons (eOp ixD (eVar 0) (eC (.int 1))) aNil))) [some (.val (rowD r)), some (.val (.lst (X.map tx)))] = .ok (kD (keyO X r)) := tup3 (neg_ok (op2 (var_ok rfl) rfl (row_0 r))) (blt1 (op2 (var_ok rfl) (op2 (var_ok rfl) rfl (row_1 r)) (names_ix X r.2 hlt)) (tx_len _ hsz)) (op2 (var_ok rfl) rfl (row_1 r))
    exact this
theorem max2_i (i j : Int) : max2D [.int i, .int j] = .ok (.int (if i < j then j else i)) := rfl
theorem first_b : b_first_rows = (sRet (eSl (eCall m_in_order (aCons (eVar 0) (aCons (eVar 1) aNil))) oNone (oSome (eBlt max2D (aCons (eVar 2) (aCons (eC (.int 0)) aNil)))))) := by unfold b_first_rows; rfl
theorem blt2 {g : List D → Rs D} {fa fb : FE} {τ : DS} {a b d : D} (h1 : fa τ = .ok a) (h2 : fb τ = .ok b) (h : g [a, b] = .ok d) : eBlt g (aCons fa (aCons fb aNil)) τ = .ok d := by
  rw [eBlt_ap, aCons_ap, h1, Rs.bind_ok, aCons_ap, h2, Rs.bind_ok, aNil_ap, Rs.bind_ok, Rs.bind_ok, Rs.bind_ok, h]
theorem os_ok' {fa : FE} {τ : DS} {i : Int} (h : fa τ = .ok (.int i)) : oSome fa τ = .ok (some i) := by rw [oSome_ap, h]; rfl
theorem first_ok (X : List (List Nat)) (rs : List Rw) (many : Nat) (h : RsOk X rs) : m_first_rows [.lst (X.map tx), .lst (rs.map rowD), .int (many : Int)] = .ok (.lst (((srtBy (keyO X) rs).take many).map rowD)) := by
  have st : startD 3 [.lst (X.map tx), .lst (rs.map rowD), .int (many : Int)] = [some (.val (.lst (X.map tx))), some (.val (.lst (rs.map rowD))), some (.val (.int (many : Int)))] := rfl
  have hm : max2D [.int (many : Int), .int 0] = .ok (.int (many : Int)) := by
    rw [max2_i]; rw [if_neg (by omega)]
  have e : eSl (eCall m_in_order (aCons (eVar 0) (aCons (eVar 1) aNil))) oNone (oSome (eBlt max2D (aCons (eVar 2) (aCons (eC (.int 0)) aNil)))) [some (.val (.lst (X.map tx))), some (.val (.lst (rs.map rowD))), some (.val (.int (many : Int)))] = .ok (.lst (((srtBy (keyO X) rs).take many).map rowD)) :=
    sl_ok (call2 (var_ok rfl) (var_ok rfl) (order_ok X rs h)) rfl (os_ok' (blt2 (var_ok rfl) rfl hm)) (by rw [take_ok, List.map_take])
  unfold m_first_rows
  rw [first_b, runF_ap, st, sRet_ap, e]; rfl
theorem gen_lso (e1 e2 : FE) (A B C R : D) (h1 : e1 [some (.val A), some (.val B), none] = .ok C) (h2 : e2 [some (.val A), some (.val B), some (.val C)] = .ok R) : runF 3 (sSeq (sSet 2 e1) (sRet e2)) [A, B] = .ok R := by
  have st : startD 3 [A, B] = [some (.val A), some (.val B), none] := rfl
  rw [runF_ap, st]
  simp only [sSeq_ap, sSet_ap, sSetO_ap, sIf_ap, sRet_ap, sRetO_ap, ownAt_ap, sNext_ap, sFor_ap, sApp_ap, sPut_ap, eIxO_ap, eCat_ap, eLenO_ap, iAny_ap, iter_str, iter_lst, tB_ap, tTru_ap, tAnd_ap, tOr_ap, tNot_ap, eOp_ap, eVar_ap, eC_ap, aNil_ap, aCons_ap, eCall_ap, eBlt_ap, eIf_ap, eAnd_ap, eOr_ap, eNot_ap, eMt0_ap, eMt_ap, eSl_ap, oNone_ap, oSome_ap, someInt_int, List.getElem?_cons_zero, List.getElem?_cons_succ, List.set_cons_succ, List.set_cons_zero, getV_val, getO_own, Rs.bind_ok, Fl.of_ok, thn_nx, thn_rt, flRes_rt, noEx_ok, boolOf_bl, truD_bl, addD_i, subD_i, ltI_i, leD_i, gtD_i, geD_i, eqD_i, eqD_s, neD_i, neD_s, lenD_lst, gNm_ap, if_true, Bool.false_eq_true, if_false, Bool.not_true, Bool.not_false, h1, h2]
end Law
set_option Elab.async false
set_option linter.all false
set_option maxHeartbeats 1000000
namespace Law
open PySem PySem.Spec PyProof.Rows L2 FD
def fr1 (X : List (List Nat)) (q : List Nat) (i : Nat) : Option Rw := (bestA q (X.getD i [])).map fun t => (t.1, i)
def fitBody : FS := (sSeq (sSet 5 (eCall m_best (aCons (eVar 1) (aCons (eOp ixD (eVar 0) (eVar 4)) aNil))))
      (sIf (FD.tB (eOp isNotD (eVar 5) (eC .non))) (sApp 3 (eTup (aCons (eOp ixD (eVar 5) (eC (.int 0))) (aCons (eVar 4) aNil)))) sNext))
theorem fit_b : b_fitting_rows = (sSeq (sSetO 3 (fun τ => (aNil τ).bind fun ds => if ds.length ≤ sizeLine then .ok ds else .no)) (sSeq (sFor (iAny (eVar 2)) (gNm 4) fitBody) (sRetO 3))) := by unfold b_fitting_rows fitBody; rfl
theorem gen_fit0 (e e2 : FE) (a0 a1 a2 a3 a4 a5 : Option Sl) (h : e [a0, a1, a2, a3, a4, a5] = .ok .non) :
    (sSeq (sSet 5 e) (sIf (FD.tB (eOp isNotD (eVar 5) (eC .non))) (sApp 3 e2) sNext)) [a0, a1, a2, a3, a4, a5] = .nx [a0, a1, a2, a3, a4, some (.val .non)] := by
  simp only [sSeq_ap, sSet_ap, sSetO_ap, sIf_ap, sRet_ap, sRetO_ap, ownAt_ap, sNext_ap, sFor_ap, sApp_ap, sPut_ap, eIxO_ap, eCat_ap, eLenO_ap, iAny_ap, iter_str, iter_lst, tB_ap, tTru_ap, tAnd_ap, tOr_ap, tNot_ap, eOp_ap, eVar_ap, eC_ap, aNil_ap, aCons_ap, eCall_ap, eBlt_ap, eIf_ap, eAnd_ap, eOr_ap, eNot_ap, eMt0_ap, eMt_ap, eSl_ap, oNone_ap, oSome_ap, someInt_int, List.getElem?_cons_zero, List.getElem?_cons_succ, List.set_cons_succ, List.set_cons_zero, getV_val, getO_own, Rs.bind_ok, Fl.of_ok, thn_nx, thn_rt, flRes_rt, noEx_ok, boolOf_bl, truD_bl, addD_i, subD_i, ltI_i, leD_i, gtD_i, geD_i, eqD_i, eqD_s, neD_i, neD_s, lenD_lst, gNm_ap, if_true, Bool.false_eq_true, if_false, Bool.not_true, Bool.not_false, h, isNot_non]
theorem gen_fit1 (e e2 : FE) (a0 a1 a2 a4 a5 : Option Sl) (L : List D) (t : Tl) (R : D) (h : e [a0, a1, a2, some (.own L), a4, a5] = .ok (tlD t)) (h2 : e2 [a0, a1, a2, some (.own L), a4, some (.val (tlD t))] = .ok R) (hl : L.length < sizeLine) :
    (sSeq (sSet 5 e) (sIf (FD.tB (eOp isNotD (eVar 5) (eC .non))) (sApp 3 e2) sNext)) [a0, a1, a2, some (.own L), a4, a5] = .nx [a0, a1, a2, some (.own (L ++ [R])), a4, some (.val (tlD t))] := by
  simp only [sSeq_ap, sSet_ap, sSetO_ap, sIf_ap, sRet_ap, sRetO_ap, ownAt_ap, sNext_ap, sFor_ap, sApp_ap, sPut_ap, eIxO_ap, eCat_ap, eLenO_ap, iAny_ap, iter_str, iter_lst, tB_ap, tTru_ap, tAnd_ap, tOr_ap, tNot_ap, eOp_ap, eVar_ap, eC_ap, aNil_ap, aCons_ap, eCall_ap, eBlt_ap, eIf_ap, eAnd_ap, eOr_ap, eNot_ap, eMt0_ap, eMt_ap, eSl_ap, oNone_ap, oSome_ap, someInt_int, List.getElem?_cons_zero, List.getElem?_cons_succ, List.set_cons_succ, List.set_cons_zero, getV_val, getO_own, Rs.bind_ok, Fl.of_ok, thn_nx, thn_rt, flRes_rt, noEx_ok, boolOf_bl, truD_bl, addD_i, subD_i, ltI_i, leD_i, gtD_i, geD_i, eqD_i, eqD_s, neD_i, neD_s, lenD_lst, gNm_ap, if_true, Bool.false_eq_true, if_false, Bool.not_true, Bool.not_false, h, isNot_tl, h2, sApp_ap, getO_own]
  rw [if_pos hl]
theorem fit_step (X : List (List Nat)) (q : List Nat) (i : Nat) (a2 a5 : Option Sl) (acc : List Rw) (hi : i < X.length) (hq : q.length ≤ 1000) (hX : ∀ x ∈ X, x.length ≤ 1000) (ha : ∀ c ∈ q, c < 128) (hc : acc.length ≤ 1000) :
    ∃ t5, fitBody [some (.val (.lst (X.map tx))), some (.val (tx q)), a2, some (.own (acc.map rowD)), some (.val (.int (i : Int))), a5] = .nx [some (.val (.lst (X.map tx))), some (.val (tx q)), a2, some (.own ((acc ++ (fr1 X q i).toList).map rowD)), some (.val (.int (i : Int))), t5] := by
  have hb := abest_ok q (X.getD i []) hq (hX _ (getD_mem hi)) ha
  have he : eCall m_best (aCons (eVar 1) (aCons (eOp ixD (eVar 0) (eVar 4)) aNil)) [some (.val (.lst (X.map tx))), some (.val (tx q)), a2, some (.own (acc.map rowD)), some (.val (.int (i : Int))), a5] = .ok (optD (bestA q (X.getD i []))) :=
    call2 (var_ok rfl) (op2 (var_ok rfl) (var_ok rfl) (names_ix X i hi)) hb
  unfold fitBody fr1
  cases z : bestA q (X.getD i []) with
  | none =>
    rw [z] at he
    exact ⟨some (.val .non), (gen_fit0 _ _ _ _ _ _ _ _ he).trans (by simp)⟩
  | some t =>
    rw [z] at he
    have h2 : eTup (aCons (eOp ixD (eVar 5) (eC (.int 0))) (aCons (eVar 4) aNil)) [some (.val (.lst (X.map tx))), some (.val (tx q)), a2, some (.own (acc.map rowD)), some (.val (.int (i : Int))), some (.val (tlD t))] = .ok (rowD (t.1, i)) := tup2 (op2 (var_ok rfl) rfl (tl_0 t)) (var_ok rfl)
    exact ⟨some (.val (tlD t)), (gen_fit1 _ _ _ _ _ _ _ _ t _ he h2 (by rw [sizeLine_v, List.length_map]; omega)).trans (by simp)⟩
def fitR (X : List (List Nat)) (q : List Nat) (is : List Nat) : List Rw := is.flatMap fun i => (fr1 X q i).toList
theorem fit_loop (X : List (List Nat)) (q : List Nat) (a2 : Option Sl) (hq : q.length ≤ 1000) (hX : ∀ x ∈ X, x.length ≤ 1000) (ha : ∀ c ∈ q, c < 128) : ∀ (is : List Nat) (acc : List Rw) (a4 a5 : Option Sl), (∀ i ∈ is, i < X.length) → acc.length + is.length ≤ 1000 →
    ∃ t4 t5, loopD (gNm 4) fitBody (is.map fun (i : Nat) => D.int i) [some (.val (.lst (X.map tx))), some (.val (tx q)), a2, some (.own (acc.map rowD)), a4, a5] = .nx [some (.val (.lst (X.map tx))), some (.val (tx q)), a2, some (.own ((acc ++ fitR X q is).map rowD)), t4, t5]
  | [], acc, a4, a5, _, _ => ⟨a4, a5, by unfold fitR; simp [loopD]⟩
  | i :: is, acc, a4, a5, hi, hc => by
    rw [List.length_cons] at hc
    obtain ⟨t5, e⟩ := fit_step X q i a2 a5 acc (hi i List.mem_cons_self) hq hX ha (by omega)
    have hl : (acc ++ (fr1 X q i).toList).length + is.length ≤ 1000 := by
      rw [List.length_append]
      have : (fr1 X q i).toList.length ≤ 1 := by cases fr1 X q i <;> simp
      omega
    obtain ⟨u4, u5, ih⟩ := fit_loop X q a2 hq hX ha is (acc ++ (fr1 X q i).toList) (some (.val (.int (i : Int)))) t5 (fun j hj => hi j (List.mem_cons_of_mem _ hj)) hl
    refine ⟨u4, u5, ?_⟩
    rw [List.map_cons, loopD, gNm_ap, Fl.of_ok]
    simp only [List.set_cons_succ, List.set_cons_zero, e]
    rw [ih]
    unfold fitR
    rw [List.flatMap_cons, List.append_assoc]
theorem nilO (τ : DS) : (fun τ => (aNil τ).bind fun ds => if ds.length ≤ sizeLine then Rs.ok ds else Rs.no) τ = .ok [] := by
  show (if ([] : List D).length ≤ sizeLine then Rs.ok [] else Rs.no) = _
  exact if_pos (Nat.zero_le sizeLine)
theorem gen_fits (e : FA) (b : FS) (A B C : D) (L R : List D) (t4 t5 : Option Sl) (h0 : e [some (.val A), some (.val B), some (.val C), none, none, none] = .ok []) (hi : iterD C = .ok L)
    (h1 : loopD (gNm 4) b L [some (.val A), some (.val B), some (.val C), some (.own []), none, none] = .nx [some (.val A), some (.val B), some (.val C), some (.own R), t4, t5]) :
    runF 6 (sSeq (sSetO 3 e) (sSeq (sFor (iAny (eVar 2)) (gNm 4) b) (sRetO 3))) [A, B, C] = .ok (.lst R) := by
  have st : startD 6 [A, B, C] = [some (.val A), some (.val B), some (.val C), none, none, none] := rfl
  rw [runF_ap, st]
  simp only [sSeq_ap, sSet_ap, sSetO_ap, sIf_ap, sRet_ap, sRetO_ap, ownAt_ap, sNext_ap, sFor_ap, sApp_ap, sPut_ap, eIxO_ap, eCat_ap, eLenO_ap, iAny_ap, iter_str, iter_lst, tB_ap, tTru_ap, tAnd_ap, tOr_ap, tNot_ap, eOp_ap, eVar_ap, eC_ap, aNil_ap, aCons_ap, eCall_ap, eBlt_ap, eIf_ap, eAnd_ap, eOr_ap, eNot_ap, eMt0_ap, eMt_ap, eSl_ap, oNone_ap, oSome_ap, someInt_int, List.getElem?_cons_zero, List.getElem?_cons_succ, List.set_cons_succ, List.set_cons_zero, getV_val, getO_own, Rs.bind_ok, Fl.of_ok, thn_nx, thn_rt, flRes_rt, noEx_ok, boolOf_bl, truD_bl, addD_i, subD_i, ltI_i, leD_i, gtD_i, geD_i, eqD_i, eqD_s, neD_i, neD_s, lenD_lst, gNm_ap, if_true, Bool.false_eq_true, if_false, Bool.not_true, Bool.not_false, h0, hi, h1, sSetO_ap, sRetO_ap, ownAt_ap, getO_own]
theorem fits_ok (X : List (List Nat)) (q : List Nat) (is : List Nat) (hq : q.length ≤ 1000) (hX : ∀ x ∈ X, x.length ≤ 1000) (ha : ∀ c ∈ q, c < 128) (hi : ∀ i ∈ is, i < X.length) (hl : is.length ≤ 1000) :
    m_fitting_rows [.lst (X.map tx), tx q, .lst (is.map fun (i : Nat) => D.int i)] = .ok (.lst ((fitR X q is).map rowD)) := by
  obtain ⟨t4, t5, h⟩ := fit_loop X q (some (.val (.lst (is.map fun (i : Nat) => D.int i)))) hq hX ha is [] none none hi (by simpa using hl)
  unfold m_fitting_rows
  rw [fit_b]
  exact gen_fits _ _ _ _ _ _ _ _ _ (nilO _) rfl (by simpa using h)
def cntR (rs : List Rw) (lim : Int) : Nat := (rs.filter fun r => decide (lim < r.1)).length
theorem enough_b : b_are_enough = (sRet (eOp geD (eBlt lenD (aCons (fun τ => ((eComp 1 [2] (iAny (eVar 0)) (gNm 0) (FD.tB (eOp gtD (eOp ixD (eVar 0) (eC (.int 0))) (eVar 1))) (eVar 0)) τ).bind fun ds => .ok (.lst ds)) aNil)) (eVar 1))) := by unfold b_are_enough; rfl
theorem enough_ok (rs : List Rw) (many : Nat) (lim : Int) (hl : rs.length ≤ 1000) : m_are_enough [.lst (rs.map rowD), .int (many : Int), .int lim] = .ok (.bl (decide (many ≤ cntR rs lim))) := by
  have st : startD 3 [.lst (rs.map rowD), .int (many : Int), .int lim] = [some (.val (.lst (rs.map rowD))), some (.val (.int (many : Int))), some (.val (.int lim))] := rfl
  have cf := comp_filter (set := gNm 0) (ft := (FD.tB (eOp gtD (eOp ixD (eVar 0) (eC (.int 0))) (eVar 1)))) (fe := eVar 0) (τ := [none, some (.val (.int lim))]) rowD rowD (fun r => decide (lim < r.1)) rs fun r hr =>
    ⟨[some (.val (rowD r)), some (.val (.int lim))], rfl, tB_ok (op2 (op2 (var_ok rfl) rfl (row_0 r)) (var_ok rfl) gtD_i), var_ok rfl⟩
  have hf := List.length_filter_le (fun r : Rw => decide (lim < r.1)) rs
  have ec := comp_ok (k := 1) (idx := [2]) (fi := iAny (eVar 0)) (τ := [some (.val (.lst (rs.map rowD))), some (.val (.int (many : Int))), some (.val (.int lim))]) rfl cf (by rw [List.length_map]; omega)
  have e : eOp geD (eBlt lenD (aCons (fun τ => ((eComp 1 [2] (iAny (eVar 0)) (gNm 0) (FD.tB (eOp gtD (eOp ixD (eVar 0) (eC (.int 0))) (eVar 1))) (eVar 0)) τ).bind fun ds => .ok (.lst ds)) aNil)) (eVar 1) [some (.val (.lst (rs.map rowD))), some (.val (.int (many : Int))), some (.val (.int lim))] = .ok (.bl (decide (many ≤ cntR rs lim))) := by
    refine (op2 (a := .int (cntR rs lim : Int)) (blt1 (by rw [ec]; rfl) (by rw [lenD_lst, List.length_map]; rfl)) (var_ok rfl) geD_i).trans ?_
    congr 2
    exact decide_eq_decide.mpr (by omega)
  unfold m_are_enough
  rw [enough_b, runF_ap, st, sRet_ap, e]; rfl
def bRows (q : List Nat) (X : List (List Nat)) : List Rw := X.zipIdx.filterMap fun p => (bnd q p.1).map fun b => (b, p.2)
def brD (q : List Nat) (p : List Nat × Nat) : D := .tup [oI (bnd q p.1), .int (p.2 : Int)]
theorem br_rows (q : List Nat) (f : Rw → D) (g : List Nat × Nat → D) : ∀ L : List (List Nat × Nat), (∀ p ∈ L, ∀ b, bnd q p.1 = some b → g p = f (b, p.2)) → ((L.filter fun p => (bnd q p.1).isSome).map g) = (L.filterMap fun p => (bnd q p.1).map fun b => (b, p.2)).map f
  | [], _ => rfl
  | p :: L, h => by
    have ih := br_rows q f g L fun r hr => h r (List.mem_cons_of_mem _ hr)
    cases z : bnd q p.1 with
    | none => simp only [List.filter_cons, z, Option.isSome_none, Bool.false_eq_true, if_false, List.filterMap_cons, Option.map_none]; exact ih
    | some b => simp only [List.filter_cons, z, Option.isSome_some, if_true, List.filterMap_cons, Option.map_some, List.map_cons, ih, h p List.mem_cons_self b z]
theorem br_fst : ∀ (L : List (List Nat × Nat)) (q : List Nat), ((L.filterMap fun p => (bnd q p.1).map fun b => ((b, p.2) : Rw)).map (·.2)).Sublist (L.map (·.2))
  | [], _ => List.Sublist.refl _
  | p :: L, q => by
    cases z : bnd q p.1 with
    | none => simp only [List.filterMap_cons, z, Option.map_none, List.map_cons]; exact (br_fst L q).cons _
    | some b => simp only [List.filterMap_cons, z, Option.map_some, List.map_cons]; exact (br_fst L q).cons₂ _
theorem zip_snd {α : Type} (X : List α) (k : Nat) : (X.zipIdx k).map (·.2) = List.range' k X.length := by
  induction X generalizing k with
  | nil => rfl
  | cons x X ih => rw [List.zipIdx_cons, List.map_cons, ih, List.length_cons, List.range'_succ]
theorem bRows_nd (q : List Nat) (X : List (List Nat)) : ((bRows q X).map (·.2)).Nodup ∧ (∀ r ∈ bRows q X, r.2 < X.length) ∧ (bRows q X).length ≤ X.length := by
  have s := br_fst X.zipIdx q
  rw [zip_snd] at s
  refine ⟨s.nodup (List.nodup_range' ), fun r hr => ?_, ?_⟩
  · have := s.mem (List.mem_map.mpr ⟨r, hr, rfl⟩)
    simp only [List.mem_range'_1] at this
    omega
  · have := s.length_le
    rw [List.length_map, List.length_range'] at this
    exact this
theorem en_ok {fa : FE} {τ : DS} {X : List (List Nat)} (h : fa τ = .ok (.lst (X.map tx))) : iEn (aCons fa aNil) τ = .ok (X.zipIdx.map fun p => D.tup [.int (p.2 : Int), tx p.1]) := by
  unfold iEn
  rw [aCons_ap, h, Rs.bind_ok, aNil_ap, Rs.bind_ok, Rs.bind_ok]
  show Rs.ok (enumFrom 0 _) = _
  rw [enum_map]
theorem mem_zip {α : Type} {X : List α} {p : α × Nat} (h : p ∈ X.zipIdx) : p.1 ∈ X := by
  have := List.mem_zipIdx h
  rw [this.2.2]
  exact List.getElem_mem _
def bbE : FE := fun τ => ((eComp 2 [1] (iEn (aCons (eVar 0) aNil)) (gPr 0 1) (fun _ => .ok true) (eTup (aCons (eCall m_bound (aCons (eVar 2) (aCons (eVar 1) aNil))) (aCons (eVar 0) aNil)))) τ).bind fun ds => .ok (.lst ds)
def bbF : FE := fun τ => ((eComp 1 [] (iAny (eVar 2)) (gNm 0) (FD.tB (eOp isNotD (eOp ixD (eVar 0) (eC (.int 0))) (eC .non))) (eVar 0)) τ).bind fun ds => .ok (.lst ds)
theorem byb_b : b_by_bounds = (sSeq (sSet 2 bbE) (sRet (eSortK [] bbF (eTup (aCons (eNeg (eOp ixD (eVar 0) (eC (.int 0)))) (aCons (eOp ixD (eVar 0) (eC (.int 1))) aNil)))))) := by unfold b_by_bounds bbE bbF; rfl
theorem isNot_oI (o : Option Int) : isNotD (oI o) .non = .ok (.bl o.isSome) := by cases o <;> rfl
theorem br_0 (q : List Nat) (p : List Nat × Nat) : ixD (brD q p) (.int 0) = .ok (oI (bnd q p.1)) := rfl
theorem bbE_ok (X : List (List Nat)) (q : List Nat) (a2 : Option Sl) (hX : ∀ x ∈ X, x.length ≤ 1000) (ha : ∀ c ∈ q, c < 128) (hl : X.length ≤ 1000) : bbE [some (.val (.lst (X.map tx))), some (.val (tx q)), a2] = .ok (.lst (X.zipIdx.map (brD q))) := by
  have cm := comp_map (set := gPr 0 1) (fe := (eTup (aCons (eCall m_bound (aCons (eVar 2) (aCons (eVar 1) aNil))) (aCons (eVar 0) aNil)))) (τ := [none, none, some (.val (tx q))]) (fun p : List Nat × Nat => D.tup [.int (p.2 : Int), tx p.1]) (brD q) id X.zipIdx fun p hp =>
    ⟨[some (.val (.int (p.2 : Int))), some (.val (tx p.1)), some (.val (tx q))], rfl, tup2 (call2 (var_ok rfl) (var_ok rfl) (bound_ok q p.1 (hX _ (mem_zip hp)) ha)) (var_ok rfl)⟩
  rw [List.map_id] at cm
  have ec := comp_ok (k := 2) (idx := [1]) (fi := iEn (aCons (eVar 0) aNil)) (τ := [some (.val (.lst (X.map tx))), some (.val (tx q)), a2]) (en_ok (var_ok rfl)) cm (by simpa using hl)
  unfold bbE
  rw [ec]; rfl
theorem byb_ok (X : List (List Nat)) (q : List Nat) (hX : ∀ x ∈ X, x.length ≤ 1000) (ha : ∀ c ∈ q, c < 128) (hl : X.length < 64) : m_by_bounds [.lst (X.map tx), tx q] = .ok (.lst ((srtBy keyB (bRows q X)).map rowD)) := by
  have e1 := bbE_ok X q none hX ha (by omega)
  have cf := comp_filter (set := gNm 0) (ft := (FD.tB (eOp isNotD (eOp ixD (eVar 0) (eC (.int 0))) (eC .non)))) (fe := eVar 0) (τ := [none]) (brD q) (brD q) (fun p => (bnd q p.1).isSome) X.zipIdx fun p hp =>
    ⟨[some (.val (brD q p))], rfl, tB_ok (op2 (op2 (var_ok rfl) rfl (br_0 q p)) rfl (isNot_oI _)), var_ok rfl⟩
  rw [br_rows q rowD (brD q) X.zipIdx fun p _ b h => by unfold brD rowD; rw [h]; rfl] at cf
  obtain ⟨nd, lt, len⟩ := bRows_nd q X
  have ec := comp_ok (k := 1) (idx := []) (fi := iAny (eVar 2)) (τ := [some (.val (.lst (X.map tx))), some (.val (tx q)), some (.val (.lst (X.zipIdx.map (brD q))))]) rfl cf (by rw [List.length_map]; show (bRows q X).length ≤ _; omega)
  have e2 : bbF [some (.val (.lst (X.map tx))), some (.val (tx q)), some (.val (.lst (X.zipIdx.map (brD q))))] = .ok (.lst ((bRows q X).map rowD)) := by
    unfold bbF
    rw [ec]; rfl
  have e3 : eSortK [] bbF (eTup (aCons (eNeg (eOp ixD (eVar 0) (eC (.int 0)))) (aCons (eOp ixD (eVar 0) (eC (.int 1))) aNil))) [some (.val (.lst (X.map tx))), some (.val (tx q)), some (.val (.lst (X.zipIdx.map (brD q))))] = .ok (.lst ((srtBy keyB (bRows q X)).map rowD)) :=
    eSortK_map keyB rowD (bRows q X) e2 (fun r hr => by
      have : eTup (aCons (eNeg (eOp ixD (eVar 0) (eC (.int 0)))) (aCons (eOp ixD (eVar 0) (eC (.int 1))) aNil)) [some (.val (rowD r))] = .ok (kD (keyB r)) := tup2 (neg_ok (op2 (var_ok rfl) rfl (row_0 r))) (op2 (var_ok rfl) rfl (row_1 r))
      exact this) (by omega) (nodup_key keyB_inj _ nd) fun r z => nomatch z
  unfold m_by_bounds
  rw [byb_b]
  exact gen_lso _ _ _ _ _ _ e1 e3
end Law
set_option Elab.async false
set_option linter.all false
set_option maxHeartbeats 1000000
namespace Law
open PySem PySem.Spec PyProof.Rows L2 FD
def fbl (X : List (List Nat)) (q : List Nat) (many : Nat) : List Rw → List Rw → Nat → List Rw × Nat
  | [], rs, l => (rs, l)
  | b :: bs, rs, l => if many ≤ cntR rs b.1 then (rs, l) else fbl X q many bs (rs ++ (fr1 X q b.2).toList) (l + 1)
structure JOk (X : List (List Nat)) (rs bs : List Rw) : Prop where
  nd : ((rs ++ bs).map (·.2)).Nodup
  few : (rs ++ bs).length < 64
  lt : ∀ r ∈ rs ++ bs, r.2 < X.length
  sz : ∀ x ∈ X, x.length ≤ 1000
theorem JOk.rs {X : List (List Nat)} {rs bs : List Rw} (h : JOk X rs bs) : RsOk X rs := by
  have hf := h.few
  rw [List.length_append] at hf
  have hn := h.nd
  rw [List.map_append] at hn
  exact ⟨by omega, (List.sublist_append_left _ _).nodup hn, fun r hr => h.lt r (List.mem_append_left _ hr), h.sz⟩
theorem JOk.step {X : List (List Nat)} {q : List Nat} {rs bs : List Rw} {b : Rw} (h : JOk X rs (b :: bs)) : JOk X (rs ++ (fr1 X q b.2).toList) bs := by
  unfold fr1
  cases z : bestA q (X.getD b.2 []) with
  | none =>
    have s : (rs ++ bs).Sublist (rs ++ b :: bs) := (List.Sublist.refl rs).append (List.sublist_cons_self b bs)
    simp only [Option.map_none, Option.toList_none, List.append_nil]
    exact ⟨(s.map _).nodup h.nd, Nat.lt_of_le_of_lt s.length_le h.few, fun r hr => h.lt r (s.mem hr), h.sz⟩
  | some t =>
    simp only [Option.map_some, Option.toList_some]
    have e : ((rs ++ [((t.1, b.2) : Rw)] ++ bs).map (·.2)) = (rs ++ b :: bs).map (·.2) := by simp
    refine ⟨by rw [e]; exact h.nd, by have := h.few; simp at this ⊢; omega, fun r hr => ?_, h.sz⟩
    rcases List.mem_append.mp hr with hr | hr
    · rcases List.mem_append.mp hr with hr | hr
      · exact h.lt r (List.mem_append_left _ hr)
      · have : r = (t.1, b.2) := by simpa using hr
        rw [this]
        exact h.lt b (List.mem_append_right _ List.mem_cons_self)
    · exact h.lt r (List.mem_append_right _ (List.mem_cons_of_mem _ hr))
def enE : FE := (eFz (eCall m_are_enough (aCons (eVar 3) (aCons (eVar 2) (aCons (eVar 5) aNil)))))
def exE : FE := (eCall m_fitting_rows (aCons (eVar 0) (aCons (eVar 1) (aCons (eLst (aCons (eVar 6) aNil)) aNil))))
def fbBody : FS := (sSeq (sIf (tTru enE) sBreak sNext) (sSeq (sExt 3 exE) (sAug 4 (intOp0 fun i j => .int (i + j)) (eC (.int 1)))))
def fbE : FE := (eTup (aCons (eCall m_first_rows (aCons (eVar 0) (aCons (eVar 3) (aCons (eVar 2) aNil)))) (aCons (eVar 4) aNil)))
theorem fb_b : b_found_by_bound = (sSeq (sSetO 3 (fun τ => (aNil τ).bind fun ds => if ds.length ≤ sizeLine then .ok ds else .no)) (sSeq (sSet 4 (eC (.int 0))) (sSeq (sFor (iAny (eCall m_by_bounds (aCons (eVar 0) (aCons (eVar 1) aNil)))) (gPr 5 6) fbBody) (fun τ => sRet fbE (frzT τ))))) := by
  unfold b_found_by_bound fbBody enE exE fbE; rfl
def extD (i : Nat) (ds : List D) (τ : DS) : D → Fl
  | .lst es => if ds.length + es.length ≤ sizeLine then .nx (τ.set i (some (.own (ds ++ es)))) else .no
  | _ => .no
theorem sExt_ap {i : Nat} {fe : FE} {τ : DS} : sExt i fe τ = Fl.of (getO τ[i]?) fun ds => Fl.of (fe τ) (extD i ds τ) := by
  unfold sExt
  show Fl.of (ownAt τ i) _ = _
  rw [ownAt_ap]
  congr 1
theorem gen_brk (g : FT) (r : FS) (τ : DS) (h : g τ = .ok true) : (sSeq (sIf g sBreak sNext) r) τ = .bk τ := by
  rw [sSeq_ap, sIf_ap, h, Fl.of_ok, if_pos rfl]; rfl
theorem gen_go (g : FT) (e : FE) (a0 a1 a2 a5 a6 : Option Sl) (L M : List D) (l : Int) (h : g [a0, a1, a2, some (.own L), some (.val (.int l)), a5, a6] = .ok false) (h2 : e [a0, a1, a2, some (.own L), some (.val (.int l)), a5, a6] = .ok (.lst M)) (hz : L.length + M.length ≤ sizeLine) :
    (sSeq (sIf g sBreak sNext) (sSeq (sExt 3 e) (sAug 4 (intOp0 fun i j => .int (i + j)) (eC (.int 1))))) [a0, a1, a2, some (.own L), some (.val (.int l)), a5, a6] = .nx [a0, a1, a2, some (.own (L ++ M)), some (.val (.int (l + 1))), a5, a6] := by
  have hx : extD 3 L [a0, a1, a2, some (.own L), some (.val (.int l)), a5, a6] (.lst M) = .nx [a0, a1, a2, some (.own (L ++ M)), some (.val (.int l)), a5, a6] := if_pos hz
  simp only [sSeq_ap, sSet_ap, sSetO_ap, sIf_ap, sRet_ap, sRetO_ap, ownAt_ap, sNext_ap, sFor_ap, sApp_ap, sPut_ap, eIxO_ap, eCat_ap, eLenO_ap, iAny_ap, iter_str, iter_lst, tB_ap, tTru_ap, tAnd_ap, tOr_ap, tNot_ap, eOp_ap, eVar_ap, eC_ap, aNil_ap, aCons_ap, eCall_ap, eBlt_ap, eIf_ap, eAnd_ap, eOr_ap, eNot_ap, eMt0_ap, eMt_ap, eSl_ap, oNone_ap, oSome_ap, someInt_int, List.getElem?_cons_zero, List.getElem?_cons_succ, List.set_cons_succ, List.set_cons_zero, getV_val, getO_own, Rs.bind_ok, Fl.of_ok, thn_nx, thn_rt, flRes_rt, noEx_ok, boolOf_bl, truD_bl, addD_i, subD_i, ltI_i, leD_i, gtD_i, geD_i, eqD_i, eqD_s, neD_i, neD_s, lenD_lst, gNm_ap, if_true, Bool.false_eq_true, if_false, Bool.not_true, Bool.not_false, h, sExt_ap, h2, hx, sAug_ap, io_i]
abbrev S7f (X : List (List Nat)) (q : List Nat) (many : Nat) (rs : List Rw) (l : Nat) (a5 a6 : Option Sl) : DS := [some (.val (.lst (X.map tx))), some (.val (tx q)), some (.val (.int (many : Int))), some (.own (rs.map rowD)), some (.val (.int (l : Int))), a5, a6]
theorem enE_ok (X : List (List Nat)) (q : List Nat) (many : Nat) (rs : List Rw) (l : Nat) (lim : Int) (a6 : Option Sl) (hl : rs.length ≤ 1000) : tTru enE (S7f X q many rs l (some (.val (.int lim))) a6) = .ok (decide (many ≤ cntR rs lim)) := by
  have e : eCall m_are_enough (aCons (eVar 3) (aCons (eVar 2) (aCons (eVar 5) aNil))) (frzT (S7f X q many rs l (some (.val (.int lim))) a6)) = .ok (.bl (decide (many ≤ cntR rs lim))) :=
    call3 (var_ok (d := .lst (rs.map rowD)) rfl) (var_ok (d := .int (many : Int)) rfl) (var_ok (d := .int lim) rfl) (enough_ok rs many lim hl)
  refine tru_ok ?_
  unfold enE eFz
  rw [e]; rfl
theorem exE_ok (X : List (List Nat)) (q : List Nat) (many : Nat) (rs : List Rw) (l : Nat) (i : Nat) (a5 : Option Sl) (hi : i < X.length) (hq : q.length ≤ 1000) (hX : ∀ x ∈ X, x.length ≤ 1000) (ha : ∀ c ∈ q, c < 128) : exE (S7f X q many rs l a5 (some (.val (.int (i : Int))))) = .ok (.lst ((fr1 X q i).toList.map rowD)) := by
  have := fits_ok X q [i] hq hX ha (fun j hj => (show j = i by simpa using hj) ▸ hi) (by simp)
  have e : fitR X q [i] = (fr1 X q i).toList := by unfold fitR; simp
  rw [e] at this
  exact call3 (var_ok rfl) (var_ok rfl) (lst1e (var_ok rfl)) this
theorem fb_loop (X : List (List Nat)) (q : List Nat) (many : Nat) (hq : q.length ≤ 1000) (ha : ∀ c ∈ q, c < 128) : ∀ (bs rs : List Rw) (l : Nat) (a5 a6 : Option Sl), JOk X rs bs →
    ∃ t5 t6, loopD (gPr 5 6) fbBody (bs.map rowD) (S7f X q many rs l a5 a6) = .nx (S7f X q many (fbl X q many bs rs l).1 (fbl X q many bs rs l).2 t5 t6) ∧ JOk X (fbl X q many bs rs l).1 []
  | [], rs, l, a5, a6, J => ⟨a5, a6, rfl, by unfold fbl; exact J⟩
  | b :: bs, rs, l, a5, a6, J => by
    have hset : gPr 5 6 (rowD b) (S7f X q many rs l a5 a6) = .ok (S7f X q many rs l (some (.val (.int b.1))) (some (.val (.int (b.2 : Int))))) := rfl
    have hlt := J.lt b (List.mem_append_right _ List.mem_cons_self)
    have hrs := J.rs.few
    have he := enE_ok X q many rs l b.1 (some (.val (.int (b.2 : Int)))) (by omega)
    rw [List.map_cons, loopD, hset, Fl.of_ok, fbl]
    unfold fbBody
    by_cases z : many ≤ cntR rs b.1
    · rw [decide_eq_true z] at he
      rw [gen_brk _ _ _ he, if_pos z]
      refine ⟨_, _, rfl, ?_⟩
      have s : (rs ++ []).Sublist (rs ++ b :: bs) := (List.Sublist.refl rs).append (List.nil_sublist _)
      exact ⟨(s.map _).nodup J.nd, Nat.lt_of_le_of_lt s.length_le J.few, fun r hr => J.lt r (s.mem hr), J.sz⟩
    · rw [decide_eq_false z] at he
      have h2 := exE_ok X q many rs l b.2 (some (.val (.int b.1))) hlt hq J.sz ha
      have hs : (rs.map rowD).length + ((fr1 X q b.2).toList.map rowD).length ≤ sizeLine := by
        rw [sizeLine_v, List.length_map, List.length_map]
        have : (fr1 X q b.2).toList.length ≤ 1 := by cases fr1 X q b.2 <;> simp
        omega
      rw [gen_go _ _ _ _ _ _ _ _ _ _ he h2 hs, if_neg z]
      obtain ⟨t5, t6, ih, hJ⟩ := fb_loop X q many hq ha bs (rs ++ (fr1 X q b.2).toList) (l + 1) (some (.val (.int b.1))) (some (.val (.int (b.2 : Int)))) J.step
      refine ⟨t5, t6, ?_, hJ⟩
      rw [← ih]
      unfold fbBody
      simp only [S7f, List.map_append]
      rfl
theorem gen_found (e : FA) (it : FA) (b : FS) (r : FS) (A B C R : D) (L : List D) (τ : DS) (h0 : e [some (.val A), some (.val B), some (.val C), none, none, none, none] = .ok []) (hi : it [some (.val A), some (.val B), some (.val C), some (.own []), some (.val (.int 0)), none, none] = .ok L)
    (h1 : loopD (gPr 5 6) b L [some (.val A), some (.val B), some (.val C), some (.own []), some (.val (.int 0)), none, none] = .nx τ) (h2 : r τ = .rt R) :
    runF 7 (sSeq (sSetO 3 e) (sSeq (sSet 4 (eC (.int 0))) (sSeq (sFor it (gPr 5 6) b) r))) [A, B, C] = .ok R := by
  have st : startD 7 [A, B, C] = [some (.val A), some (.val B), some (.val C), none, none, none, none] := rfl
  rw [runF_ap, st]
  simp only [sSeq_ap, sSet_ap, sSetO_ap, sIf_ap, sRet_ap, sRetO_ap, ownAt_ap, sNext_ap, sFor_ap, sApp_ap, sPut_ap, eIxO_ap, eCat_ap, eLenO_ap, iAny_ap, iter_str, iter_lst, tB_ap, tTru_ap, tAnd_ap, tOr_ap, tNot_ap, eOp_ap, eVar_ap, eC_ap, aNil_ap, aCons_ap, eCall_ap, eBlt_ap, eIf_ap, eAnd_ap, eOr_ap, eNot_ap, eMt0_ap, eMt_ap, eSl_ap, oNone_ap, oSome_ap, someInt_int, List.getElem?_cons_zero, List.getElem?_cons_succ, List.set_cons_succ, List.set_cons_zero, getV_val, getO_own, Rs.bind_ok, Fl.of_ok, thn_nx, thn_rt, flRes_rt, noEx_ok, boolOf_bl, truD_bl, addD_i, subD_i, ltI_i, leD_i, gtD_i, geD_i, eqD_i, eqD_s, neD_i, neD_s, lenD_lst, gNm_ap, if_true, Bool.false_eq_true, if_false, Bool.not_true, Bool.not_false, h0, hi, h1, h2]
theorem bs_J (X : List (List Nat)) (q : List Nat) (hX : ∀ x ∈ X, x.length ≤ 1000) (hl : X.length < 64) : JOk X [] (srtBy keyB (bRows q X)) := by
  obtain ⟨nd, lt, len⟩ := bRows_nd q X
  have p := srtBy_perm keyB (bRows q X)
  refine ⟨?_, ?_, fun r hr => ?_, hX⟩
  · rw [List.nil_append]; exact (p.map _).symm.nodup nd
  · rw [List.nil_append, p.length_eq]; omega
  · rw [List.nil_append] at hr; exact lt r (p.mem_iff.mp hr)
def fbRes (X : List (List Nat)) (q : List Nat) (many : Nat) : List Rw × Nat := let r := fbl X q many (srtBy keyB (bRows q X)) [] 0; ((srtBy (keyO X) r.1).take many, r.2)
def resD (r : List Rw × Nat) : D := .tup [.lst (r.1.map rowD), .int (r.2 : Int)]
theorem found_ok (X : List (List Nat)) (q : List Nat) (many : Nat) (hq : q.length ≤ 1000) (hX : ∀ x ∈ X, x.length ≤ 1000) (ha : ∀ c ∈ q, c < 128) (hl : X.length < 64) : m_found_by_bound [.lst (X.map tx), tx q, .int (many : Int)] = .ok (resD (fbRes X q many)) := by
  obtain ⟨t5, t6, h, J⟩ := fb_loop X q many hq ha (srtBy keyB (bRows q X)) [] 0 none none (bs_J X q hX hl)
  have it : iAny (eCall m_by_bounds (aCons (eVar 0) (aCons (eVar 1) aNil))) [some (.val (.lst (X.map tx))), some (.val (tx q)), some (.val (.int (many : Int))), some (.own []), some (.val (.int 0)), none, none] = .ok ((srtBy keyB (bRows q X)).map rowD) := by
    rw [iAny_ap, call2 (var_ok rfl) (var_ok rfl) (byb_ok X q hX ha hl)]; rfl
  unfold m_found_by_bound
  rw [fb_b]
  refine gen_found _ _ _ _ _ _ _ _ _ _ (nilO _) it h ?_
  have e : fbE (frzT (S7f X q many (fbl X q many (srtBy keyB (bRows q X)) [] 0).1 (fbl X q many (srtBy keyB (bRows q X)) [] 0).2 t5 t6)) = .ok (resD (fbRes X q many)) :=
    tup2 (call3 (var_ok (d := .lst (X.map tx)) rfl) (var_ok (d := .lst ((fbl X q many (srtBy keyB (bRows q X)) [] 0).1.map rowD)) rfl) (var_ok (d := .int (many : Int)) rfl) (first_ok X _ many J.rs)) (var_ok (d := .int ((fbl X q many (srtBy keyB (bRows q X)) [] 0).2 : Int)) rfl)
  show sRet fbE _ = _
  rw [sRet_ap, e]; rfl
end Law
set_option Elab.async false
set_option linter.all false
set_option maxHeartbeats 1000000
namespace Law
open PySem PySem.Spec PyProof.Rows L2 FD
theorem cnt_perm {rs ts : List Rw} (p : ts.Perm rs) (lim : Int) : cntR ts lim = cntR rs lim := (p.filter _).length_eq
theorem keyO_fall (X : List (List Nat)) {a b : Rw} (h : lxI (keyO X a) (keyO X b) = true) : b.1 ≤ a.1 := by
  unfold keyO at h
  rw [lxI] at h
  by_cases z : -a.1 = -b.1
  · omega
  · rw [if_neg z] at h
    simp only [decide_eq_true_eq] at h
    omega
theorem srt_fall (X : List (List Nat)) (rs : List Rw) (nd : (rs.map (·.2)).Nodup) : (srtBy (keyO X) rs).Pairwise fun a b => b.1 ≤ a.1 :=
  (srtBy_srt (keyO X) rs (nodup_key (keyO_inj X) rs nd)).imp fun h => keyO_fall X h
theorem each_rows : ∀ rs : List Rw, plainDs (rs.map rowD) = true ∧ PyData.canLayAll0 (toPys (rs.map rowD)) = true ∧ PyData.depthAll (toPys (rs.map rowD)) ≤ 1
  | [] => ⟨rfl, rfl, Nat.zero_le _⟩
  | r :: rs => by
    obtain ⟨h1, h2, h3⟩ := each_rows rs
    refine ⟨by simp [plainDs, plainD, rowD, h1], by simp [toPys, toPy, rowD, PyData.canLayAll0, PyData.canLay0, h2], ?_⟩
    simp only [List.map_cons, toPys, toPy, rowD, PyData.depthAll, PyData.depth]
    omega
theorem eqv_rows : ∀ rs : List Rw, PyData.eqvAll (toPys (rs.map rowD)) (toPys (rs.map rowD)) = true
  | [] => by rfl
  | r :: rs => by
    have := eqv_rows rs
    simp [toPys, toPy, rowD, PyData.eqvAll, PyData.eqv, this]
def abcN : List Nat := [97, 98, 99]
theorem abc_s : ("abc" : Str) = ⟨abcN.toArray⟩ := by decide +kernel
theorem abc_ok : NmOk abcN := ⟨by decide, by decide, by decide⟩
theorem cat_abc (X : List (List Nat)) (h : X.length ≤ 1000) : addD (.lst (X.map tx)) (.lst [.str "abc"]) = .ok (.lst ((X ++ [abcN]).map tx)) := by
  show (if _ then Rs.ok (D.lst _) else Rs.no) = _
  rw [if_pos (by rw [sizeLine_v, List.length_map, List.length_singleton]; omega), List.map_append, abc_s]
  rfl
def qE (a b m : Int) : FE := (eCall m__law_query (aCons (eVar 0) (aCons (eC (.int a)) (aCons (eOp ixD (eOp addD (eVar 1) (eLst (aCons (eC (.str "abc")) aNil))) (eCall m__law_drawn (aCons (eVar 0) (aCons (eC (.int b)) (aCons (eOp addD (eBlt lenD (aCons (eVar 1) aNil)) (eC (.int 1))) aNil))))) (aCons (eC (.int m)) aNil)))))
theorem call4' {f : List D → Rs D} {fa fb fc fd : FE} {τ : DS} {a b c d r : D} (h1 : fa τ = .ok a) (h2 : fb τ = .ok b) (h3 : fc τ = .ok c) (h4 : fd τ = .ok d) (h : f [a, b, c, d] = .ok r) : eCall f (aCons fa (aCons fb (aCons fc (aCons fd aNil)))) τ = .ok r := by
  rw [eCall_ap, aCons_ap, h1, Rs.bind_ok, aCons_ap, h2, Rs.bind_ok, aCons_ap, h3, Rs.bind_ok, aCons_ap, h4, Rs.bind_ok, aNil_ap, Rs.bind_ok, Rs.bind_ok, Rs.bind_ok, Rs.bind_ok, Rs.bind_ok, h]; rfl
theorem qE_ok (ns : List Int) (X : List (List Nat)) (a b m : Int) (h63 : ns.length ≤ 63) (ha0 : 0 ≤ a) (ha : a < 900000) (hb0 : 0 ≤ b) (hb : b < 900000) (hm0 : 0 ≤ m) (hm : m < 50) (hX : ∀ x ∈ X, NmOk x) (hl : X.length ≤ 1000) (r : DS) :
    ∃ q : List Nat, (q.length : Int) ≤ m ∧ (∀ c ∈ q, c ∈ QS) ∧ qE a b m (some (.val (.scr ns)) :: some (.val (.lst (X.map tx))) :: r) = .ok (tx q) := by
  have dl := draw_lt ns b (m := (X.length : Int) + 1) (by omega)
  have dk := draw_ok ns b ((X.length : Int) + 1) h63 hb0 (by omega) (by omega)
  generalize drawZ ns b ((X.length : Int) + 1) = M at dl dk
  have hi : M.toNat < (X ++ [abcN]).length := by rw [List.length_append, List.length_singleton]; omega
  have hm' : (X ++ [abcN]).getD M.toNat [] ∈ X ++ [abcN] := getD_mem hi
  have hn : NmOk ((X ++ [abcN]).getD M.toNat []) := by
    rcases List.mem_append.mp hm' with z | z
    · exact hX _ z
    · have : (X ++ [abcN]).getD M.toNat [] = abcN := by simpa using z
      rw [this]; exact abc_ok
  obtain ⟨q, q1, q2, q3⟩ := query_ok ns a ((X ++ [abcN]).getD M.toNat []) m h63 ha0 ha hm0 hm hn.1 (Nat.le_trans hn.2.1 (by decide)) hn.2.2
  refine ⟨q, q1, q2, ?_⟩
  have ix := names_ix (X ++ [abcN]) M.toNat hi
  rw [Int.toNat_of_nonneg dl.1] at ix
  unfold qE
  exact call4' (var_ok rfl) rfl (op2 (op2 (var_ok rfl) (lst1e rfl) (cat_abc X hl)) (call3 (var_ok rfl) rfl (op2 (blt1 (var_ok rfl) lenD_lst) rfl (by rw [List.length_map]; exact addD_i)) dk) ix) rfl q3
end Law
set_option Elab.async false
set_option linter.all false
set_option maxHeartbeats 1000000
namespace Law
open PySem PySem.Spec PyProof.Rows L2 FD
theorem leadP_le (p : Nat) : leadP p ≤ 0 := by unfold leadP; split <;> omega
theorem linkP_le (r p : Nat) (h : r < p) : linkP r p ≤ 7 := by
  unfold linkP
  split
  · omega
  · split <;> omega
theorem own_most (a : Nat) (x : List Nat) (p : Nat) (hp : p < x.length) (hm : meetC a (x.getD p 0) = true) : ∃ m, mostO a x = some m ∧ ownP a x p ≤ m := by
  have hin : ownP a x p ∈ plO a x := by
    unfold plO
    exact List.mem_map.mpr ⟨p, List.mem_filter.mpr ⟨List.mem_range.mpr hp, hm⟩, rfl⟩
  have hne : plO a x ≠ [] := fun z => by rw [z] at hin; cases hin
  refine ⟨mxI (plO a x), by unfold mostO; rw [if_neg hne], (mxI_spec _ hne).2 _ hin⟩
theorem bnd_lay (q x l : List Nat) (h : Lay q x l) : ∀ (n j : Nat) (t : Int), j + n = q.length → pts q x l j ≤ t → ∃ b, bndF x (q.drop j) j t = some b ∧ pts q x l q.length ≤ b
  | 0, j, t, e, ht => by
    have : j = q.length := by omega
    subst this
    rw [List.drop_length]
    exact ⟨t, rfl, ht⟩
  | n + 1, j, t, e, ht => by
    have hj : j < q.length := by omega
    have hjl : j < l.length := by rw [h.len]; exact hj
    have hd : q.drop j = q.getD j 0 :: q.drop (j + 1) := by
      rw [List.drop_eq_getElem_cons hj]
      simp [hj]
    obtain ⟨m, hm, ho⟩ := own_most (q.getD j 0) x (l.getD j 0) (h.inn j hjl) (h.met j hjl)
    rw [hd, bndF, hm]
    refine bnd_lay q x l h n (j + 1) _ (by omega) ?_
    have hp : pts q x l (j + 1) = pts q x l j + trm q x l j := rfl
    rw [hp]
    unfold trm
    by_cases z : j = 0
    · subst z
      rw [if_pos rfl, if_pos rfl]
      have := leadP_le (l.getD 0 0)
      omega
    · rw [if_neg z, if_neg z]
      have hr := h.ris (j - 1) (by omega)
      rw [show j - 1 + 1 = j by omega] at hr
      have := linkP_le (l.getD (j - 1) 0) (l.getD j 0) hr
      omega
theorem best_val (q x : List Nat) (v : Int) (l : List Nat) (h : bestA q x = some (v, l)) : Lay q x l ∧ v = pts q x l q.length := by
  unfold bestA at h
  by_cases z : q = []
  · rw [if_pos z] at h
    cases h
    subst z
    exact ⟨lay_nil' x, rfl⟩
  · rw [if_neg z] at h
    exact best_sound q x z v l h
theorem bnd_best (q x : List Nat) (t : Tl) (h : bestA q x = some t) : ∃ b, bnd q x = some b ∧ t.1 ≤ b := by
  obtain ⟨v, l⟩ := t
  obtain ⟨h1, h2⟩ := best_val q x v l h
  obtain ⟨b, h3, h4⟩ := bnd_lay q x l h1 q.length 0 0 (by omega) (Int.le_refl _)
  exact ⟨b, h3, by rw [h2]; exact h4⟩
theorem split_fall (lim : Int) : ∀ ts : List Rw, ts.Pairwise (fun a b => b.1 ≤ a.1) → ts = ts.filter (fun r => decide (lim < r.1)) ++ ts.filter (fun r => !decide (lim < r.1))
  | [], _ => rfl
  | a :: ts, h => by
    obtain ⟨h1, h2⟩ := List.pairwise_cons.mp h
    by_cases z : lim < a.1
    · have := split_fall lim ts h2
      simp only [List.filter_cons, z, decide_true, if_true, Bool.not_true, Bool.false_eq_true, if_false, List.cons_append]
      rw [← this]
    · have e1 : (a :: ts).filter (fun r => decide (lim < r.1)) = [] := by
        rw [List.filter_eq_nil_iff]
        intro r hr
        have : r.1 ≤ a.1 := by
          rcases List.mem_cons.mp hr with rfl | hr
          · exact Int.le_refl _
          · exact h1 r hr
        simp only [decide_eq_true_eq]; omega
      have e2 : (a :: ts).filter (fun r => !decide (lim < r.1)) = a :: ts := by
        rw [List.filter_eq_self]
        intro r hr
        have : r.1 ≤ a.1 := by
          rcases List.mem_cons.mp hr with rfl | hr
          · exact Int.le_refl _
          · exact h1 r hr
        simp only [Bool.not_eq_true', decide_eq_false_iff_not]; omega
      rw [e1, e2]; rfl
theorem take_more (X : List (List Nat)) (rs B : List Rw) (lim : Int) (many : Nat) (nd : ((rs ++ B).map (·.2)).Nodup) (hc : many ≤ cntR rs lim) (hB : ∀ r ∈ B, r.1 ≤ lim) : (srtBy (keyO X) (rs ++ B)).take many = (srtBy (keyO X) rs).take many := by
  have nd1 : (rs.map (·.2)).Nodup := by rw [List.map_append] at nd; exact (List.sublist_append_left _ _).nodup nd
  have p := srtBy_perm (keyO X) rs
  have sp := split_fall lim (srtBy (keyO X) rs) (srt_fall X rs nd1)
  have hlen : ((srtBy (keyO X) rs).filter fun r => decide (lim < r.1)).length = cntR rs lim := cnt_perm p lim
  have srt := srtBy_srt (keyO X) rs (nodup_key (keyO_inj X) rs nd1)
  generalize hhi : (srtBy (keyO X) rs).filter (fun r => decide (lim < r.1)) = hi at sp hlen
  generalize hlo : (srtBy (keyO X) rs).filter (fun r => !decide (lim < r.1)) = lo at sp
  have p1 : (lo ++ B).Perm (srtBy (keyO X) (lo ++ B)) := (srtBy_perm (keyO X) _).symm
  have p2 : (hi ++ srtBy (keyO X) (lo ++ B)).Perm (rs ++ B) := by
    refine ((p1.symm.append_left hi).trans ?_)
    rw [← List.append_assoc, ← sp]
    exact p.append_right B
  have ndl : ((lo ++ B).map (·.2)).Nodup := by
    have : (lo ++ B).Sublist (hi ++ (lo ++ B)) := List.sublist_append_right _ _
    have pp : (hi ++ (lo ++ B)).Perm (rs ++ B) := by rw [← List.append_assoc, ← sp]; exact p.append_right B
    exact (this.map _).nodup ((pp.map _).symm.nodup nd)
  have key : hi ++ srtBy (keyO X) (lo ++ B) = srtBy (keyO X) (rs ++ B) := by
    refine srtBy_uniq (keyO X) p2 (List.pairwise_append.mpr ⟨?_, srtBy_srt (keyO X) _ (nodup_key (keyO_inj X) _ ndl), fun a ha b hb => ?_⟩) (nodup_key (keyO_inj X) _ nd)
    · have : hi.Sublist (srtBy (keyO X) rs) := by rw [← hhi]; exact List.filter_sublist
      exact srt.sublist this
    · have ha' : lim < a.1 := by
        rw [← hhi] at ha
        simpa using (List.mem_filter.mp ha).2
      have hb' : b.1 ≤ lim := by
        rcases List.mem_append.mp (p1.mem_iff.mpr hb) with z | z
        · rw [← hlo] at z
          have := (List.mem_filter.mp z).2
          simp only [Bool.not_eq_true', decide_eq_false_iff_not] at this
          omega
        · exact hB b z
      unfold keyO
      rw [lxI, if_neg (by omega)]
      simp only [decide_eq_true_eq]; omega
  rw [← key, sp, List.take_append_of_le_length (by omega), List.take_append_of_le_length (by omega)]
abbrev frs' (X : List (List Nat)) (q : List Nat) (bs : List Rw) : List Rw := bs.flatMap fun b => (fr1 X q b.2).toList
theorem fr1_snd {X : List (List Nat)} {q : List Nat} {i : Nat} {r : Rw} (h : r ∈ (fr1 X q i).toList) : r.2 = i ∧ ∃ t, bestA q (X.getD i []) = some t ∧ r.1 = t.1 := by
  unfold fr1 at h
  cases z : bestA q (X.getD i []) with
  | none => rw [z] at h; simp at h
  | some t => rw [z] at h; simp at h; subst h; exact ⟨rfl, t, rfl, rfl⟩
theorem frs_sub (X : List (List Nat)) (q : List Nat) : ∀ bs : List Rw, ((frs' X q bs).map (·.2)).Sublist (bs.map (·.2))
  | [] => List.Sublist.refl _
  | b :: bs => by
    have ih := frs_sub X q bs
    unfold frs' at ih ⊢
    rw [List.flatMap_cons, List.map_append, List.map_cons]
    unfold fr1 at ih ⊢
    cases z : bestA q (X.getD b.2 []) with
    | none => simp; exact List.Sublist.cons _ (by simpa using ih)
    | some t => simp; exact (by simpa using ih)
theorem fbl_first (X : List (List Nat)) (q : List Nat) (many : Nat) : ∀ (bs rs : List Rw) (l : Nat), ((rs ++ bs).map (·.2)).Nodup → bs.Pairwise (fun a b => b.1 ≤ a.1) → (∀ b ∈ bs, ∀ r ∈ (fr1 X q b.2).toList, r.1 ≤ b.1) →
    (srtBy (keyO X) (fbl X q many bs rs l).1).take many = (srtBy (keyO X) (rs ++ frs' X q bs)).take many
  | [], rs, l, _, _, _ => by unfold fbl; simp
  | b :: bs, rs, l, nd, hf, hb => by
    obtain ⟨f1, f2⟩ := List.pairwise_cons.mp hf
    have hsub : ((rs ++ frs' X q (b :: bs)).map (·.2)).Sublist ((rs ++ b :: bs).map (·.2)) := by
      rw [List.map_append, List.map_append]
      exact (List.Sublist.refl _).append (frs_sub X q (b :: bs))
    rw [fbl]
    by_cases z : many ≤ cntR rs b.1
    · rw [if_pos z]
      refine (take_more X rs (frs' X q (b :: bs)) b.1 many (hsub.nodup nd) z fun r hr => ?_).symm
      obtain ⟨c, hc, hr⟩ := List.mem_flatMap.mp hr
      have h1 := hb c hc r hr
      rcases List.mem_cons.mp hc with rfl | hc
      · exact h1
      · exact Int.le_trans h1 (f1 c hc)
    · rw [if_neg z]
      have nd' : ((rs ++ (fr1 X q b.2).toList ++ bs).map (·.2)).Nodup := by
        have s : ((rs ++ (fr1 X q b.2).toList ++ bs).map (·.2)).Sublist ((rs ++ b :: bs).map (·.2)) := by
          rw [List.append_assoc, List.map_append, List.map_append, List.map_append]
          refine (List.Sublist.refl _).append ?_
          rw [List.map_cons]
          unfold fr1
          cases w : bestA q (X.getD b.2 []) with
          | none => simp
          | some t => simp
        exact s.nodup nd
      rw [fbl_first X q many bs _ (l + 1) nd' f2 fun c hc => hb c (List.mem_cons_of_mem _ hc)]
      congr 2
      rw [List.append_assoc]; rfl
theorem keyB_fall {a b : Rw} (h : lxI (keyB a) (keyB b) = true) : b.1 ≤ a.1 := by
  unfold keyB at h
  rw [lxI] at h
  by_cases z : -a.1 = -b.1
  · omega
  · rw [if_neg z] at h
    simp only [decide_eq_true_eq] at h
    omega
theorem all_rows_eq (X : List (List Nat)) (q : List Nat) : ∀ (Y : List (List Nat)) (k : Nat), X.drop k = Y → fitR X q (List.range' k Y.length) = frs' X q ((Y.zipIdx k).filterMap fun p => (bnd q p.1).map fun b => (b, p.2))
  | [], k, _ => rfl
  | y :: Y, k, h => by
    have hk : X.getD k [] = y := by
      have : (X.drop k)[0]? = some y := by rw [h]; rfl
      rw [List.getElem?_drop, Nat.add_zero] at this
      simp [this]
    have hd : X.drop (k + 1) = Y := by rw [← List.drop_drop, h]; rfl
    have ih := all_rows_eq X q Y (k + 1) hd
    unfold fitR frs' at ih ⊢
    rw [List.length_cons, List.range'_succ, List.flatMap_cons, ih, List.zipIdx_cons]
    cases z : bnd q y with
    | none =>
      have hn : fr1 X q k = none := by
        unfold fr1
        rw [hk]
        cases w : bestA q y with
        | none => rfl
        | some t => obtain ⟨b, hb, _⟩ := bnd_best q y t w; rw [z] at hb; cases hb
      rw [hn]
      simp [z]
    | some b => simp [z]
theorem bRows_of (q : List Nat) (X : List (List Nat)) (b : Rw) (h : b ∈ bRows q X) : bnd q (X.getD b.2 []) = some b.1 := by
  unfold bRows at h
  obtain ⟨p, hp, e⟩ := List.mem_filterMap.mp h
  obtain ⟨h1, h2, h3⟩ := List.mem_zipIdx hp
  cases z : bnd q p.1 with
  | none => rw [z] at e; cases e
  | some v =>
    rw [z] at e; cases e
    have : X.getD p.2 [] = p.1 := by
      rw [h3]
      have : p.2 < X.length := by omega
      simp [this]
    rw [this, z]
def allR (X : List (List Nat)) (q : List Nat) : List Rw := fitR X q (List.range X.length)
theorem found_first (X : List (List Nat)) (q : List Nat) (many : Nat) : (fbRes X q many).1 = (srtBy (keyO X) (allR X q)).take many := by
  obtain ⟨nd, lt, len⟩ := bRows_nd q X
  have p := srtBy_perm keyB (bRows q X)
  have e := fbl_first X q many (srtBy keyB (bRows q X)) [] 0 (by rw [List.nil_append]; exact (p.map _).symm.nodup nd) ((srtBy_srt keyB _ (nodup_key keyB_inj _ nd)).imp fun h => keyB_fall h) fun b hb r hr => by
    obtain ⟨h1, t, h2, h3⟩ := fr1_snd hr
    obtain ⟨v, h4, h5⟩ := bnd_best q _ t h2
    have := bRows_of q X b (p.mem_iff.mp hb)
    rw [this] at h4; cases h4
    rw [h3]; exact h5
  unfold fbRes
  simp only
  rw [e, List.nil_append]
  congr 1
  have ea : allR X q = frs' X q (bRows q X) := by
    unfold allR bRows
    rw [List.range_eq_range']
    exact all_rows_eq X q X 0 rfl
  have pf : (frs' X q (srtBy keyB (bRows q X))).Perm (frs' X q (bRows q X)) := p.flatMap_right _
  rw [ea]
  have nd2 : ((frs' X q (bRows q X)).map (·.2)).Nodup := (frs_sub X q _).nodup nd
  exact srtBy_uniq (keyO X) ((srtBy_perm _ _).trans pf) (srtBy_srt (keyO X) _ (nodup_key (keyO_inj X) _ ((pf.map _).symm.nodup nd2))) (nodup_key (keyO_inj X) _ nd2)
theorem fbl_ge (X : List (List Nat)) (q : List Nat) (many : Nat) : ∀ (bs rs : List Rw) (l : Nat), l ≤ (fbl X q many bs rs l).2 ∧ (fbl X q many bs rs l).2 ≤ l + bs.length ∧ (fbl X q many bs rs l).1.length + l ≤ rs.length + (fbl X q many bs rs l).2
  | [], rs, l => by unfold fbl; simp
  | b :: bs, rs, l => by
    rw [fbl]
    split
    · exact ⟨Nat.le_refl _, Nat.le_add_right _ _, Nat.le_refl _⟩
    · obtain ⟨h1, h2, h3⟩ := fbl_ge X q many bs (rs ++ (fr1 X q b.2).toList) (l + 1)
      have : (fr1 X q b.2).toList.length ≤ 1 := by cases fr1 X q b.2 <;> simp
      rw [List.length_append] at h3
      rw [List.length_cons]
      exact ⟨by omega, by omega, by omega⟩
theorem fbl_mono (X : List (List Nat)) (q : List Nat) (m n : Nat) (h : m ≤ n) : ∀ (bs rs : List Rw) (l : Nat), (fbl X q m bs rs l).2 ≤ (fbl X q n bs rs l).2
  | [], rs, l => Nat.le_refl _
  | b :: bs, rs, l => by
    rw [fbl, fbl]
    by_cases z : n ≤ cntR rs b.1
    · rw [if_pos z, if_pos (Nat.le_trans h z)]; exact Nat.le_refl _
    · rw [if_neg z]
      by_cases w : m ≤ cntR rs b.1
      · rw [if_pos w]
        have := (fbl_ge X q n bs (rs ++ (fr1 X q b.2).toList) (l + 1)).1
        show l ≤ _
        omega
      · rw [if_neg w]; exact fbl_mono X q m n h bs _ (l + 1)
theorem res_mono (X : List (List Nat)) (q : List Nat) (m n : Nat) (h : m ≤ n) : (fbRes X q m).2 ≤ (fbRes X q n).2 := fbl_mono X q m n h _ _ _
theorem res_zero (X : List (List Nat)) (q : List Nat) : (fbRes X q 0).2 = 0 := by
  unfold fbRes
  simp only
  cases srtBy keyB (bRows q X) with
  | nil => rfl
  | cons b bs => rw [fbl, if_pos (Nat.zero_le _)]
theorem res_len (X : List (List Nat)) (q : List Nat) (m : Nat) : (fbRes X q m).1.length ≤ (fbRes X q m).2 ∧ (fbRes X q m).2 ≤ (bRows q X).length := by
  obtain ⟨h1, h2, h3⟩ := fbl_ge X q m (srtBy keyB (bRows q X)) [] 0
  have p1 := (srtBy_perm keyB (bRows q X)).length_eq
  have p2 := (srtBy_perm (keyO X) (fbl X q m (srtBy keyB (bRows q X)) [] 0).1).length_eq
  unfold fbRes
  simp only
  rw [List.length_take, p2]
  have : ([] : List Rw).length = 0 := rfl
  exact ⟨by omega, by omega⟩
theorem bRows_cnt (q : List Nat) (X : List (List Nat)) : (bRows q X).length + X.countP (fun x => (bnd q x).isNone) = X.length := by
  unfold bRows
  have : ∀ (Y : List (List Nat)) (k : Nat), ((Y.zipIdx k).filterMap fun p => (bnd q p.1).map fun b => ((b, p.2) : Rw)).length + Y.countP (fun x => (bnd q x).isNone) = Y.length := by
    intro Y
    induction Y with
    | nil => intro k; rfl
    | cons y Y ih =>
      intro k
      have := ih (k + 1)
      rw [List.zipIdx_cons, List.countP_cons]
      cases z : bnd q y with
      | none => simp [z]; omega
      | some b => simp [z]; omega
  exact this X 0
end Law
set_option Elab.async false
set_option linter.all false
set_option maxHeartbeats 1000000
namespace Law
open PySem PySem.Spec PyProof.Rows L2 FD
theorem allR_sub (X : List (List Nat)) (q : List Nat) : ∀ is : List Nat, ((fitR X q is).map (·.2)).Sublist is
  | [] => List.Sublist.refl _
  | i :: is => by
    have ih := allR_sub X q is
    unfold fitR at ih ⊢
    rw [List.flatMap_cons, List.map_append]
    unfold fr1 at ih ⊢
    cases z : bestA q (X.getD i []) with
    | none => simp; exact List.Sublist.cons _ (by simpa using ih)
    | some t => simp; exact (by simpa using ih)
theorem allR_ok (X : List (List Nat)) (q : List Nat) (hX : ∀ x ∈ X, x.length ≤ 1000) (hl : X.length < 64) : RsOk X (allR X q) := by
  have s := allR_sub X q (List.range X.length)
  refine ⟨?_, s.nodup List.nodup_range, fun r hr => ?_, hX⟩
  · have := s.length_le
    rw [List.length_map, List.length_range] at this
    unfold allR; omega
  · have := s.mem (List.mem_map.mpr ⟨r, hr, rfl⟩)
    simpa using this
theorem rng_nat (n : Nat) : ((List.range n).map fun (k : Nat) => D.int (0 + k)) = (List.range n).map fun (i : Nat) => D.int i := List.map_congr_left fun k _ => by rw [Int.zero_add]
theorem all_b : b_all_rows = (sRet (eCall m_fitting_rows (aCons (eVar 0) (aCons (eVar 1) (aCons (fun τ => ((lstRg (iRg1 (aCons (eBlt lenD (aCons (eVar 0) aNil)) aNil))) τ).bind fun ds => .ok (.lst ds)) aNil))))) := by unfold b_all_rows; rfl
theorem all_ok (X : List (List Nat)) (q : List Nat) (hq : q.length ≤ 1000) (hX : ∀ x ∈ X, x.length ≤ 1000) (ha : ∀ c ∈ q, c < 128) (hl : X.length < 64) : m_all_rows [.lst (X.map tx), tx q] = .ok (.lst ((allR X q).map rowD)) := by
  have st : startD 2 [.lst (X.map tx), tx q] = [some (.val (.lst (X.map tx))), some (.val (tx q))] := rfl
  have r1 : iRg1 (aCons (eBlt lenD (aCons (eVar 0) aNil)) aNil) [some (.val (.lst (X.map tx))), some (.val (tx q))] = .ok ((List.range X.length).map fun (i : Nat) => D.int i) := by
    rw [← rng_nat]
    exact rng_ok (blt1 (var_ok rfl) (by rw [lenD_lst, List.length_map])) (by omega)
  have e : eCall m_fitting_rows (aCons (eVar 0) (aCons (eVar 1) (aCons (fun τ => ((lstRg (iRg1 (aCons (eBlt lenD (aCons (eVar 0) aNil)) aNil))) τ).bind fun ds => .ok (.lst ds)) aNil))) [some (.val (.lst (X.map tx))), some (.val (tx q))] = .ok (.lst ((allR X q).map rowD)) := by
    refine call3 (var_ok rfl) (var_ok rfl) ?_ (fits_ok X q (List.range X.length) hq hX ha (fun i hi => List.mem_range.mp hi) (by rw [List.length_range]; omega))
    unfold lstRg
    rw [r1, Rs.bind_ok, if_pos (by rw [List.length_map, List.length_range]; omega)]; rfl
  unfold m_all_rows
  rw [all_b, runF_ap, st, sRet_ap, e]; rfl
theorem finds_b : b_finds = (sRet (eCall m_first_rows (aCons (eVar 0) (aCons (eCall m_all_rows (aCons (eVar 0) (aCons (eVar 1) aNil))) (aCons (eVar 2) aNil))))) := by unfold b_finds; rfl
theorem finds_ok (X : List (List Nat)) (q : List Nat) (many : Nat) (hq : q.length ≤ 1000) (hX : ∀ x ∈ X, x.length ≤ 1000) (ha : ∀ c ∈ q, c < 128) (hl : X.length < 64) : m_finds [.lst (X.map tx), tx q, .int (many : Int)] = .ok (.lst (((srtBy (keyO X) (allR X q)).take many).map rowD)) := by
  have st : startD 3 [.lst (X.map tx), tx q, .int (many : Int)] = [some (.val (.lst (X.map tx))), some (.val (tx q)), some (.val (.int (many : Int)))] := rfl
  have e : eCall m_first_rows (aCons (eVar 0) (aCons (eCall m_all_rows (aCons (eVar 0) (aCons (eVar 1) aNil))) (aCons (eVar 2) aNil))) [some (.val (.lst (X.map tx))), some (.val (tx q)), some (.val (.int (many : Int)))] = .ok (.lst (((srtBy (keyO X) (allR X q)).take many).map rowD)) :=
    call3 (var_ok rfl) (call2 (var_ok rfl) (var_ok rfl) (all_ok X q hq hX ha hl)) (var_ok rfl) (first_ok X _ many (allR_ok X q hX hl))
  unfold m_finds
  rw [finds_b, runF_ap, st, sRet_ap, e]; rfl
theorem ne_rows (rs : List Rw) : neD (.lst (rs.map rowD)) (.lst (rs.map rowD)) = .ok (.bl false) := by
  obtain ⟨a, b, c⟩ := each_rows rs
  have ok : okD (.lst (rs.map rowD)) = true := by
    simp [okD, plainD, toPy, PyData.canLay0, PyData.depth, a, b]
    omega
  have ev : eqvD (.lst (rs.map rowD)) (.lst (rs.map rowD)) = true := by
    simp [eqvD, toPy, PyData.eqv, eqv_rows]
  unfold neD
  simp only [ok, and_self, if_true, ev, Bool.not_true]
abbrev S10 (a0 a1 a2 a3 a4 a5 a6 a7 a8 a9 : Option Sl) : DS := [a0, a1, a2, a3, a4, a5, a6, a7, a8, a9]
def wE : FE := fun τ => ((eComp 1 [2] (iAny (eVar 1)) (gNm 0) (fun _ => .ok true) (eCall m_bound (aCons (eVar 1) (aCons (eVar 0) aNil)))) τ).bind fun ds => .ok (.lst ds)
def w1 : FS := (sSeq (sSet 6 (eCall m_best (aCons (eVar 2) (aCons (eVar 4) aNil)))) (sIf (tAndD (FD.tB (eOp isNotD (eVar 6) (eC .non))) (tOrD (FD.tB (eOp isD (eVar 5) (eC .non))) (FD.tB (eOp ltI (eVar 5) (eOp ixD (eVar 6) (eC (.int 0))))))) (sRet (eC (.bl false))) sNext))
def wT1 : FT := (tOrD (FD.tB (eOp neD (eVar 6) (eCall m_finds (aCons (eVar 1) (aCons (eVar 2) (aCons (eVar 8) aNil)))))) (tNotD (FD.tB (eChain leD leD (eVar 7) (eVar 9) (eOp subD (eBlt lenD (aCons (eVar 1) aNil)) (eMt "list" cnnD (eVar 3) (aCons (eC .non) aNil)))))))
def wT2 : FT := (tOrD (FD.tB (eOp ltI (eVar 9) (eBlt lenD (aCons (eVar 6) aNil)))) (tAndD (FD.tB (eOp eqD (eVar 8) (eC (.int 0)))) (FD.tB (eOp neD (eVar 9) (eC (.int 0))))))
def wF : FE := (eCall m_found_by_bound (aCons (eVar 1) (aCons (eVar 2) (aCons (eVar 8) aNil))))
def w2 : FS := (sSeq (sTup (gPr 6 9) wF) (sSeq (sIf wT1 (sRet (eC (.bl false))) sNext) (sSeq (sIf wT2 (sRet (eC (.bl false))) sNext) (sSet 7 (eVar 9)))))
def wR : FE := (eOr (eOp neD (eVar 2) (eC (.str ""))) (eOp eqD (eVar 3) (eOp mulD (eLst (aCons (eC (.int 0)) aNil)) (eBlt lenD (aCons (eVar 1) aNil)))))
theorem law_b : b_law = (sSeq (sSet 1 (eCall m__law_names (aCons (eVar 0) (aCons (eC (.int 0)) (aCons (eC (.int 5)) aNil)))))
      (sSeq (sSet 2 (qE 80 79 4)) (sSeq (sSet 3 wE) (sSeq (sFor (iZpL (aCons (eVar 1) (aCons (eVar 3) aNil))) (gPr 4 5) w1) (sSeq (sSet 7 (eC (.int 0))) (sSeq (sFor (iRg1 (aCons (eC (.int 7)) aNil)) (gNm 8) w2) (sRet wR))))))) := by
  unfold b_law qE wE w1 w2 wT1 wT2 wF wR; rfl
theorem wE_ok (X : List (List Nat)) (q : List Nat) (a0 a3 a4 a5 a6 a7 a8 a9 : Option Sl) (hX : ∀ x ∈ X, x.length ≤ 1000) (ha : ∀ c ∈ q, c < 128) (hl : X.length < 64) : wE (S10 a0 (some (.val (.lst (X.map tx)))) (some (.val (tx q))) a3 a4 a5 a6 a7 a8 a9) = .ok (.lst (X.map fun x => oI (bnd q x))) := by
  have cm := comp_map (set := gNm 0) (fe := (eCall m_bound (aCons (eVar 1) (aCons (eVar 0) aNil)))) (τ := [none, some (.val (tx q))]) tx (fun x => oI (bnd q x)) id X fun x hx =>
    ⟨[some (.val (tx x)), some (.val (tx q))], rfl, call2 (var_ok rfl) (var_ok rfl) (bound_ok q x (hX x hx) ha)⟩
  rw [List.map_id] at cm
  have ec := comp_ok (k := 1) (idx := [2]) (fi := iAny (eVar 1)) (τ := S10 a0 (some (.val (.lst (X.map tx)))) (some (.val (tx q))) a3 a4 a5 a6 a7 a8 a9) rfl cm (by rw [List.length_map]; omega)
  unfold wE
  rw [ec]; rfl
theorem gen_w1 (e : FE) (g : FT) (a0 a1 a2 a3 a4 a5 a6 a7 a8 a9 : Option Sl) (R : D) (h1 : e (S10 a0 a1 a2 a3 a4 a5 a6 a7 a8 a9) = .ok R) (h2 : g (S10 a0 a1 a2 a3 a4 a5 (some (.val R)) a7 a8 a9) = .ok false) :
    (sSeq (sSet 6 e) (sIf g (sRet (eC (.bl false))) sNext)) (S10 a0 a1 a2 a3 a4 a5 a6 a7 a8 a9) = .nx (S10 a0 a1 a2 a3 a4 a5 (some (.val R)) a7 a8 a9) := by
  simp only [S10] at h1 h2 ⊢
  simp only [sSeq_ap, sSet_ap, sSetO_ap, sIf_ap, sRet_ap, sRetO_ap, ownAt_ap, sNext_ap, sFor_ap, sApp_ap, sPut_ap, eIxO_ap, eCat_ap, eLenO_ap, iAny_ap, iter_str, iter_lst, tB_ap, tTru_ap, tAnd_ap, tOr_ap, tNot_ap, eOp_ap, eVar_ap, eC_ap, aNil_ap, aCons_ap, eCall_ap, eBlt_ap, eIf_ap, eAnd_ap, eOr_ap, eNot_ap, eMt0_ap, eMt_ap, eSl_ap, oNone_ap, oSome_ap, someInt_int, List.getElem?_cons_zero, List.getElem?_cons_succ, List.set_cons_succ, List.set_cons_zero, getV_val, getO_own, Rs.bind_ok, Fl.of_ok, thn_nx, thn_rt, flRes_rt, noEx_ok, boolOf_bl, truD_bl, addD_i, subD_i, ltI_i, leD_i, gtD_i, geD_i, eqD_i, eqD_s, neD_i, neD_s, lenD_lst, gNm_ap, if_true, Bool.false_eq_true, if_false, Bool.not_true, Bool.not_false, h1, h2]
theorem and_f {f g : FT} {τ : DS} (h1 : f τ = .ok false) : tAndD f g τ = .ok false := by rw [tAnd_ap, h1, Rs.bind_ok, if_neg (by simp)]
theorem and_t {f g : FT} {τ : DS} {b : Bool} (h1 : f τ = .ok true) (h2 : g τ = .ok b) : tAndD f g τ = .ok b := by rw [tAnd_ap, h1, Rs.bind_ok, if_pos rfl, h2]
theorem w1_ok (q x : List Nat) (a0 a1 a3 a6 a7 a8 a9 : Option Sl) (hx : x.length ≤ 1000) (hq : q.length ≤ 1000) (ha : ∀ c ∈ q, c < 128) : ∃ t6, w1 (S10 a0 a1 (some (.val (tx q))) a3 (some (.val (tx x))) (some (.val (oI (bnd q x)))) a6 a7 a8 a9) = .nx (S10 a0 a1 (some (.val (tx q))) a3 (some (.val (tx x))) (some (.val (oI (bnd q x)))) t6 a7 a8 a9) := by
  refine ⟨_, gen_w1 _ _ _ _ _ _ _ _ _ _ _ _ _ (call2 (var_ok rfl) (var_ok rfl) (abest_ok q x hq hx ha)) ?_⟩
  cases z : bestA q x with
  | none => exact and_f (tB_ok (op2 (var_ok rfl) rfl isNot_non))
  | some t =>
    obtain ⟨b, hb, hle⟩ := bnd_best q x t z
    rw [hb]
    refine and_t (tB_ok (op2 (var_ok rfl) rfl (isNot_tl t))) (or_tr (tB_ok (op2 (var_ok rfl) rfl (is_int b))) (tB_ok ((op2 (var_ok rfl) (op2 (var_ok rfl) rfl (tl_0 t)) ltI_i).trans ?_)))
    rw [decide_eq_false (by omega)]
theorem w1_loop (q : List Nat) (a0 a1 a3 a7 a8 a9 : Option Sl) (hq : q.length ≤ 1000) (ha : ∀ c ∈ q, c < 128) : ∀ (X : List (List Nat)) (a4 a5 a6 : Option Sl), (∀ x ∈ X, x.length ≤ 1000) →
    ∃ t4 t5 t6, loopD (gPr 4 5) w1 (X.map fun x => D.tup [tx x, oI (bnd q x)]) (S10 a0 a1 (some (.val (tx q))) a3 a4 a5 a6 a7 a8 a9) = .nx (S10 a0 a1 (some (.val (tx q))) a3 t4 t5 t6 a7 a8 a9)
  | [], a4, a5, a6, _ => ⟨a4, a5, a6, rfl⟩
  | x :: X, a4, a5, a6, hX => by
    obtain ⟨t6, e⟩ := w1_ok q x a0 a1 a3 a6 a7 a8 a9 (hX x List.mem_cons_self) hq ha
    obtain ⟨u4, u5, u6, ih⟩ := w1_loop q a0 a1 a3 a7 a8 a9 hq ha X (some (.val (tx x))) (some (.val (oI (bnd q x)))) t6 fun y hy => hX y (List.mem_cons_of_mem _ hy)
    refine ⟨u4, u5, u6, ?_⟩
    have hset : gPr 4 5 (.tup [tx x, oI (bnd q x)]) (S10 a0 a1 (some (.val (tx q))) a3 a4 a5 a6 a7 a8 a9) = .ok (S10 a0 a1 (some (.val (tx q))) a3 (some (.val (tx x))) (some (.val (oI (bnd q x)))) a6 a7 a8 a9) := rfl
    rw [List.map_cons, loopD, hset, Fl.of_ok, e]
    exact ih
theorem oIns_map (f : List Nat → Option Int) : ∀ X : List (List Nat), oIns (X.map fun x => oI (f x)) = some (X.map f)
  | [] => rfl
  | x :: X => by
    rw [List.map_cons, List.map_cons, oIns, oIns_map f X]
    cases f x <;> rfl
theorem cnn_ok (f : List Nat → Option Int) (X : List (List Nat)) : cnnD (.lst (X.map fun x => oI (f x))) [.non] = .ok (.int (X.countP (fun x => (f x).isNone) : Nat)) := by
  have e : cnl (.lst (X.map fun x => oI (f x))) [.non] = some (X.map f) := oIns_map f X
  unfold cnnD
  rw [e]
  simp only [List.countP_map]
  rfl
theorem gen_w2 (e : FE) (g1 g2 : FT) (a0 a1 a2 a3 a4 a5 a6 a7 a8 a9 : Option Sl) (R L : D) (h1 : e (S10 a0 a1 a2 a3 a4 a5 a6 a7 a8 a9) = .ok (.tup [R, L])) (h2 : g1 (S10 a0 a1 a2 a3 a4 a5 (some (.val R)) a7 a8 (some (.val L))) = .ok false) (h3 : g2 (S10 a0 a1 a2 a3 a4 a5 (some (.val R)) a7 a8 (some (.val L))) = .ok false) :
    (sSeq (sTup (gPr 6 9) e) (sSeq (sIf g1 (sRet (eC (.bl false))) sNext) (sSeq (sIf g2 (sRet (eC (.bl false))) sNext) (sSet 7 (eVar 9))))) (S10 a0 a1 a2 a3 a4 a5 a6 a7 a8 a9) = .nx (S10 a0 a1 a2 a3 a4 a5 (some (.val R)) (some (.val L)) a8 (some (.val L))) := by
  have hs : sTup (gPr 6 9) e (S10 a0 a1 a2 a3 a4 a5 a6 a7 a8 a9) = .nx (S10 a0 a1 a2 a3 a4 a5 (some (.val R)) a7 a8 (some (.val L))) := by
    unfold sTup
    rw [h1]; rfl
  rw [sSeq_ap, hs, thn_nx]
  simp only [S10] at h2 h3 ⊢
  simp only [sSeq_ap, sSet_ap, sSetO_ap, sIf_ap, sRet_ap, sRetO_ap, ownAt_ap, sNext_ap, sFor_ap, sApp_ap, sPut_ap, eIxO_ap, eCat_ap, eLenO_ap, iAny_ap, iter_str, iter_lst, tB_ap, tTru_ap, tAnd_ap, tOr_ap, tNot_ap, eOp_ap, eVar_ap, eC_ap, aNil_ap, aCons_ap, eCall_ap, eBlt_ap, eIf_ap, eAnd_ap, eOr_ap, eNot_ap, eMt0_ap, eMt_ap, eSl_ap, oNone_ap, oSome_ap, someInt_int, List.getElem?_cons_zero, List.getElem?_cons_succ, List.set_cons_succ, List.set_cons_zero, getV_val, getO_own, Rs.bind_ok, Fl.of_ok, thn_nx, thn_rt, flRes_rt, noEx_ok, boolOf_bl, truD_bl, addD_i, subD_i, ltI_i, leD_i, gtD_i, geD_i, eqD_i, eqD_s, neD_i, neD_s, lenD_lst, gNm_ap, if_true, Bool.false_eq_true, if_false, Bool.not_true, Bool.not_false, h2, h3]
theorem chain_ok {fa fb fc : FE} {τ : DS} {i j k : Int} (h1 : fa τ = .ok (.int i)) (h2 : fb τ = .ok (.int j)) (h3 : fc τ = .ok (.int k)) (hij : i ≤ j) (hjk : j ≤ k) : eChain leD leD fa fb fc τ = .ok (.bl true) := by
  unfold eChain
  rw [h1, Rs.bind_ok, h2, Rs.bind_ok, leD_i, Rs.bind_ok]
  simp only [hij, decide_true, if_true, h3, Rs.bind_ok, leD_i, hjk]
theorem not_t {f : FT} {τ : DS} (h : f τ = .ok true) : tNotD f τ = .ok false := by rw [tNot_ap, h]; rfl
theorem mt_ok {T : String} {g : D → List D → Rs D} {fa fb : FE} {τ : DS} {a b r : D} (h1 : fa τ = .ok a) (ht : isTy T a = true) (h2 : fb τ = .ok b) (h : g a [b] = .ok r) : eMt T g fa (aCons fb aNil) τ = .ok r := by
  rw [eMt_ap, h1, Rs.bind_ok, if_pos ht, aCons_ap, h2, Rs.bind_ok, aNil_ap, Rs.bind_ok, Rs.bind_ok, h]
theorem w2_ok (X : List (List Nat)) (q : List Nat) (m bf : Nat) (a0 a4 a5 a6 a9 : Option Sl) (hX : ∀ x ∈ X, x.length ≤ 1000) (hq : q.length ≤ 1000) (ha : ∀ c ∈ q, c < 128) (hl : X.length < 64) (hbf : bf ≤ (fbRes X q m).2) :
    w2 (S10 a0 (some (.val (.lst (X.map tx)))) (some (.val (tx q))) (some (.val (.lst (X.map fun x => oI (bnd q x))))) a4 a5 a6 (some (.val (.int (bf : Int)))) (some (.val (.int (m : Int)))) a9) =
      .nx (S10 a0 (some (.val (.lst (X.map tx)))) (some (.val (tx q))) (some (.val (.lst (X.map fun x => oI (bnd q x))))) a4 a5 (some (.val (.lst ((fbRes X q m).1.map rowD)))) (some (.val (.int ((fbRes X q m).2 : Int)))) (some (.val (.int (m : Int)))) (some (.val (.int ((fbRes X q m).2 : Int))))) := by
  obtain ⟨l1, l2⟩ := res_len X q m
  have cnt := bRows_cnt q X
  refine gen_w2 _ _ _ _ _ _ _ _ _ _ _ _ _ _ _ (call3 (var_ok rfl) (var_ok rfl) (var_ok rfl) (found_ok X q m hq hX ha hl)) ?_ ?_
  · refine or_tr (tB_ok (op2 (var_ok rfl) (call3 (var_ok rfl) (var_ok rfl) (var_ok rfl) (finds_ok X q m hq hX ha hl)) ?_)) (not_t (tB_ok (chain_ok (var_ok rfl) (var_ok rfl) (op2 (blt1 (var_ok rfl) (by rw [lenD_lst, List.length_map])) (mt_ok (var_ok rfl) rfl rfl (cnn_ok (bnd q) X)) subD_i) (by omega) (by omega))))
    rw [found_first]
    exact ne_rows _
  · refine or_tr (tB_ok ((op2 (var_ok rfl) (blt1 (var_ok rfl) (by rw [lenD_lst, List.length_map])) ltI_i).trans ?_)) ?_
    · rw [decide_eq_false (by omega)]
    · by_cases z : m = 0
      · subst z
        refine and_t (tB_ok ((op2 (var_ok rfl) rfl eqD_i).trans rfl)) (tB_ok ((op2 (var_ok rfl) rfl neD_i).trans ?_))
        rw [res_zero]; rfl
      · refine and_f (tB_ok ((op2 (var_ok rfl) rfl eqD_i).trans ?_))
        have : ((m : Int) == 0) = false := by rw [beq_eq_false_iff_ne]; omega
        rw [this]
theorem w2_loop (X : List (List Nat)) (q : List Nat) (a0 a4 a5 : Option Sl) (hX : ∀ x ∈ X, x.length ≤ 1000) (hq : q.length ≤ 1000) (ha : ∀ c ∈ q, c < 128) (hl : X.length < 64) : ∀ (n j bf : Nat) (a6 a8 a9 : Option Sl), bf ≤ (fbRes X q j).2 →
    ∃ t6 t7 t8 t9, loopD (gNm 8) w2 ((List.range' j n).map fun (k : Nat) => D.int (0 + k)) (S10 a0 (some (.val (.lst (X.map tx)))) (some (.val (tx q))) (some (.val (.lst (X.map fun x => oI (bnd q x))))) a4 a5 a6 (some (.val (.int (bf : Int)))) a8 a9) =
      .nx (S10 a0 (some (.val (.lst (X.map tx)))) (some (.val (tx q))) (some (.val (.lst (X.map fun x => oI (bnd q x))))) a4 a5 t6 t7 t8 t9)
  | 0, j, bf, a6, a8, a9, _ => ⟨a6, _, a8, a9, rfl⟩
  | n + 1, j, bf, a6, a8, a9, h => by
    have e := w2_ok X q j bf a0 a4 a5 a6 a9 hX hq ha hl h
    obtain ⟨t6, t7, t8, t9, ih⟩ := w2_loop X q a0 a4 a5 hX hq ha hl n (j + 1) (fbRes X q j).2 (some (.val (.lst ((fbRes X q j).1.map rowD)))) (some (.val (.int (j : Int)))) (some (.val (.int ((fbRes X q j).2 : Int)))) (res_mono X q j (j + 1) (Nat.le_succ _))
    refine ⟨t6, t7, t8, t9, ?_⟩
    rw [List.range'_succ, List.map_cons, loopD, gNm_ap, Fl.of_ok, Int.zero_add]
    simp only [S10, List.set_cons_succ, List.set_cons_zero] at e ⊢
    rw [e]
    exact ih
theorem each_zero : ∀ n : Nat, plainDs (List.replicate n (D.int 0)) = true ∧ PyData.canLayAll0 (toPys (List.replicate n (D.int 0))) = true ∧ PyData.depthAll (toPys (List.replicate n (D.int 0))) = 0 ∧ PyData.eqvAll (toPys (List.replicate n (D.int 0))) (toPys (List.replicate n (D.int 0))) = true
  | 0 => ⟨rfl, rfl, rfl, by rfl⟩
  | n + 1 => by
    obtain ⟨h1, h2, h3, h4⟩ := each_zero n
    rw [List.replicate_succ]
    exact ⟨by simp [plainDs, plainD, h1], by simp [toPys, toPy, PyData.canLayAll0, PyData.canLay0, h2], by simp [toPys, toPy, PyData.depthAll, PyData.depth, h3], by simp [toPys, toPy, PyData.eqvAll, PyData.eqv, h4]⟩
theorem eq_zeros (n : Nat) : eqD (.lst (List.replicate n (D.int 0))) (.lst (List.replicate n (D.int 0))) = .ok (.bl true) := by
  obtain ⟨h1, h2, h3, h4⟩ := each_zero n
  have ok : okD (.lst (List.replicate n (D.int 0))) = true := by simp [okD, plainD, toPy, PyData.canLay0, PyData.depth, h1, h2, h3]
  have ev : eqvD (.lst (List.replicate n (D.int 0))) (.lst (List.replicate n (D.int 0))) = true := by simp [eqvD, toPy, PyData.eqv, h4]
  unfold eqD
  simp only [ok, and_self, if_true, ev]
theorem mulL (i : List D) (k : Int) (h : k < 16777216 ∧ -16777216 < k ∧ i.length * k.toNat ≤ sizeLine) : mulD (.lst i) (.int k) = .ok (.lst (List.replicate k.toNat i).flatten) := if_pos h
theorem wR_ok (X : List (List Nat)) (q : List Nat) (a0 a4 a5 a6 a7 a8 a9 : Option Sl) (hl : X.length < 64) : wR (S10 a0 (some (.val (.lst (X.map tx)))) (some (.val (tx q))) (some (.val (.lst (X.map fun x => oI (bnd q x))))) a4 a5 a6 a7 a8 a9) = .ok (.bl true) := by
  have ee : ("" : Str) = ⟨([] : List Nat).toArray⟩ := by decide +kernel
  unfold wR
  by_cases z : q = []
  · subst z
    have h1 : eOp neD (eVar 2) (eC (.str "")) (S10 a0 (some (.val (.lst (X.map tx)))) (some (.val (tx []))) (some (.val (.lst (X.map fun x => oI (bnd [] x))))) a4 a5 a6 a7 a8 a9) = .ok (.bl false) := by
      refine (op2 (var_ok rfl) rfl neD_s).trans ?_
      rw [ee, beq_self_eq_true]; rfl
    have e3 : (X.map fun x => oI (bnd [] x)) = List.replicate X.length (D.int 0) := by
      rw [List.eq_replicate_iff]
      refine ⟨by simp, fun d hd => ?_⟩
      obtain ⟨x, _, rfl⟩ := List.mem_map.mp hd
      rfl
    have hm : mulD (.lst [.int 0]) (.int (X.length : Int)) = .ok (.lst (List.replicate X.length (D.int 0))) := by
      rw [mulL _ _ ⟨by omega, by omega, by rw [sizeLine_v, List.length_singleton]; omega⟩, Int.toNat_natCast]
      congr 2
      induction X.length with
      | zero => rfl
      | succ n ih => rw [List.replicate_succ, List.flatten_cons, ih, List.replicate_succ]; rfl
    rw [eOr_ap, h1, Rs.bind_ok, truD_bl, Rs.bind_ok, if_neg (by simp), e3]
    exact op2 (var_ok rfl) (op2 (lst1e rfl) (blt1 (var_ok rfl) (by rw [lenD_lst, List.length_map])) hm) (eq_zeros _)
  · have h1 : eOp neD (eVar 2) (eC (.str "")) (S10 a0 (some (.val (.lst (X.map tx)))) (some (.val (tx q))) (some (.val (.lst (X.map fun x => oI (bnd q x))))) a4 a5 a6 a7 a8 a9) = .ok (.bl true) := by
      refine (op2 (var_ok rfl) rfl neD_s).trans ?_
      rw [ee]
      have : ((⟨q.toArray⟩ : Str) == ⟨([] : List Nat).toArray⟩) = false := by
        rw [beq_eq_false_iff_ne]
        intro w
        have := congrArg (fun s : Str => s.cps.toList) w
        simp at this
        exact z this
      rw [this]; rfl
    rw [eOr_ap, h1, Rs.bind_ok]
    rfl
theorem gen_law (e1 e2 e3 e4 : FE) (i1 i2 : FA) (b1 b2 : FS) (A N Q V : D) (L1 L2 : List D) (t4 t5 t6 u6 u7 u8 u9 : Option Sl) (h1 : e1 (S10 (some (.val A)) none none none none none none none none none) = .ok N) (h2 : e2 (S10 (some (.val A)) (some (.val N)) none none none none none none none none) = .ok Q)
    (h3 : e3 (S10 (some (.val A)) (some (.val N)) (some (.val Q)) none none none none none none none) = .ok V) (g1 : i1 (S10 (some (.val A)) (some (.val N)) (some (.val Q)) (some (.val V)) none none none none none none) = .ok L1)
    (k1 : loopD (gPr 4 5) b1 L1 (S10 (some (.val A)) (some (.val N)) (some (.val Q)) (some (.val V)) none none none none none none) = .nx (S10 (some (.val A)) (some (.val N)) (some (.val Q)) (some (.val V)) t4 t5 t6 none none none))
    (g2 : i2 (S10 (some (.val A)) (some (.val N)) (some (.val Q)) (some (.val V)) t4 t5 t6 (some (.val (.int 0))) none none) = .ok L2)
    (k2 : loopD (gNm 8) b2 L2 (S10 (some (.val A)) (some (.val N)) (some (.val Q)) (some (.val V)) t4 t5 t6 (some (.val (.int 0))) none none) = .nx (S10 (some (.val A)) (some (.val N)) (some (.val Q)) (some (.val V)) t4 t5 u6 u7 u8 u9))
    (h4 : e4 (S10 (some (.val A)) (some (.val N)) (some (.val Q)) (some (.val V)) t4 t5 u6 u7 u8 u9) = .ok (.bl true)) :
    runF 10 (sSeq (sSet 1 e1) (sSeq (sSet 2 e2) (sSeq (sSet 3 e3) (sSeq (sFor i1 (gPr 4 5) b1) (sSeq (sSet 7 (eC (.int 0))) (sSeq (sFor i2 (gNm 8) b2) (sRet e4))))))) [A] = .ok (.bl true) := by
  have st : startD 10 [A] = [some (.val A), none, none, none, none, none, none, none, none, none] := rfl
  rw [runF_ap, st]
  simp only [S10] at h1 h2 h3 g1 k1 g2 k2 h4
  simp only [sSeq_ap, sSet_ap, sSetO_ap, sIf_ap, sRet_ap, sRetO_ap, ownAt_ap, sNext_ap, sFor_ap, sApp_ap, sPut_ap, eIxO_ap, eCat_ap, eLenO_ap, iAny_ap, iter_str, iter_lst, tB_ap, tTru_ap, tAnd_ap, tOr_ap, tNot_ap, eOp_ap, eVar_ap, eC_ap, aNil_ap, aCons_ap, eCall_ap, eBlt_ap, eIf_ap, eAnd_ap, eOr_ap, eNot_ap, eMt0_ap, eMt_ap, eSl_ap, oNone_ap, oSome_ap, someInt_int, List.getElem?_cons_zero, List.getElem?_cons_succ, List.set_cons_succ, List.set_cons_zero, getV_val, getO_own, Rs.bind_ok, Fl.of_ok, thn_nx, thn_rt, flRes_rt, noEx_ok, boolOf_bl, truD_bl, addD_i, subD_i, ltI_i, leD_i, gtD_i, geD_i, eqD_i, eqD_s, neD_i, neD_s, lenD_lst, gNm_ap, if_true, Bool.false_eq_true, if_false, Bool.not_true, Bool.not_false, h1, h2, h3, g1, k1, g2, k2, h4]
theorem main : ∀ ns : List Int, ns.length ≤ 63 → m_law [.scr ns] = .ok (.bl true) := fun ns h63 => by
  obtain ⟨X, hN, hXl, hX⟩ := names_ok ns 0 5 h63 (by decide) (by decide) (by decide) (by decide)
  obtain ⟨q, hq, hQ, hE⟩ := qE_ok ns X 80 79 4 h63 (by decide) (by decide) (by decide) (by decide) (by decide) (by decide) hX (by omega) [none, none, none, none, none, none, none, none]
  have ha : ∀ c ∈ q, c < 128 := fun c hc => (f6 c (hQ c hc)).1
  have hx1k : ∀ x ∈ X, x.length ≤ 1000 := fun x hx => Nat.le_trans (hX x hx).2.1 (by decide)
  obtain ⟨t4, t5, t6, k1⟩ := w1_loop q (some (.val (.scr ns))) (some (.val (.lst (X.map tx)))) (some (.val (.lst (X.map fun x => oI (bnd q x))))) none none none (by omega) ha X none none none hx1k
  obtain ⟨u6, u7, u8, u9, k2⟩ := w2_loop X q (some (.val (.scr ns))) t4 t5 hx1k (by omega) ha (by omega) 7 0 0 t6 none none (Nat.zero_le _)
  unfold m_law
  rw [law_b]
  refine gen_law _ _ _ _ _ _ _ _ _ _ _ _ _ _ _ _ _ _ _ _ _ (call3 (var_ok rfl) rfl rfl hN) hE (wE_ok X q _ _ _ _ _ _ _ _ hx1k ha (by omega)) ?_ k1 (rng_ok (n := 7) rfl (by decide)) k2 (wR_ok X q _ _ _ _ _ _ _ (by omega))
  have e : iZpL (aCons (eVar 1) (aCons (eVar 3) aNil)) (S10 (some (.val (.scr ns))) (some (.val (.lst (X.map tx)))) (some (.val (tx q))) (some (.val (.lst (X.map fun x => oI (bnd q x))))) none none none none none none) = .ok (zipDs (X.map tx) (X.map fun x => oI (bnd q x))) := rfl
  rw [e]
  congr 1
  unfold zipDs
  rw [List.zip_map', List.map_map]
  rfl
end Law
set_option Elab.async false
set_option linter.all false
set_option maxRecDepth 100000
set_option maxHeartbeats 4000000
namespace Law
open PySem PySem.Spec PyProof.Rows L2 FD
def top (i : Nat) : Stmt := PySem.Challenge.pw_fewfind_k51_whole_bounds.main.body.getD i (.Pass ⟨0, 0, 0, 0⟩)
section
variable {P : Program} {w : World} {K : PySem.W.Frag} {mg : Str → Option Value} {base : Heap}
abbrev s__law_cell : Stmt := top 37
theorem sc__law_cell : FnScope ["_law_script", "_law_k"] ["_law_script", "_law_k"] (defScope s__law_cell) := ⟨rfl, rfl, rfl, by decide +kernel, rfl, by decide +kernel, by decide +kernel⟩
theorem ok__law_cell {f : Addr} {fd : FuncData} (A_ : DefAt K mg "_law_cell" s__law_cell f fd) (z_len : mg "len" = none) : DefOk P w K mg base "_law_cell" 1 2 ["_law_script", "_law_k"] m__law_cell := by
  refine DefOk.mk (k := 0) A_ sc__law_cell rfl (fun _ _ _ _ _ _ us hl => match us, hl with | [_, _], _ => rfl) (fun cdv A outer s H E hr => ?_) fun _ _ _ h => h
  exact (pdss_cons (pds_if (pdt_cmp (opd_eq hr.units) (pde_var (pv 0)) (pde_lst pda_nil) (nomark _)) (pdss_one (pds_ret (pde_op opd_mul pde_int (pde_var (pv 1))))) pdss_nil) (pdss_one (pds_ret (pde_op opd_add (pde_ix ix_ok (pde_var (pv 0)) (pde_op opd_mod (pde_var (pv 1)) (pde_callB cd_len rfl z_len PySem.boot_len (pda_cons (pde_var (pv 0)) pda_nil)))) (pde_op opd_mul pde_int (pde_op opd_fdiv (pde_var (pv 1)) (pde_callB cd_len rfl z_len PySem.boot_len (pda_cons (pde_var (pv 0)) pda_nil))))))))
abbrev s__law_drawn : Stmt := top 38
theorem sc__law_drawn : FnScope ["_law_script", "_law_k", "_law_many", "_law_cell_here"] ["_law_script", "_law_k", "_law_many"] (defScope s__law_drawn) := ⟨rfl, rfl, rfl, by decide +kernel, rfl, by decide +kernel, by decide +kernel⟩
theorem ok__law_drawn {f : Addr} {fd : FuncData} (A_ : DefAt K mg "_law_drawn" s__law_drawn f fd) (h__law_cell : DefOk P w K mg base "_law_cell" 1 2 ["_law_script", "_law_k"] m__law_cell) : DefOk P w K mg base "_law_drawn" 2 3 ["_law_script", "_law_k", "_law_many"] m__law_drawn := by
  refine DefOk.mk (k := 1) A_ sc__law_drawn rfl (fun _ _ _ _ _ _ us hl => match us, hl with | [_, _, _], _ => rfl) (fun cdv A outer s H E hr => ?_) fun _ _ _ h => h
  exact (pdss_cons (pds_set (i := 3) sc__law_drawn.nd rfl (Or.inl rfl) (pde_op opd_mod (pde_op opd_add (pde_op opd_mul (pde_op opd_mod (pde_def h__law_cell (hr.mono (by decide)) (pda_cons (pde_var (pv 0)) (pda_cons (pde_var (pv 1)) pda_nil)) (aCons_len (aCons_len aNil_len))) pde_int) pde_int) (pde_op opd_mul pde_int (pde_op opd_add (pde_var (pv 1)) pde_int))) pde_int)) (pdss_cons (pds_set (i := 3) sc__law_drawn.nd rfl (Or.inl rfl) (pde_op opd_mod (pde_op opd_add (pde_op opd_mul (pde_var (pv 3)) (pde_var (pv 3))) (pde_op opd_fdiv (pde_var (pv 3)) pde_int)) pde_int)) (pdss_one (pds_ret (pde_op opd_mod (pde_op opd_fdiv (pde_op opd_mod (pde_op opd_add (pde_op opd_mul (pde_var (pv 3)) (pde_var (pv 3))) (pde_op opd_fdiv (pde_var (pv 3)) pde_int)) pde_int) pde_int) (pde_var (pv 2)))))))
abbrev s__law_name : Stmt := top 39
theorem sc__law_name : FnScope ["_law_script", "_law_at", "_law_found", "_law_k"] ["_law_script", "_law_at"] (defScope s__law_name) := ⟨rfl, rfl, rfl, by decide +kernel, rfl, by decide +kernel, by decide +kernel⟩
theorem ok__law_name {f : Addr} {fd : FuncData} (A_ : DefAt K mg "_law_name" s__law_name f fd) (h__law_drawn : DefOk P w K mg base "_law_drawn" 2 3 ["_law_script", "_law_k", "_law_many"] m__law_drawn) (z_range : mg "range" = none) : DefOk P w K mg base "_law_name" 3 2 ["_law_script", "_law_at"] m__law_name := by
  refine DefOk.mk (k := 2) A_ sc__law_name rfl (fun _ _ _ _ _ _ us hl => match us, hl with | [_, _], _ => rfl) (fun cdv A outer s H E hr => ?_) fun _ _ _ h => h
  exact (pdss_cons (pds_set (i := 2) sc__law_name.nd rfl (Or.inl rfl) pde_str) (pdss_cons (pds_for PassesOwn.never rfl (pdi_range1 rfl z_range (pda_cons (pde_op opd_add pde_int (pde_def h__law_drawn (hr.mono (by decide)) (pda_cons (pde_var (pv 0)) (pda_cons (pde_var (pv 1)) (pda_cons pde_int pda_nil))) (aCons_len (aCons_len (aCons_len aNil_len))))) pda_nil)) (pdg_name sc__law_name.nd rfl (Or.inl rfl)) (pdss_one (pds_set (i := 2) sc__law_name.nd rfl (Or.inl rfl) (pde_op opd_add (pde_var (pv 2)) (pde_ix ix_ok pde_str (pde_def h__law_drawn (hr.mono (by decide)) (pda_cons (pde_var (pv 0)) (pda_cons (pde_op opd_add (pde_op opd_add (pde_var (pv 1)) pde_int) (pde_var (pv 3))) (pda_cons pde_int pda_nil))) (aCons_len (aCons_len (aCons_len aNil_len))))))))) (pdss_one (pds_ret (pde_var (pv 2))))))
abbrev s__law_names : Stmt := top 41
theorem sc__law_names : FnScope ["_law_script", "_law_at", "_law_most", "_law_found"] ["_law_script", "_law_at", "_law_most"] (defScope s__law_names) := ⟨rfl, rfl, rfl, by decide +kernel, rfl, by decide +kernel, by decide +kernel⟩
theorem ok__law_names {f : Addr} {fd : FuncData} (A_ : DefAt K mg "_law_names" s__law_names f fd) (h__law_drawn : DefOk P w K mg base "_law_drawn" 2 3 ["_law_script", "_law_k", "_law_many"] m__law_drawn) (h__law_name : DefOk P w K mg base "_law_name" 3 2 ["_law_script", "_law_at"] m__law_name) (z_len : mg "len" = none) (z_range : mg "range" = none) : DefOk P w K mg base "_law_names" 4 3 ["_law_script", "_law_at", "_law_most"] m__law_names := by
  refine DefOk.mk (k := 3) A_ sc__law_names rfl (fun _ _ _ _ _ _ us hl => match us, hl with | [_, _, _], _ => rfl) (fun cdv A outer s H E hr => ?_) fun _ _ _ h => h
  exact (pdss_cons (pds_compO (i := 3) sc__law_names.nd rfl rfl rfl (tn := ["_law_k"]) (fr := ["_law_script", "_law_at"]) (idx := [0, 1]) rfl rfl ⟨rfl, rfl, ⟨rfl, rfl, trivial⟩⟩ (setOk_nm 0) (pdi_range1 rfl z_range (pda_cons (pde_def h__law_drawn (hr.mono (by decide)) (pda_cons (pde_var (pv 0)) (pda_cons (pde_var (pv 1)) (pda_cons (pde_op opd_add (pde_var (pv 2)) pde_int) pda_nil))) (aCons_len (aCons_len (aCons_len aNil_len)))) pda_nil)) (fun s H C fp => (pdg_name (show List.Nodup (["_law_k", "_law_script", "_law_at"] : List Str) by decide +kernel) rfl (Or.inl rfl))) (fun s H C fp => pdts_nil) (fun s H C fp => (pde_def h__law_name (hr.mono (by decide)) (pda_cons (pde_var (pv 1)) (pda_cons (pde_op opd_add (pde_op opd_add (pde_var (pv 2)) pde_int) (pde_op opd_mul pde_int (pde_var (pv 0)))) pda_nil)) (aCons_len (aCons_len aNil_len))))) (pdss_cons (pds_if (pdt_w (pdw_and (pdt_cmp opd_gt (pde_lenO (pv 3) rfl z_len) pde_int (nomark _)) (pdw_and1 (pdt_cmp (opd_eq hr.units) (pde_def h__law_drawn (hr.mono (by decide)) (pda_cons (pde_var (pv 0)) (pda_cons (pde_op opd_add (pde_var (pv 1)) pde_int) (pda_cons pde_int pda_nil))) (aCons_len (aCons_len (aCons_len aNil_len)))) pde_int (nomark _))))) (pdss_one (pds_put (pv 3) pde_int (pde_ixO (pv 3) (pde_neg pde_int)))) pdss_nil) (pdss_one (pds_retO (pv 3)))))
abbrev s__law_mark : Stmt := top 40
theorem sc__law_mark : FnScope ["_law_sign"] ["_law_sign"] (defScope s__law_mark) := ⟨rfl, rfl, rfl, by decide +kernel, rfl, by decide +kernel, by decide +kernel⟩
theorem ok__law_mark {f : Addr} {fd : FuncData} (A_ : DefAt K mg "_law_mark" s__law_mark f fd) : DefOk P w K mg base "_law_mark" 1 1 ["_law_sign"] m__law_mark := by
  refine DefOk.mk (k := 0) A_ sc__law_mark rfl (fun _ _ _ _ _ _ us hl => match us, hl with | [_], _ => rfl) (fun cdv A outer s H E hr => ?_) fun _ _ _ h => h
  exact (pdss_one (pds_ret (pde_cmp (opd_in (room128 hr)) (pde_var (pv 0)) pde_str (by with_unfolding_all rfl))))
abbrev s__law_query : Stmt := top 42
theorem sc__law_query : FnScope ["_law_script", "_law_at", "_law_name_here", "_law_most", "_law_found", "_law_place", "_law_k", "_law_sign"] ["_law_script", "_law_at", "_law_name_here", "_law_most"] (defScope s__law_query) := ⟨rfl, rfl, rfl, by decide +kernel, rfl, by decide +kernel, by decide +kernel⟩
theorem ok__law_query {f : Addr} {fd : FuncData} (A_ : DefAt K mg "_law_query" s__law_query f fd) (h__law_drawn : DefOk P w K mg base "_law_drawn" 2 3 ["_law_script", "_law_k", "_law_many"] m__law_drawn) (h__law_mark : DefOk P w K mg base "_law_mark" 1 1 ["_law_sign"] m__law_mark) (z_range : mg "range" = none) (z_len : mg "len" = none) (z_min : mg "min" = none) : DefOk P w K mg base "_law_query" 3 4 ["_law_script", "_law_at", "_law_name_here", "_law_most"] m__law_query := by
  refine DefOk.mk (k := 2) A_ sc__law_query rfl (fun _ _ _ _ _ _ us hl => match us, hl with | [_, _, _, _], _ => rfl) (fun cdv A outer s H E hr => ?_) fun _ _ _ h => h
  exact (pdss_cons (pds_set (i := 4) sc__law_query.nd rfl (Or.inl rfl) pde_str) (pdss_cons (pds_set (i := 5) sc__law_query.nd rfl (Or.inl rfl) pde_int) (pdss_cons (pds_for PassesOwn.never rfl (pdi_range1 rfl z_range (pda_cons (pde_def h__law_drawn (hr.mono (by decide)) (pda_cons (pde_var (pv 0)) (pda_cons (pde_var (pv 1)) (pda_cons (pde_op opd_add (pde_var (pv 3)) pde_int) pda_nil))) (aCons_len (aCons_len (aCons_len aNil_len)))) pda_nil)) (pdg_name sc__law_query.nd rfl (Or.inl rfl)) (pdss_cons (pds_set (i := 5) sc__law_query.nd rfl (Or.inl rfl) (pde_callB (cd_min2 rfl) rfl z_min boot_min (pda_cons (pde_op opd_sub (pde_callB cd_len rfl z_len PySem.boot_len (pda_cons (pde_var (pv 2)) pda_nil)) pde_int) (pda_cons (pde_op opd_add (pde_var (pv 5)) (pde_def h__law_drawn (hr.mono (by decide)) (pda_cons (pde_var (pv 0)) (pda_cons (pde_op opd_add (pde_op opd_add (pde_var (pv 1)) pde_int) (pde_op opd_mul pde_int (pde_var (pv 6)))) (pda_cons pde_int pda_nil))) (aCons_len (aCons_len (aCons_len aNil_len))))) pda_nil)))) (pdss_cons (pds_set (i := 7) sc__law_query.nd rfl (Or.inl rfl) (pde_lower (pde_or (pde_sl (pde_var (pv 2)) (pdo_some (pde_var (pv 5))) (pdo_some (pde_op opd_add (pde_var (pv 5)) pde_int))) (pde_one pde_str)))) (pdss_cons (pds_set (i := 5) sc__law_query.nd rfl (Or.inl rfl) (pde_op opd_add (pde_var (pv 5)) pde_int)) (pdss_cons (pds_if (pdt_cmp (opd_eq hr.units) (pde_def h__law_drawn (hr.mono (by decide)) (pda_cons (pde_var (pv 0)) (pda_cons (pde_op opd_add (pde_op opd_add (pde_var (pv 1)) pde_int) (pde_op opd_mul pde_int (pde_var (pv 6)))) (pda_cons pde_int pda_nil))) (aCons_len (aCons_len (aCons_len aNil_len)))) pde_int (nomark _)) (pdss_one (pds_set (i := 7) sc__law_query.nd rfl (Or.inl rfl) (pde_ix ix_ok pde_str (pde_def h__law_drawn (hr.mono (by decide)) (pda_cons (pde_var (pv 0)) (pda_cons (pde_op opd_add (pde_op opd_add (pde_var (pv 1)) pde_int) (pde_op opd_mul pde_int (pde_var (pv 6)))) (pda_cons pde_int pda_nil))) (aCons_len (aCons_len (aCons_len aNil_len))))))) pdss_nil) (pdss_one (pds_if (pdt_not (pdt_tru (pde_def h__law_mark (hr.mono (by decide)) (pda_cons (pde_var (pv 7)) pda_nil) (aCons_len aNil_len)))) (pdss_one (pds_set (i := 4) sc__law_query.nd rfl (Or.inl rfl) (pde_op opd_add (pde_var (pv 4)) (pde_var (pv 7))))) pdss_nil))))))) (pdss_one (pds_ret (pde_var (pv 4)))))))
abbrev s_beginning_points : Stmt := top 15
theorem sc_beginning_points : FnScope ["name", "place", "ahead"] ["name", "place"] (defScope s_beginning_points) := ⟨rfl, rfl, rfl, by decide +kernel, rfl, by decide +kernel, by decide +kernel⟩
theorem ok_beginning_points {f : Addr} {fd : FuncData} (A_ : DefAt K mg "beginning_points" s_beginning_points f fd) {t_FIGURES : Tok} (g_FIGURES : mg "FIGURES" = some (.str "0123456789" t_FIGURES)) {t_SMALL : Tok} (g_SMALL : mg "SMALL" = some (.str "abcdefghijklmnopqrstuvwxyz" t_SMALL)) {t_GREAT : Tok} (g_GREAT : mg "GREAT" = some (.str "ABCDEFGHIJKLMNOPQRSTUVWXYZ" t_GREAT)) {t_AT_GREAT : Tok} (g_AT_GREAT : mg "AT_GREAT" = some (.int 5 t_AT_GREAT)) {t_MARKS : Tok} (g_MARKS : mg "MARKS" = some (.str "_-./" t_MARKS)) {t_BEHIND_MARK : Tok} (g_BEHIND_MARK : mg "BEHIND_MARK" = some (.int 6 t_BEHIND_MARK)) {t_AT_BEGINNING : Tok} (g_AT_BEGINNING : mg "AT_BEGINNING" = some (.int 8 t_AT_BEGINNING)) : DefOk P w K mg base "beginning_points" 1 2 ["name", "place"] m_beginning_points := by
  refine DefOk.mk (k := 0) A_ sc_beginning_points rfl (fun _ _ _ _ _ _ us hl => match us, hl with | [_, _], _ => rfl) (fun cdv A outer s H E hr => ?_) fun _ _ _ h => h
  exact (pdss_cons (pds_if (pdt_cmp (opd_eq hr.units) (pde_var (pv 1)) pde_int (nomark _)) (pdss_one (pds_ret (pde_glI rfl g_AT_BEGINNING))) pdss_nil) (pdss_cons (pds_set (i := 2) sc_beginning_points.nd rfl (Or.inl rfl) (pde_ix ix_ok (pde_var (pv 0)) (pde_op opd_sub (pde_var (pv 1)) pde_int))) (pdss_cons (pds_if (pdt_cmp (opd_in (room128 hr)) (pde_var (pv 2)) (pde_glS rfl g_MARKS) (by with_unfolding_all rfl)) (pdss_one (pds_ret (pde_glI rfl g_BEHIND_MARK))) pdss_nil) (pdss_cons (pds_if (pdt_w (pdw_and (pdt_cmp (opd_in (room128 hr)) (pde_ix ix_ok (pde_var (pv 0)) (pde_var (pv 1))) (pde_glS rfl g_GREAT) (by with_unfolding_all rfl)) (pdw_and1 (pdt_w (pdw_or (pdt_cmp (opd_in (room128 hr)) (pde_var (pv 2)) (pde_glS rfl g_SMALL) (by with_unfolding_all rfl)) (pdw_or1 (pdt_cmp (opd_in (room128 hr)) (pde_var (pv 2)) (pde_glS rfl g_FIGURES) (by with_unfolding_all rfl)))))))) (pdss_one (pds_ret (pde_glI rfl g_AT_GREAT))) pdss_nil) (pdss_one (pds_ret pde_int))))))
abbrev s_own_points : Stmt := top 16
theorem sc_own_points : FnScope ["sign", "name", "place", "same"] ["sign", "name", "place"] (defScope s_own_points) := ⟨rfl, rfl, rfl, by decide +kernel, rfl, by decide +kernel, by decide +kernel⟩
theorem ok_own_points {f : Addr} {fd : FuncData} (A_ : DefAt K mg "own_points" s_own_points f fd) (h_beginning_points : DefOk P w K mg base "beginning_points" 1 2 ["name", "place"] m_beginning_points) {t_EACH_PLACE : Tok} (g_EACH_PLACE : mg "EACH_PLACE" = some (.int 10 t_EACH_PLACE)) {t_SAME_SIGN : Tok} (g_SAME_SIGN : mg "SAME_SIGN" = some (.int 1 t_SAME_SIGN)) : DefOk P w K mg base "own_points" 2 3 ["sign", "name", "place"] m_own_points := by
  refine DefOk.mk (k := 1) A_ sc_own_points rfl (fun _ _ _ _ _ _ us hl => match us, hl with | [_, _, _], _ => rfl) (fun cdv A outer s H E hr => ?_) fun _ _ _ h => h
  exact (pdss_cons (pds_set (i := 3) sc_own_points.nd rfl (Or.inl rfl) (pde_if (pdt_cmp (opd_eq hr.units) (pde_ix ix_ok (pde_var (pv 1)) (pde_var (pv 2))) (pde_var (pv 0)) (nomark _)) (pde_glI rfl g_SAME_SIGN) pde_int)) (pdss_one (pds_ret (pde_op opd_add (pde_op opd_add (pde_glI rfl g_EACH_PLACE) (pde_def h_beginning_points (hr.mono (by decide)) (pda_cons (pde_var (pv 1)) (pda_cons (pde_var (pv 2)) pda_nil)) (aCons_len (aCons_len aNil_len)))) (pde_var (pv 3))))))
abbrev s_meets : Stmt := top 5
theorem sc_meets : FnScope ["sign", "other"] ["sign", "other"] (defScope s_meets) := ⟨rfl, rfl, rfl, by decide +kernel, rfl, by decide +kernel, by decide +kernel⟩
theorem ok_meets {f : Addr} {fd : FuncData} (A_ : DefAt K mg "meets" s_meets f fd) {t_SMALL : Tok} (g_SMALL : mg "SMALL" = some (.str "abcdefghijklmnopqrstuvwxyz" t_SMALL)) : DefOk P w K mg base "meets" 1 2 ["sign", "other"] m_meets := by
  refine DefOk.mk (k := 0) A_ sc_meets rfl (fun _ _ _ _ _ _ us hl => match us, hl with | [_, _], _ => rfl) (fun cdv A outer s H E hr => ?_) fun _ _ _ h => h
  exact (pdss_one (pds_ret (pde_or (pde_cmp (opd_eq hr.units) (pde_var (pv 0)) (pde_var (pv 1)) (nomark _)) (pde_one (pde_and (pde_cmp (opd_in (room128 hr)) (pde_var (pv 0)) (pde_glS rfl g_SMALL) (by with_unfolding_all rfl)) (pde_one (pde_cmp (opd_eq hr.units) (pde_upper (pde_var (pv 0))) (pde_var (pv 1)) (nomark _))))))))
abbrev s_most_of_sign : Stmt := top 31
theorem sc_most_of_sign : FnScope ["sign", "name"] ["sign", "name"] (defScope s_most_of_sign) := ⟨rfl, rfl, rfl, by decide +kernel, rfl, by decide +kernel, by decide +kernel⟩
theorem ok_most_of_sign {f : Addr} {fd : FuncData} (A_ : DefAt K mg "most_of_sign" s_most_of_sign f fd) (h_meets : DefOk P w K mg base "meets" 1 2 ["sign", "other"] m_meets) (h_own_points : DefOk P w K mg base "own_points" 2 3 ["sign", "name", "place"] m_own_points) (z_len : mg "len" = none) (z_range : mg "range" = none) (z_max : mg "max" = none) : DefOk P w K mg base "most_of_sign" 3 2 ["sign", "name"] m_most_of_sign := by
  refine DefOk.mk (k := 2) A_ sc_most_of_sign rfl (fun _ _ _ _ _ _ us hl => match us, hl with | [_, _], _ => rfl) (fun cdv A outer s H E hr => ?_) fun _ _ _ h => h
  exact (pdss_one (pds_ret (pde_maxD rfl rfl z_max boot_max (pde_fr (pdf_comp (tn := ["place"]) (fr := ["sign", "name"]) (idx := [0, 1]) rfl rfl ⟨rfl, rfl, ⟨rfl, rfl, trivial⟩⟩ (setOk_nm 0) (pdi_range1 rfl z_range (pda_cons (pde_callB cd_len rfl z_len PySem.boot_len (pda_cons (pde_var (pv 1)) pda_nil)) pda_nil)) (fun s H C fp => (pdg_name (show List.Nodup (["place", "sign", "name"] : List Str) by decide +kernel) rfl (Or.inl rfl))) (fun s H C fp => (pdts_one (pdt_tru (pde_def h_meets (hr.mono (by decide)) (pda_cons (pde_var (pv 1)) (pda_cons (pde_ix ix_ok (pde_var (pv 2)) (pde_var (pv 0))) pda_nil)) (aCons_len (aCons_len aNil_len)))))) (fun s H C fp => (pde_def h_own_points (hr.mono (by decide)) (pda_cons (pde_var (pv 1)) (pda_cons (pde_var (pv 2)) (pda_cons (pde_var (pv 0)) pda_nil))) (aCons_len (aCons_len (aCons_len aNil_len))))))) pde_non)))
abbrev s_bound : Stmt := top 32
theorem sc_bound : FnScope ["query", "name", "total", "number", "sign", "most"] ["query", "name"] (defScope s_bound) := ⟨rfl, rfl, rfl, by decide +kernel, rfl, by decide +kernel, by decide +kernel⟩
theorem ok_bound {f : Addr} {fd : FuncData} (A_ : DefAt K mg "bound" s_bound f fd) (h_most_of_sign : DefOk P w K mg base "most_of_sign" 3 2 ["sign", "name"] m_most_of_sign) {t_BESIDE : Tok} (g_BESIDE : mg "BESIDE" = some (.int 7 t_BESIDE)) (z_enumerate : mg "enumerate" = none) : DefOk P w K mg base "bound" 4 2 ["query", "name"] m_bound := by
  refine DefOk.mk (k := 3) A_ sc_bound rfl (fun _ _ _ _ _ _ us hl => match us, hl with | [_, _], _ => rfl) (fun cdv A outer s H E hr => ?_) fun _ _ _ h => h
  exact (pdss_cons (pds_set (i := 2) sc_bound.nd rfl (Or.inl rfl) pde_int) (pdss_cons (pds_for PassesOwn.never rfl (pdi_enumS rfl z_enumerate (pda_cons (pde_var (pv 0)) pda_nil)) (pdg_pair rfl sc_bound.nd rfl (Or.inl rfl) rfl (Or.inl rfl)) (pdss_cons (pds_set (i := 5) sc_bound.nd rfl (Or.inl rfl) (pde_def h_most_of_sign (hr.mono (by decide)) (pda_cons (pde_var (pv 4)) (pda_cons (pde_var (pv 1)) pda_nil)) (aCons_len (aCons_len aNil_len)))) (pdss_cons (pds_if (pdt_cmp opd_is (pde_var (pv 5)) pde_non (nomark _)) (pdss_one (pds_ret pde_non)) pdss_nil) (pdss_cons (pds_augA (i := 2) sc_bound.nd rfl (Or.inl rfl) (pde_var (pv 5))) (pdss_one (pds_if (pdt_cmp opd_gt (pde_var (pv 3)) pde_int (nomark _)) (pdss_one (pds_augA (i := 2) sc_bound.nd rfl (Or.inl rfl) (pde_glI rfl g_BESIDE))) pdss_nil)))))) (pdss_one (pds_ret (pde_var (pv 2))))))
abbrev s_last_sign_tails : Stmt := top 20
theorem sc_last_sign_tails : FnScope ["sign", "name"] ["sign", "name"] (defScope s_last_sign_tails) := ⟨rfl, rfl, rfl, by decide +kernel, rfl, by decide +kernel, by decide +kernel⟩
theorem ok_last_sign_tails {f : Addr} {fd : FuncData} (A_ : DefAt K mg "last_sign_tails" s_last_sign_tails f fd) (h_meets : DefOk P w K mg base "meets" 1 2 ["sign", "other"] m_meets) (h_own_points : DefOk P w K mg base "own_points" 2 3 ["sign", "name", "place"] m_own_points) (z_len : mg "len" = none) (z_range : mg "range" = none) : DefOk P w K mg base "last_sign_tails" 3 2 ["sign", "name"] m_last_sign_tails := by
  refine DefOk.mk (k := 2) A_ sc_last_sign_tails rfl (fun _ _ _ _ _ _ us hl => match us, hl with | [_, _], _ => rfl) (fun cdv A outer s H E hr => ?_) fun _ _ _ h => h
  exact (pdss_one (pds_ret (pde_fr (pdf_comp (tn := ["place"]) (fr := ["sign", "name"]) (idx := [0, 1]) rfl rfl ⟨rfl, rfl, ⟨rfl, rfl, trivial⟩⟩ (setOk_nm 0) (pdi_range1 rfl z_range (pda_cons (pde_callB cd_len rfl z_len PySem.boot_len (pda_cons (pde_var (pv 1)) pda_nil)) pda_nil)) (fun s H C fp => (pdg_name (show List.Nodup (["place", "sign", "name"] : List Str) by decide +kernel) rfl (Or.inl rfl))) (fun s H C fp => (pdts_one (pdt_tru (pde_def h_meets (hr.mono (by decide)) (pda_cons (pde_var (pv 1)) (pda_cons (pde_ix ix_ok (pde_var (pv 2)) (pde_var (pv 0))) pda_nil)) (aCons_len (aCons_len aNil_len)))))) (fun s H C fp => (pde_tup (pda_cons (pde_def h_own_points (hr.mono (by decide)) (pda_cons (pde_var (pv 1)) (pda_cons (pde_var (pv 2)) (pda_cons (pde_var (pv 0)) pda_nil))) (aCons_len (aCons_len (aCons_len aNil_len)))) (pda_cons (pde_lst (pda_cons (pde_var (pv 0)) pda_nil)) pda_nil))))))))
abbrev s_first_of_most : Stmt := top 19
theorem sc_first_of_most : FnScope ["tails", "chosen", "tail"] ["tails"] (defScope s_first_of_most) := ⟨rfl, rfl, rfl, by decide +kernel, rfl, by decide +kernel, by decide +kernel⟩
theorem ok_first_of_most {f : Addr} {fd : FuncData} (A_ : DefAt K mg "first_of_most" s_first_of_most f fd) : DefOk P w K mg base "first_of_most" 1 1 ["tails"] m_first_of_most := by
  refine DefOk.mk (k := 0) A_ sc_first_of_most rfl (fun _ _ _ _ _ _ us hl => match us, hl with | [_], _ => rfl) (fun cdv A outer s H E hr => ?_) fun _ _ _ h => h
  exact (pdss_cons (pds_set (i := 1) sc_first_of_most.nd rfl (Or.inl rfl) pde_non) (pdss_cons (pds_for PassesOwn.never rfl (pdi_any (pde_var (pv 0))) (pdg_name sc_first_of_most.nd rfl (Or.inl rfl)) (pdss_one (pds_if (pdt_w (pdw_or (pdt_cmp opd_is (pde_var (pv 1)) pde_non (nomark _)) (pdw_or1 (pdt_cmp opd_gt (pde_ix ix_ok (pde_var (pv 2)) pde_int) (pde_ix ix_ok (pde_var (pv 1)) pde_int) (nomark _))))) (pdss_one (pds_set (i := 1) sc_first_of_most.nd rfl (Or.inl rfl) (pde_var (pv 2)))) pdss_nil))) (pdss_one (pds_ret (pde_var (pv 1))))))
abbrev s_link_points : Stmt := top 18
theorem sc_link_points : FnScope ["ahead", "place", "between"] ["ahead", "place"] (defScope s_link_points) := ⟨rfl, rfl, rfl, by decide +kernel, rfl, by decide +kernel, by decide +kernel⟩
theorem ok_link_points {f : Addr} {fd : FuncData} (A_ : DefAt K mg "link_points" s_link_points f fd) {t_MOST_BETWEEN : Tok} (g_MOST_BETWEEN : mg "MOST_BETWEEN" = some (.int 5 t_MOST_BETWEEN)) {t_BESIDE : Tok} (g_BESIDE : mg "BESIDE" = some (.int 7 t_BESIDE)) (z_min : mg "min" = none) : DefOk P w K mg base "link_points" 1 2 ["ahead", "place"] m_link_points := by
  refine DefOk.mk (k := 0) A_ sc_link_points rfl (fun _ _ _ _ _ _ us hl => match us, hl with | [_, _], _ => rfl) (fun cdv A outer s H E hr => ?_) fun _ _ _ h => h
  exact (pdss_cons (pds_set (i := 2) sc_link_points.nd rfl (Or.inl rfl) (pde_op opd_sub (pde_op opd_sub (pde_var (pv 1)) (pde_var (pv 0))) pde_int)) (pdss_cons (pds_if (pdt_cmp (opd_eq hr.units) (pde_var (pv 2)) pde_int (nomark _)) (pdss_one (pds_ret (pde_glI rfl g_BESIDE))) pdss_nil) (pdss_one (pds_ret (pde_neg (pde_callB (cd_min2 rfl) rfl z_min boot_min (pda_cons (pde_var (pv 2)) (pda_cons (pde_glI rfl g_MOST_BETWEEN) pda_nil))))))))
abbrev s_linked_tails : Stmt := top 21
theorem sc_linked_tails : FnScope ["place", "tails"] ["place", "tails"] (defScope s_linked_tails) := ⟨rfl, rfl, rfl, by decide +kernel, rfl, by decide +kernel, by decide +kernel⟩
theorem ok_linked_tails {f : Addr} {fd : FuncData} (A_ : DefAt K mg "linked_tails" s_linked_tails f fd) (h_link_points : DefOk P w K mg base "link_points" 1 2 ["ahead", "place"] m_link_points) : DefOk P w K mg base "linked_tails" 2 2 ["place", "tails"] m_linked_tails := by
  refine DefOk.mk (k := 1) A_ sc_linked_tails rfl (fun _ _ _ _ _ _ us hl => match us, hl with | [_, _], _ => rfl) (fun cdv A outer s H E hr => ?_) fun _ _ _ h => h
  exact (pdss_one (pds_ret (pde_fr (pdf_comp (tn := ["tail"]) (fr := ["place"]) (idx := [0]) rfl rfl ⟨rfl, rfl, trivial⟩ (setOk_nm 0) (pdi_any (pde_var (pv 1))) (fun s H C fp => (pdg_name (show List.Nodup (["tail", "place"] : List Str) by decide +kernel) rfl (Or.inl rfl))) (fun s H C fp => (pdts_one (pdt_cmp opd_gt (pde_ix ix_ok (pde_ix ix_ok (pde_var (pv 0)) pde_int) pde_int) (pde_var (pv 1)) (nomark _)))) (fun s H C fp => (pde_tup (pda_cons (pde_op opd_add (pde_ix ix_ok (pde_var (pv 0)) pde_int) (pde_def h_link_points (hr.mono (by decide)) (pda_cons (pde_var (pv 1)) (pda_cons (pde_ix ix_ok (pde_ix ix_ok (pde_var (pv 0)) pde_int) pde_int) pda_nil)) (aCons_len (aCons_len aNil_len)))) (pda_cons (pde_ix ix_ok (pde_var (pv 0)) pde_int) pda_nil))))))))
abbrev s_longer_tails : Stmt := top 22
theorem sc_longer_tails : FnScope ["sign", "name", "tails", "longer", "place", "chosen"] ["sign", "name", "tails"] (defScope s_longer_tails) := ⟨rfl, rfl, rfl, by decide +kernel, rfl, by decide +kernel, by decide +kernel⟩
theorem ok_longer_tails {f : Addr} {fd : FuncData} (A_ : DefAt K mg "longer_tails" s_longer_tails f fd) (h_meets : DefOk P w K mg base "meets" 1 2 ["sign", "other"] m_meets) (h_own_points : DefOk P w K mg base "own_points" 2 3 ["sign", "name", "place"] m_own_points) (h_linked_tails : DefOk P w K mg base "linked_tails" 2 2 ["place", "tails"] m_linked_tails) (h_first_of_most : DefOk P w K mg base "first_of_most" 1 1 ["tails"] m_first_of_most) (z_len : mg "len" = none) (z_range : mg "range" = none) : DefOk P w K mg base "longer_tails" 3 3 ["sign", "name", "tails"] m_longer_tails := by
  refine DefOk.mk (k := 2) A_ sc_longer_tails rfl (fun _ _ _ _ _ _ us hl => match us, hl with | [_, _, _], _ => rfl) (fun cdv A outer s H E hr => ?_) fun _ _ _ h => h
  exact (pdss_cons (pds_setO (i := 3) sc_longer_tails.nd rfl (Or.inl rfl) (pdf_lst pda_nil)) (pdss_cons (pds_for PassesOwn.never rfl (pdi_range1 rfl z_range (pda_cons (pde_callB cd_len rfl z_len PySem.boot_len (pda_cons (pde_var (pv 1)) pda_nil)) pda_nil)) (pdg_name sc_longer_tails.nd rfl (Or.inl rfl)) (pdss_one (pds_if (pdt_tru (pde_def h_meets (hr.mono (by decide)) (pda_cons (pde_var (pv 0)) (pda_cons (pde_ix ix_ok (pde_var (pv 1)) (pde_var (pv 4))) pda_nil)) (aCons_len (aCons_len aNil_len)))) (pdss_cons (pds_set (i := 5) sc_longer_tails.nd rfl (Or.inl rfl) (pde_def h_first_of_most (hr.mono (by decide)) (pda_cons (pde_def h_linked_tails (hr.mono (by decide)) (pda_cons (pde_var (pv 4)) (pda_cons (pde_var (pv 2)) pda_nil)) (aCons_len (aCons_len aNil_len))) pda_nil) (aCons_len aNil_len))) (pdss_one (pds_if (pdt_cmp opd_isNot (pde_var (pv 5)) pde_non (nomark _)) (pdss_one (pds_app (pv 3) (pde_tup (pda_cons (pde_op opd_add (pde_def h_own_points (hr.mono (by decide)) (pda_cons (pde_var (pv 0)) (pda_cons (pde_var (pv 1)) (pda_cons (pde_var (pv 4)) pda_nil))) (aCons_len (aCons_len (aCons_len aNil_len)))) (pde_ix ix_ok (pde_var (pv 5)) pde_int)) (pda_cons (pde_op opd_add (pde_lst (pda_cons (pde_var (pv 4)) pda_nil)) (pde_ix ix_ok (pde_var (pv 5)) pde_int)) pda_nil))))) pdss_nil))) pdss_nil))) (pdss_one (pds_retO (pv 3)))))
abbrev s_lead_points : Stmt := top 17
theorem sc_lead_points : FnScope ["place"] ["place"] (defScope s_lead_points) := ⟨rfl, rfl, rfl, by decide +kernel, rfl, by decide +kernel, by decide +kernel⟩
theorem ok_lead_points {f : Addr} {fd : FuncData} (A_ : DefAt K mg "lead_points" s_lead_points f fd) {t_MOST_AHEAD : Tok} (g_MOST_AHEAD : mg "MOST_AHEAD" = some (.int 3 t_MOST_AHEAD)) (z_min : mg "min" = none) : DefOk P w K mg base "lead_points" 1 1 ["place"] m_lead_points := by
  refine DefOk.mk (k := 0) A_ sc_lead_points rfl (fun _ _ _ _ _ _ us hl => match us, hl with | [_], _ => rfl) (fun cdv A outer s H E hr => ?_) fun _ _ _ h => h
  exact (pdss_one (pds_ret (pde_neg (pde_callB (cd_min2 rfl) rfl z_min boot_min (pda_cons (pde_var (pv 0)) (pda_cons (pde_glI rfl g_MOST_AHEAD) pda_nil))))))
abbrev s_best : Stmt := top 23
theorem sc_best : FnScope ["query", "name", "tails", "number"] ["query", "name"] (defScope s_best) := ⟨rfl, rfl, rfl, by decide +kernel, rfl, by decide +kernel, by decide +kernel⟩
theorem ok_best {f : Addr} {fd : FuncData} (A_ : DefAt K mg "best" s_best f fd) (h_lead_points : DefOk P w K mg base "lead_points" 1 1 ["place"] m_lead_points) (h_first_of_most : DefOk P w K mg base "first_of_most" 1 1 ["tails"] m_first_of_most) (h_longer_tails : DefOk P w K mg base "longer_tails" 3 3 ["sign", "name", "tails"] m_longer_tails) (h_last_sign_tails : DefOk P w K mg base "last_sign_tails" 3 2 ["sign", "name"] m_last_sign_tails) (z_len : mg "len" = none) (z_range : mg "range" = none) : DefOk P w K mg base "best" 4 2 ["query", "name"] m_best := by
  refine DefOk.mk (k := 3) A_ sc_best rfl (fun _ _ _ _ _ _ us hl => match us, hl with | [_, _], _ => rfl) (fun cdv A outer s H E hr => ?_) fun _ _ _ h => h
  exact (pdss_cons (pds_if (pdt_cmp (opd_eq hr.units) (pde_callB cd_len rfl z_len PySem.boot_len (pda_cons (pde_var (pv 0)) pda_nil)) pde_int (nomark _)) (pdss_one (pds_ret (pde_tup (pda_cons pde_int (pda_cons (pde_lst pda_nil) pda_nil))))) pdss_nil) (pdss_cons (pds_set (i := 2) sc_best.nd rfl (Or.inl rfl) (pde_def h_last_sign_tails (hr.mono (by decide)) (pda_cons (pde_ix ix_ok (pde_var (pv 0)) (pde_neg pde_int)) (pda_cons (pde_var (pv 1)) pda_nil)) (aCons_len (aCons_len aNil_len)))) (pdss_cons (pds_for PassesOwn.never rfl (pdi_rangeD rfl z_range (pda_cons (pde_op opd_sub (pde_callB cd_len rfl z_len PySem.boot_len (pda_cons (pde_var (pv 0)) pda_nil)) pde_int) (pda_cons (pde_neg pde_int) (pda_cons (pde_neg pde_int) pda_nil)))) (pdg_name sc_best.nd rfl (Or.inl rfl)) (pdss_one (pds_set (i := 2) sc_best.nd rfl (Or.inl rfl) (pde_def h_longer_tails (hr.mono (by decide)) (pda_cons (pde_ix ix_ok (pde_var (pv 0)) (pde_var (pv 3))) (pda_cons (pde_var (pv 1)) (pda_cons (pde_var (pv 2)) pda_nil))) (aCons_len (aCons_len (aCons_len aNil_len))))))) (pdss_one (pds_ret (pde_def h_first_of_most (hr.mono (by decide)) (pda_cons (pde_fr (pdf_comp (tn := ["tail"]) (fr := []) (idx := []) rfl rfl trivial (setOk_nm 0) (pdi_any (pde_var (pv 2))) (fun s H C fp => (pdg_name (show List.Nodup (["tail"] : List Str) by decide +kernel) rfl (Or.inl rfl))) (fun s H C fp => pdts_nil) (fun s H C fp => (pde_tup (pda_cons (pde_op opd_add (pde_ix ix_ok (pde_var (pv 0)) pde_int) (pde_def h_lead_points (hr.mono (by decide)) (pda_cons (pde_ix ix_ok (pde_ix ix_ok (pde_var (pv 0)) pde_int) pde_int) pda_nil) (aCons_len aNil_len))) (pda_cons (pde_ix ix_ok (pde_var (pv 0)) pde_int) pda_nil)))))) pda_nil) (aCons_len aNil_len)))))))
abbrev s_by_bounds : Stmt := top 33
theorem sc_by_bounds : FnScope ["names", "query", "rows"] ["names", "query"] (defScope s_by_bounds) := ⟨rfl, rfl, rfl, by decide +kernel, rfl, by decide +kernel, by decide +kernel⟩
theorem ok_by_bounds {f c : Addr} (A_ : DefAtL K mg "by_bounds" s_by_bounds f c 127) (bm : BM mg base) (h_bound : DefOk P w K mg base "bound" 4 2 ["query", "name"] m_bound) (z_sorted : mg "sorted" = none) (z_enumerate : mg "enumerate" = none) : DefOk P w K mg base "by_bounds" 5 2 ["names", "query"] m_by_bounds := by
  refine DefOk.mkL (k := 4) A_ sc_by_bounds rfl (fun _ _ _ _ _ _ us hl => match us, hl with | [_, _], _ => rfl) (fun A outer s H E hr => ?_)
  exact (pdss_cons (pds_comp (i := 2) sc_by_bounds.nd rfl rfl rfl (tn := ["number", "name"]) (fr := ["query"]) (idx := [1]) rfl rfl ⟨rfl, rfl, trivial⟩ (setOk_pr 0 1) (pdi_enum rfl z_enumerate (pda_cons (pde_var (pv 0)) pda_nil)) (fun s H C fp => (pdg_pair rfl (show List.Nodup (["number", "name", "query"] : List Str) by decide +kernel) rfl (Or.inl rfl) rfl (Or.inl rfl))) (fun s H C fp => pdts_nil) (fun s H C fp => (pde_tup (pda_cons (pde_def h_bound (hr.mono (by decide)) (pda_cons (pde_var (pv 2)) (pda_cons (pde_var (pv 1)) pda_nil)) (aCons_len (aCons_len aNil_len))) (pda_cons (pde_var (pv 0)) pda_nil))))) (pdss_one (pds_ret (pde_sortK (P := 127) (p := "row") (fr := []) (idx := []) rfl z_sorted PyProof.Rows.boot_sorted (pde_fr (pdf_comp (tn := ["row"]) (fr := []) (idx := []) rfl rfl trivial (setOk_nm 0) (pdi_any (pde_var (pv 2))) (fun s H C fp => (pdg_name (show List.Nodup (["row"] : List Str) by decide +kernel) rfl (Or.inl rfl))) (fun s H C fp => (pdts_one (pdt_cmp opd_isNot (pde_ix ix_ok (pde_var (pv 0)) pde_int) pde_non (nomark _)))) (fun s H C fp => (pde_var (pv 0))))) (hr.mono (by decide)) (TabsU.of (by decide)) bm rfl A_.tab (.tail _ (.head _)) rfl trivial rfl rfl rfl (fun _ _ _ _ _ => rfl) (fun s H f cd => (pde_tup (pda_cons (pde_neg (pde_ix ix_ok (pde_var (pv 0)) pde_int)) (pda_cons (pde_ix ix_ok (pde_var (pv 0)) pde_int) pda_nil))))))))
abbrev s_are_enough : Stmt := top 34
theorem sc_are_enough : FnScope ["rows", "many", "limit"] ["rows", "many", "limit"] (defScope s_are_enough) := ⟨rfl, rfl, rfl, by decide +kernel, rfl, by decide +kernel, by decide +kernel⟩
theorem ok_are_enough {f : Addr} {fd : FuncData} (A_ : DefAt K mg "are_enough" s_are_enough f fd) (z_len : mg "len" = none) : DefOk P w K mg base "are_enough" 1 3 ["rows", "many", "limit"] m_are_enough := by
  refine DefOk.mk (k := 0) A_ sc_are_enough rfl (fun _ _ _ _ _ _ us hl => match us, hl with | [_, _, _], _ => rfl) (fun cdv A outer s H E hr => ?_) fun _ _ _ h => h
  exact (pdss_one (pds_ret (pde_cmp opd_ge (pde_callB cd_len rfl z_len PySem.boot_len (pda_cons (pde_fr (pdf_comp (tn := ["row"]) (fr := ["limit"]) (idx := [2]) rfl rfl ⟨rfl, rfl, trivial⟩ (setOk_nm 0) (pdi_any (pde_var (pv 0))) (fun s H C fp => (pdg_name (show List.Nodup (["row", "limit"] : List Str) by decide +kernel) rfl (Or.inl rfl))) (fun s H C fp => (pdts_one (pdt_cmp opd_gt (pde_ix ix_ok (pde_var (pv 0)) pde_int) (pde_var (pv 1)) (nomark _)))) (fun s H C fp => (pde_var (pv 0))))) pda_nil)) (pde_var (pv 1)) (nomark _))))
abbrev s_in_order : Stmt := top 26
theorem sc_in_order : FnScope ["names", "rows"] ["names", "rows"] (defScope s_in_order) := ⟨rfl, rfl, rfl, by decide +kernel, rfl, by decide +kernel, by decide +kernel⟩
theorem ok_in_order {f c : Addr} (A_ : DefAtL K mg "in_order" s_in_order f c 87) (bm : BM mg base) (z_len : mg "len" = none) (z_sorted : mg "sorted" = none) : DefOk P w K mg base "in_order" 4 2 ["names", "rows"] m_in_order := by
  refine DefOk.mkL (k := 3) A_ sc_in_order rfl (fun _ _ _ _ _ _ us hl => match us, hl with | [_, _], _ => rfl) (fun A outer s H E hr => ?_)
  exact (pdss_one (pds_ret (pde_sortK (P := 87) (p := "row") (fr := ["names"]) (idx := [0]) rfl z_sorted PyProof.Rows.boot_sorted (pde_var (pv 1)) (hr.mono (by decide)) (TabsU.of (by decide)) bm rfl A_.tab (.head _) rfl ⟨rfl, rfl, trivial⟩ rfl rfl rfl (fun _ _ _ _ _ => rfl) (fun s H f cd => (pde_tup (pda_cons (pde_neg (pde_ix ix_ok (pde_var (pv 0)) pde_int)) (pda_cons (pde_callB cd_len rfl z_len PySem.boot_len (pda_cons (pde_ix ix_ok (pde_var (pv 1)) (pde_ix ix_ok (pde_var (pv 0)) pde_int)) pda_nil)) (pda_cons (pde_ix ix_ok (pde_var (pv 0)) pde_int) pda_nil))))))))
abbrev s_first_rows : Stmt := top 27
theorem sc_first_rows : FnScope ["names", "rows", "many"] ["names", "rows", "many"] (defScope s_first_rows) := ⟨rfl, rfl, rfl, by decide +kernel, rfl, by decide +kernel, by decide +kernel⟩
theorem ok_first_rows {f : Addr} {fd : FuncData} (A_ : DefAt K mg "first_rows" s_first_rows f fd) (h_in_order : DefOk P w K mg base "in_order" 4 2 ["names", "rows"] m_in_order) (z_max : mg "max" = none) : DefOk P w K mg base "first_rows" 5 3 ["names", "rows", "many"] m_first_rows := by
  refine DefOk.mk (k := 4) A_ sc_first_rows rfl (fun _ _ _ _ _ _ us hl => match us, hl with | [_, _, _], _ => rfl) (fun cdv A outer s H E hr => ?_) fun _ _ _ h => h
  exact (pdss_one (pds_ret (pde_sl (pde_def h_in_order (hr.mono (by decide)) (pda_cons (pde_var (pv 0)) (pda_cons (pde_var (pv 1)) pda_nil)) (aCons_len (aCons_len aNil_len))) pdo_none (pdo_some (pde_callB (cd_max2 rfl) rfl z_max boot_max (pda_cons (pde_var (pv 2)) (pda_cons pde_int pda_nil)))))))
abbrev s_fitting_rows : Stmt := top 25
theorem sc_fitting_rows : FnScope ["names", "query", "numbers", "rows", "number", "laid"] ["names", "query", "numbers"] (defScope s_fitting_rows) := ⟨rfl, rfl, rfl, by decide +kernel, rfl, by decide +kernel, by decide +kernel⟩
theorem ok_fitting_rows {f : Addr} {fd : FuncData} (A_ : DefAt K mg "fitting_rows" s_fitting_rows f fd) (h_best : DefOk P w K mg base "best" 4 2 ["query", "name"] m_best) : DefOk P w K mg base "fitting_rows" 5 3 ["names", "query", "numbers"] m_fitting_rows := by
  refine DefOk.mk (k := 4) A_ sc_fitting_rows rfl (fun _ _ _ _ _ _ us hl => match us, hl with | [_, _, _], _ => rfl) (fun cdv A outer s H E hr => ?_) fun _ _ _ h => h
  exact (pdss_cons (pds_setO (i := 3) sc_fitting_rows.nd rfl (Or.inl rfl) (pdf_lst pda_nil)) (pdss_cons (pds_for PassesOwn.never rfl (pdi_any (pde_var (pv 2))) (pdg_name sc_fitting_rows.nd rfl (Or.inl rfl)) (pdss_cons (pds_set (i := 5) sc_fitting_rows.nd rfl (Or.inl rfl) (pde_def h_best (hr.mono (by decide)) (pda_cons (pde_var (pv 1)) (pda_cons (pde_ix ix_ok (pde_var (pv 0)) (pde_var (pv 4))) pda_nil)) (aCons_len (aCons_len aNil_len)))) (pdss_one (pds_if (pdt_cmp opd_isNot (pde_var (pv 5)) pde_non (nomark _)) (pdss_one (pds_app (pv 3) (pde_tup (pda_cons (pde_ix ix_ok (pde_var (pv 5)) pde_int) (pda_cons (pde_var (pv 4)) pda_nil))))) pdss_nil)))) (pdss_one (pds_retO (pv 3)))))
abbrev s_found_by_bound : Stmt := top 35
theorem sc_found_by_bound : FnScope ["names", "query", "many", "rows", "laid", "limit", "number"] ["names", "query", "many"] (defScope s_found_by_bound) := ⟨rfl, rfl, rfl, by decide +kernel, rfl, by decide +kernel, by decide +kernel⟩
theorem ok_found_by_bound {f : Addr} {fd : FuncData} (A_ : DefAt K mg "found_by_bound" s_found_by_bound f fd) (h_first_rows : DefOk P w K mg base "first_rows" 5 3 ["names", "rows", "many"] m_first_rows) (h_by_bounds : DefOk P w K mg base "by_bounds" 5 2 ["names", "query"] m_by_bounds) (h_fitting_rows : DefOk P w K mg base "fitting_rows" 5 3 ["names", "query", "numbers"] m_fitting_rows) (h_are_enough : DefOk P w K mg base "are_enough" 1 3 ["rows", "many", "limit"] m_are_enough) : DefOk P w K mg base "found_by_bound" 6 3 ["names", "query", "many"] m_found_by_bound := by
  refine DefOk.mk (k := 5) A_ sc_found_by_bound rfl (fun _ _ _ _ _ _ us hl => match us, hl with | [_, _, _], _ => rfl) (fun cdv A outer s H E hr => ?_) fun _ _ _ h => h
  exact (pdss_cons (pds_setO (i := 3) sc_found_by_bound.nd rfl (Or.inl rfl) (pdf_lst pda_nil)) (pdss_cons (pds_set (i := 4) sc_found_by_bound.nd rfl (Or.inl rfl) pde_int) (pdss_cons (pds_for PassesOwn.never rfl (pdi_any (pde_def h_by_bounds (hr.mono (by decide)) (pda_cons (pde_var (pv 0)) (pda_cons (pde_var (pv 1)) pda_nil)) (aCons_len (aCons_len aNil_len)))) (pdg_pair rfl sc_found_by_bound.nd rfl (Or.inl rfl) rfl (Or.inl rfl)) (pdss_cons (pds_if (pdt_tru (pde_fz (pde_def h_are_enough (hr.mono (by decide)) (pda_cons (pde_var (pv 3)) (pda_cons (pde_var (pv 2)) (pda_cons (pde_var (pv 5)) pda_nil))) (aCons_len (aCons_len (aCons_len aNil_len)))))) (pdss_one pds_break) pdss_nil) (pdss_cons (pds_ext (pv 3) (pde_def h_fitting_rows (hr.mono (by decide)) (pda_cons (pde_var (pv 0)) (pda_cons (pde_var (pv 1)) (pda_cons (pde_lst (pda_cons (pde_var (pv 6)) pda_nil)) pda_nil))) (aCons_len (aCons_len (aCons_len aNil_len))))) (pdss_one (pds_augA (i := 4) sc_found_by_bound.nd rfl (Or.inl rfl) pde_int))))) (pdss_one (pds_frz (pds_ret (pde_tup (pda_cons (pde_def h_first_rows (hr.mono (by decide)) (pda_cons (pde_var (pv 0)) (pda_cons (pde_var (pv 3)) (pda_cons (pde_var (pv 2)) pda_nil))) (aCons_len (aCons_len (aCons_len aNil_len)))) (pda_cons (pde_var (pv 4)) pda_nil)))))))))
abbrev s_all_rows : Stmt := top 28
theorem sc_all_rows : FnScope ["names", "query"] ["names", "query"] (defScope s_all_rows) := ⟨rfl, rfl, rfl, by decide +kernel, rfl, by decide +kernel, by decide +kernel⟩
theorem ok_all_rows {f : Addr} {fd : FuncData} (A_ : DefAt K mg "all_rows" s_all_rows f fd) (h_fitting_rows : DefOk P w K mg base "fitting_rows" 5 3 ["names", "query", "numbers"] m_fitting_rows) (z_len : mg "len" = none) (z_list : mg "list" = none) (z_range : mg "range" = none) : DefOk P w K mg base "all_rows" 6 2 ["names", "query"] m_all_rows := by
  refine DefOk.mk (k := 5) A_ sc_all_rows rfl (fun _ _ _ _ _ _ us hl => match us, hl with | [_, _], _ => rfl) (fun cdv A outer s H E hr => ?_) fun _ _ _ h => h
  exact (pdss_one (pds_ret (pde_def h_fitting_rows (hr.mono (by decide)) (pda_cons (pde_var (pv 0)) (pda_cons (pde_var (pv 1)) (pda_cons (pde_fr (pdf_list_range1 rfl rfl z_list rfl z_range (pda_cons (pde_callB cd_len rfl z_len PySem.boot_len (pda_cons (pde_var (pv 0)) pda_nil)) pda_nil))) pda_nil))) (aCons_len (aCons_len (aCons_len aNil_len))))))
abbrev s_finds : Stmt := top 29
theorem sc_finds : FnScope ["names", "query", "many"] ["names", "query", "many"] (defScope s_finds) := ⟨rfl, rfl, rfl, by decide +kernel, rfl, by decide +kernel, by decide +kernel⟩
theorem ok_finds {f : Addr} {fd : FuncData} (A_ : DefAt K mg "finds" s_finds f fd) (h_all_rows : DefOk P w K mg base "all_rows" 6 2 ["names", "query"] m_all_rows) (h_first_rows : DefOk P w K mg base "first_rows" 5 3 ["names", "rows", "many"] m_first_rows) : DefOk P w K mg base "finds" 7 3 ["names", "query", "many"] m_finds := by
  refine DefOk.mk (k := 6) A_ sc_finds rfl (fun _ _ _ _ _ _ us hl => match us, hl with | [_, _, _], _ => rfl) (fun cdv A outer s H E hr => ?_) fun _ _ _ h => h
  exact (pdss_one (pds_ret (pde_def h_first_rows (hr.mono (by decide)) (pda_cons (pde_var (pv 0)) (pda_cons (pde_def h_all_rows (hr.mono (by decide)) (pda_cons (pde_var (pv 0)) (pda_cons (pde_var (pv 1)) pda_nil)) (aCons_len (aCons_len aNil_len))) (pda_cons (pde_var (pv 2)) pda_nil))) (aCons_len (aCons_len (aCons_len aNil_len))))))
abbrev s_law : Stmt := top 43
theorem sc_law : FnScope ["_law_script", "_law_names_here", "_law_query_here", "_law_every", "_law_name_here", "_law_most", "_law_told", "_law_before", "_law_many", "_law_laid"] ["_law_script"] (defScope s_law) := ⟨rfl, rfl, rfl, by decide +kernel, rfl, by decide +kernel, by decide +kernel⟩
theorem ok_law {f : Addr} {fd : FuncData} (A_ : Fun K "law" "law" s_law f fd) (h_finds : DefOk P w K mg base "finds" 7 3 ["names", "query", "many"] m_finds) (h_found_by_bound : DefOk P w K mg base "found_by_bound" 6 3 ["names", "query", "many"] m_found_by_bound) (h_best : DefOk P w K mg base "best" 4 2 ["query", "name"] m_best) (h_bound : DefOk P w K mg base "bound" 4 2 ["query", "name"] m_bound) (h__law_drawn : DefOk P w K mg base "_law_drawn" 2 3 ["_law_script", "_law_k", "_law_many"] m__law_drawn) (h__law_query : DefOk P w K mg base "_law_query" 3 4 ["_law_script", "_law_at", "_law_name_here", "_law_most"] m__law_query) (h__law_names : DefOk P w K mg base "_law_names" 4 3 ["_law_script", "_law_at", "_law_most"] m__law_names) (z_len : mg "len" = none) (z_range : mg "range" = none) (z_zip : mg "zip" = none) : FnOk P w K mg base CX0 8 f fd ["_law_script"] (spD K 1 m_law) := by
  refine fnD (k := 7) A_ sc_law rfl fun cdv A outer s H E hr => ?_
  exact (pdss_cons (pds_set (i := 1) sc_law.nd rfl (Or.inl rfl) (pde_def h__law_names (hr.mono (by decide)) (pda_cons (pde_var (pv 0)) (pda_cons pde_int (pda_cons pde_int pda_nil))) (aCons_len (aCons_len (aCons_len aNil_len))))) (pdss_cons (pds_set (i := 2) sc_law.nd rfl (Or.inr rfl) (pde_def h__law_query (hr.mono (by decide)) (pda_cons (pde_var (pv 0)) (pda_cons pde_int (pda_cons (pde_ix ix_ok (pde_op opd_add (pde_var (pv 1)) (pde_lst (pda_cons pde_str pda_nil))) (pde_def h__law_drawn (hr.mono (by decide)) (pda_cons (pde_var (pv 0)) (pda_cons pde_int (pda_cons (pde_op opd_add (pde_callB cd_len rfl z_len PySem.boot_len (pda_cons (pde_var (pv 1)) pda_nil)) pde_int) pda_nil))) (aCons_len (aCons_len (aCons_len aNil_len))))) (pda_cons pde_int pda_nil)))) (aCons_len (aCons_len (aCons_len (aCons_len aNil_len)))))) (pdss_cons (pds_comp (i := 3) sc_law.nd rfl rfl rfl (tn := ["_law_name_here"]) (fr := ["_law_query_here"]) (idx := [2]) rfl rfl ⟨rfl, rfl, trivial⟩ (setOk_nm 0) (pdi_any (pde_var (pv 1))) (fun s H C fp => (pdg_name (show List.Nodup (["_law_name_here", "_law_query_here"] : List Str) by decide +kernel) rfl (Or.inl rfl))) (fun s H C fp => pdts_nil) (fun s H C fp => (pde_def h_bound (hr.mono (by decide)) (pda_cons (pde_var (pv 1)) (pda_cons (pde_var (pv 0)) pda_nil)) (aCons_len (aCons_len aNil_len))))) (pdss_cons (pds_for PassesOwn.never rfl (pdi_zipL rfl z_zip (pda_cons (pde_var (pv 1)) (pda_cons (pde_var (pv 3)) pda_nil))) (pdg_pair rfl sc_law.nd rfl (Or.inl rfl) rfl (Or.inl rfl)) (pdss_cons (pds_set (i := 6) sc_law.nd rfl (Or.inl rfl) (pde_def h_best (hr.mono (by decide)) (pda_cons (pde_var (pv 2)) (pda_cons (pde_var (pv 4)) pda_nil)) (aCons_len (aCons_len aNil_len)))) (pdss_one (pds_if (pdt_w (pdw_and (pdt_cmp opd_isNot (pde_var (pv 6)) pde_non (nomark _)) (pdw_and1 (pdt_w (pdw_or (pdt_cmp opd_is (pde_var (pv 5)) pde_non (nomark _)) (pdw_or1 (pdt_cmp opd_lt (pde_var (pv 5)) (pde_ix ix_ok (pde_var (pv 6)) pde_int) (nomark _)))))))) (pdss_one (pds_ret pde_bl)) pdss_nil)))) (pdss_cons (pds_set (i := 7) sc_law.nd rfl (Or.inl rfl) pde_int) (pdss_cons (pds_for PassesOwn.never rfl (pdi_range1 rfl z_range (pda_cons pde_int pda_nil)) (pdg_name sc_law.nd rfl (Or.inl rfl)) (pdss_cons (pds_pair (pde_def h_found_by_bound (hr.mono (by decide)) (pda_cons (pde_var (pv 1)) (pda_cons (pde_var (pv 2)) (pda_cons (pde_var (pv 8)) pda_nil))) (aCons_len (aCons_len (aCons_len aNil_len)))) (pdg_pair rfl sc_law.nd rfl (Or.inl rfl) rfl (Or.inl rfl))) (pdss_cons (pds_if (pdt_w (pdw_or (pdt_cmp (opd_ne hr.units) (pde_var (pv 6)) (pde_def h_finds (hr.mono (by decide)) (pda_cons (pde_var (pv 1)) (pda_cons (pde_var (pv 2)) (pda_cons (pde_var (pv 8)) pda_nil))) (aCons_len (aCons_len (aCons_len aNil_len)))) (nomark _)) (pdw_or1 (pdt_not (pdt_chain opd_le opd_le (pde_var (pv 7)) (pde_var (pv 9)) (pde_op opd_sub (pde_callB cd_len rfl z_len PySem.boot_len (pda_cons (pde_var (pv 1)) pda_nil)) (pde_mt F.plainAttrs_list F.slot_list_count F.type_list_count md_cnn (pde_var (pv 3)) (pda_cons pde_non pda_nil)))))))) (pdss_one (pds_ret pde_bl)) pdss_nil) (pdss_cons (pds_if (pdt_w (pdw_or (pdt_cmp opd_lt (pde_var (pv 9)) (pde_callB cd_len rfl z_len PySem.boot_len (pda_cons (pde_var (pv 6)) pda_nil)) (nomark _)) (pdw_or1 (pdt_w (pdw_and (pdt_cmp (opd_eq hr.units) (pde_var (pv 8)) pde_int (nomark _)) (pdw_and1 (pdt_cmp (opd_ne hr.units) (pde_var (pv 9)) pde_int (nomark _)))))))) (pdss_one (pds_ret pde_bl)) pdss_nil) (pdss_one (pds_set (i := 7) sc_law.nd rfl (Or.inl rfl) (pde_var (pv 9)))))))) (pdss_one (pds_ret (pde_or (pde_cmp (opd_ne hr.units) (pde_var (pv 2)) pde_str (nomark _)) (pde_one (pde_cmp (opd_eq hr.units) (pde_var (pv 3)) (pde_op opd_mul (pde_lst (pda_cons pde_int pda_nil)) (pde_callB cd_len rfl z_len PySem.boot_len (pda_cons (pde_var (pv 1)) pda_nil))) (nomark _))))))))))))
end
theorem all_mk {l : PySem.W.OpenLaw} {w : World} {K : PySem.W.Frag} {h : Heap} {mg : Str → Option Value} {fa : Addr} (X : K.In h) (G : h.Ns mainGlobals mg) (hfa : mg "law" = some (.ref fa)) (hl : ∀ ns : List Int, ns.length ≤ 63 → m_law [.scr ns] = .ok (.bl true))
    {f0 f1 f2 f3 f4 f5 f6 f7 f8 f9 f10 f11 f12 f13 f14 f15 f16 f17 f18 f19 f20 f21 f22 f23 f24 f25 f26 : Addr} {od0 an0 od1 an1 od2 an2 od3 an3 od4 an4 od5 an5 od6 an6 od7 an7 od8 an8 od9 an9 od10 an10 od11 an11 od12 an12 od13 an13 od14 an14 od15 an15 od16 an16 od17 an17 od18 an18 od19 an19 od20 an20 od21 an21 od22 an22 od23 an23 od24 an24 od25 an25 od26 an26 : Option Addr} {sl0 sl1 sl2 sl3 sl4 sl5 sl6 sl7 sl8 sl9 sl10 sl11 sl12 sl13 sl14 sl15 sl16 sl17 sl18 sl19 sl20 sl21 sl22 sl23 sl24 sl25 sl26 : Array (Option Value)} {oc0 kV0 dc0 pm0 ct0 cd0 oc1 kV1 dc1 pm1 ct1 cd1 oc2 kV2 dc2 pm2 ct2 cd2 oc3 kV3 dc3 pm3 ct3 cd3 oc4 kV4 dc4 pm4 ct4 cd4 oc5 kV5 dc5 pm5 ct5 cd5 oc6 kV6 dc6 pm6 ct6 cd6 oc7 kV7 dc7 pm7 ct7 cd7 oc8 kV8 dc8 pm8 ct8 cd8 oc9 kV9 dc9 pm9 ct9 cd9 oc10 kV10 dc10 pm10 ct10 cd10 oc11 kV11 dc11 pm11 ct11 cd11 oc12 kV12 dc12 pm12 ct12 cd12 oc13 kV13 dc13 pm13 ct13 cd13 oc14 kV14 dc14 pm14 ct14 cd14 oc15 kV15 dc15 pm15 ct15 cd15 oc16 kV16 dc16 pm16 ct16 cd16 oc17 kV17 dc17 pm17 ct17 cd17 oc18 kV18 dc18 pm18 ct18 oc19 kV19 dc19 pm19 ct19 cd19 oc20 kV20 dc20 pm20 ct20 oc21 kV21 dc21 pm21 ct21 cd21 oc22 kV22 dc22 pm22 ct22 cd22 oc23 kV23 dc23 pm23 ct23 cd23 oc24 kV24 dc24 pm24 ct24 cd24 oc25 kV25 dc25 pm25 ct25 cd25 oc26 kV26 dc26 pm26 ct26 cd26 : Value} {t_FIGURES t_SMALL t_GREAT t_AT_GREAT t_MARKS t_BEHIND_MARK t_AT_BEGINNING t_EACH_PLACE t_SAME_SIGN t_BESIDE t_MOST_BETWEEN t_MOST_AHEAD : Tok}
    {cc18 cc20 : Addr}
    (a0 : PySem.W.nsIn K mainGlobals "_law_cell" = some (some (.ref f0))) (l0 : K.lookup f0 = some ⟨oc0, od0, .func (PySem.W.fnOf "_law_cell" "_law_cell" (defArgs s__law_cell) (defBody s__law_cell) (defScope s__law_cell) .none kV0 dc0 pm0 an0 cd0 ct0), sl0⟩) (c0 : PySem.W.codeIn K cd0 "_law_cell" = true) (k0 : PySem.W.keepIn K (.ref f0) = true)
    (a1 : PySem.W.nsIn K mainGlobals "_law_drawn" = some (some (.ref f1))) (l1 : K.lookup f1 = some ⟨oc1, od1, .func (PySem.W.fnOf "_law_drawn" "_law_drawn" (defArgs s__law_drawn) (defBody s__law_drawn) (defScope s__law_drawn) .none kV1 dc1 pm1 an1 cd1 ct1), sl1⟩) (c1 : PySem.W.codeIn K cd1 "_law_drawn" = true) (k1 : PySem.W.keepIn K (.ref f1) = true)
    (a2 : PySem.W.nsIn K mainGlobals "_law_name" = some (some (.ref f2))) (l2 : K.lookup f2 = some ⟨oc2, od2, .func (PySem.W.fnOf "_law_name" "_law_name" (defArgs s__law_name) (defBody s__law_name) (defScope s__law_name) .none kV2 dc2 pm2 an2 cd2 ct2), sl2⟩) (c2 : PySem.W.codeIn K cd2 "_law_name" = true) (k2 : PySem.W.keepIn K (.ref f2) = true)
    (a3 : PySem.W.nsIn K mainGlobals "_law_names" = some (some (.ref f3))) (l3 : K.lookup f3 = some ⟨oc3, od3, .func (PySem.W.fnOf "_law_names" "_law_names" (defArgs s__law_names) (defBody s__law_names) (defScope s__law_names) .none kV3 dc3 pm3 an3 cd3 ct3), sl3⟩) (c3 : PySem.W.codeIn K cd3 "_law_names" = true) (k3 : PySem.W.keepIn K (.ref f3) = true)
    (a4 : PySem.W.nsIn K mainGlobals "_law_mark" = some (some (.ref f4))) (l4 : K.lookup f4 = some ⟨oc4, od4, .func (PySem.W.fnOf "_law_mark" "_law_mark" (defArgs s__law_mark) (defBody s__law_mark) (defScope s__law_mark) .none kV4 dc4 pm4 an4 cd4 ct4), sl4⟩) (c4 : PySem.W.codeIn K cd4 "_law_mark" = true) (k4 : PySem.W.keepIn K (.ref f4) = true)
    (a5 : PySem.W.nsIn K mainGlobals "_law_query" = some (some (.ref f5))) (l5 : K.lookup f5 = some ⟨oc5, od5, .func (PySem.W.fnOf "_law_query" "_law_query" (defArgs s__law_query) (defBody s__law_query) (defScope s__law_query) .none kV5 dc5 pm5 an5 cd5 ct5), sl5⟩) (c5 : PySem.W.codeIn K cd5 "_law_query" = true) (k5 : PySem.W.keepIn K (.ref f5) = true)
    (a6 : PySem.W.nsIn K mainGlobals "beginning_points" = some (some (.ref f6))) (l6 : K.lookup f6 = some ⟨oc6, od6, .func (PySem.W.fnOf "beginning_points" "beginning_points" (defArgs s_beginning_points) (defBody s_beginning_points) (defScope s_beginning_points) .none kV6 dc6 pm6 an6 cd6 ct6), sl6⟩) (c6 : PySem.W.codeIn K cd6 "beginning_points" = true) (k6 : PySem.W.keepIn K (.ref f6) = true)
    (a7 : PySem.W.nsIn K mainGlobals "own_points" = some (some (.ref f7))) (l7 : K.lookup f7 = some ⟨oc7, od7, .func (PySem.W.fnOf "own_points" "own_points" (defArgs s_own_points) (defBody s_own_points) (defScope s_own_points) .none kV7 dc7 pm7 an7 cd7 ct7), sl7⟩) (c7 : PySem.W.codeIn K cd7 "own_points" = true) (k7 : PySem.W.keepIn K (.ref f7) = true)
    (a8 : PySem.W.nsIn K mainGlobals "meets" = some (some (.ref f8))) (l8 : K.lookup f8 = some ⟨oc8, od8, .func (PySem.W.fnOf "meets" "meets" (defArgs s_meets) (defBody s_meets) (defScope s_meets) .none kV8 dc8 pm8 an8 cd8 ct8), sl8⟩) (c8 : PySem.W.codeIn K cd8 "meets" = true) (k8 : PySem.W.keepIn K (.ref f8) = true)
    (a9 : PySem.W.nsIn K mainGlobals "most_of_sign" = some (some (.ref f9))) (l9 : K.lookup f9 = some ⟨oc9, od9, .func (PySem.W.fnOf "most_of_sign" "most_of_sign" (defArgs s_most_of_sign) (defBody s_most_of_sign) (defScope s_most_of_sign) .none kV9 dc9 pm9 an9 cd9 ct9), sl9⟩) (c9 : PySem.W.codeIn K cd9 "most_of_sign" = true) (k9 : PySem.W.keepIn K (.ref f9) = true)
    (a10 : PySem.W.nsIn K mainGlobals "bound" = some (some (.ref f10))) (l10 : K.lookup f10 = some ⟨oc10, od10, .func (PySem.W.fnOf "bound" "bound" (defArgs s_bound) (defBody s_bound) (defScope s_bound) .none kV10 dc10 pm10 an10 cd10 ct10), sl10⟩) (c10 : PySem.W.codeIn K cd10 "bound" = true) (k10 : PySem.W.keepIn K (.ref f10) = true)
    (a11 : PySem.W.nsIn K mainGlobals "last_sign_tails" = some (some (.ref f11))) (l11 : K.lookup f11 = some ⟨oc11, od11, .func (PySem.W.fnOf "last_sign_tails" "last_sign_tails" (defArgs s_last_sign_tails) (defBody s_last_sign_tails) (defScope s_last_sign_tails) .none kV11 dc11 pm11 an11 cd11 ct11), sl11⟩) (c11 : PySem.W.codeIn K cd11 "last_sign_tails" = true) (k11 : PySem.W.keepIn K (.ref f11) = true)
    (a12 : PySem.W.nsIn K mainGlobals "first_of_most" = some (some (.ref f12))) (l12 : K.lookup f12 = some ⟨oc12, od12, .func (PySem.W.fnOf "first_of_most" "first_of_most" (defArgs s_first_of_most) (defBody s_first_of_most) (defScope s_first_of_most) .none kV12 dc12 pm12 an12 cd12 ct12), sl12⟩) (c12 : PySem.W.codeIn K cd12 "first_of_most" = true) (k12 : PySem.W.keepIn K (.ref f12) = true)
    (a13 : PySem.W.nsIn K mainGlobals "link_points" = some (some (.ref f13))) (l13 : K.lookup f13 = some ⟨oc13, od13, .func (PySem.W.fnOf "link_points" "link_points" (defArgs s_link_points) (defBody s_link_points) (defScope s_link_points) .none kV13 dc13 pm13 an13 cd13 ct13), sl13⟩) (c13 : PySem.W.codeIn K cd13 "link_points" = true) (k13 : PySem.W.keepIn K (.ref f13) = true)
    (a14 : PySem.W.nsIn K mainGlobals "linked_tails" = some (some (.ref f14))) (l14 : K.lookup f14 = some ⟨oc14, od14, .func (PySem.W.fnOf "linked_tails" "linked_tails" (defArgs s_linked_tails) (defBody s_linked_tails) (defScope s_linked_tails) .none kV14 dc14 pm14 an14 cd14 ct14), sl14⟩) (c14 : PySem.W.codeIn K cd14 "linked_tails" = true) (k14 : PySem.W.keepIn K (.ref f14) = true)
    (a15 : PySem.W.nsIn K mainGlobals "longer_tails" = some (some (.ref f15))) (l15 : K.lookup f15 = some ⟨oc15, od15, .func (PySem.W.fnOf "longer_tails" "longer_tails" (defArgs s_longer_tails) (defBody s_longer_tails) (defScope s_longer_tails) .none kV15 dc15 pm15 an15 cd15 ct15), sl15⟩) (c15 : PySem.W.codeIn K cd15 "longer_tails" = true) (k15 : PySem.W.keepIn K (.ref f15) = true)
    (a16 : PySem.W.nsIn K mainGlobals "lead_points" = some (some (.ref f16))) (l16 : K.lookup f16 = some ⟨oc16, od16, .func (PySem.W.fnOf "lead_points" "lead_points" (defArgs s_lead_points) (defBody s_lead_points) (defScope s_lead_points) .none kV16 dc16 pm16 an16 cd16 ct16), sl16⟩) (c16 : PySem.W.codeIn K cd16 "lead_points" = true) (k16 : PySem.W.keepIn K (.ref f16) = true)
    (a17 : PySem.W.nsIn K mainGlobals "best" = some (some (.ref f17))) (l17 : K.lookup f17 = some ⟨oc17, od17, .func (PySem.W.fnOf "best" "best" (defArgs s_best) (defBody s_best) (defScope s_best) .none kV17 dc17 pm17 an17 cd17 ct17), sl17⟩) (c17 : PySem.W.codeIn K cd17 "best" = true) (k17 : PySem.W.keepIn K (.ref f17) = true)
    (a18 : PySem.W.nsIn K mainGlobals "by_bounds" = some (some (.ref f18))) (l18 : K.lookup f18 = some ⟨oc18, od18, .func (PySem.W.fnOf "by_bounds" "by_bounds" (defArgs s_by_bounds) (defBody s_by_bounds) (defScope s_by_bounds) .none kV18 dc18 pm18 an18 (.ref cc18) ct18), sl18⟩) (c18 : PySem.W.codeIn K (.ref cc18) "by_bounds" = true) (k18 : PySem.W.keepIn K (.ref f18) = true) (tb18 : PySem.W.codeHdIn K cc18 127 = true)
    (a19 : PySem.W.nsIn K mainGlobals "are_enough" = some (some (.ref f19))) (l19 : K.lookup f19 = some ⟨oc19, od19, .func (PySem.W.fnOf "are_enough" "are_enough" (defArgs s_are_enough) (defBody s_are_enough) (defScope s_are_enough) .none kV19 dc19 pm19 an19 cd19 ct19), sl19⟩) (c19 : PySem.W.codeIn K cd19 "are_enough" = true) (k19 : PySem.W.keepIn K (.ref f19) = true)
    (a20 : PySem.W.nsIn K mainGlobals "in_order" = some (some (.ref f20))) (l20 : K.lookup f20 = some ⟨oc20, od20, .func (PySem.W.fnOf "in_order" "in_order" (defArgs s_in_order) (defBody s_in_order) (defScope s_in_order) .none kV20 dc20 pm20 an20 (.ref cc20) ct20), sl20⟩) (c20 : PySem.W.codeIn K (.ref cc20) "in_order" = true) (k20 : PySem.W.keepIn K (.ref f20) = true) (tb20 : PySem.W.codeHdIn K cc20 87 = true)
    (a21 : PySem.W.nsIn K mainGlobals "first_rows" = some (some (.ref f21))) (l21 : K.lookup f21 = some ⟨oc21, od21, .func (PySem.W.fnOf "first_rows" "first_rows" (defArgs s_first_rows) (defBody s_first_rows) (defScope s_first_rows) .none kV21 dc21 pm21 an21 cd21 ct21), sl21⟩) (c21 : PySem.W.codeIn K cd21 "first_rows" = true) (k21 : PySem.W.keepIn K (.ref f21) = true)
    (a22 : PySem.W.nsIn K mainGlobals "fitting_rows" = some (some (.ref f22))) (l22 : K.lookup f22 = some ⟨oc22, od22, .func (PySem.W.fnOf "fitting_rows" "fitting_rows" (defArgs s_fitting_rows) (defBody s_fitting_rows) (defScope s_fitting_rows) .none kV22 dc22 pm22 an22 cd22 ct22), sl22⟩) (c22 : PySem.W.codeIn K cd22 "fitting_rows" = true) (k22 : PySem.W.keepIn K (.ref f22) = true)
    (a23 : PySem.W.nsIn K mainGlobals "found_by_bound" = some (some (.ref f23))) (l23 : K.lookup f23 = some ⟨oc23, od23, .func (PySem.W.fnOf "found_by_bound" "found_by_bound" (defArgs s_found_by_bound) (defBody s_found_by_bound) (defScope s_found_by_bound) .none kV23 dc23 pm23 an23 cd23 ct23), sl23⟩) (c23 : PySem.W.codeIn K cd23 "found_by_bound" = true) (k23 : PySem.W.keepIn K (.ref f23) = true)
    (a24 : PySem.W.nsIn K mainGlobals "all_rows" = some (some (.ref f24))) (l24 : K.lookup f24 = some ⟨oc24, od24, .func (PySem.W.fnOf "all_rows" "all_rows" (defArgs s_all_rows) (defBody s_all_rows) (defScope s_all_rows) .none kV24 dc24 pm24 an24 cd24 ct24), sl24⟩) (c24 : PySem.W.codeIn K cd24 "all_rows" = true) (k24 : PySem.W.keepIn K (.ref f24) = true)
    (a25 : PySem.W.nsIn K mainGlobals "finds" = some (some (.ref f25))) (l25 : K.lookup f25 = some ⟨oc25, od25, .func (PySem.W.fnOf "finds" "finds" (defArgs s_finds) (defBody s_finds) (defScope s_finds) .none kV25 dc25 pm25 an25 cd25 ct25), sl25⟩) (c25 : PySem.W.codeIn K cd25 "finds" = true) (k25 : PySem.W.keepIn K (.ref f25) = true)
    (a26 : PySem.W.nsIn K mainGlobals "law" = some (some (.ref f26))) (l26 : K.lookup f26 = some ⟨oc26, od26, .func (PySem.W.fnOf "law" "law" (defArgs s_law) (defBody s_law) (defScope s_law) .none kV26 dc26 pm26 an26 cd26 ct26), sl26⟩) (c26 : PySem.W.codeIn K cd26 "law" = true) (k26 : PySem.W.keepIn K (.ref f26) = true)
    (g_FIGURES : PySem.W.nsIn K mainGlobals "FIGURES" = some (some (.str "0123456789" t_FIGURES)))
    (g_SMALL : PySem.W.nsIn K mainGlobals "SMALL" = some (some (.str "abcdefghijklmnopqrstuvwxyz" t_SMALL)))
    (g_GREAT : PySem.W.nsIn K mainGlobals "GREAT" = some (some (.str "ABCDEFGHIJKLMNOPQRSTUVWXYZ" t_GREAT)))
    (g_AT_GREAT : PySem.W.nsIn K mainGlobals "AT_GREAT" = some (some (.int 5 t_AT_GREAT)))
    (g_MARKS : PySem.W.nsIn K mainGlobals "MARKS" = some (some (.str "_-./" t_MARKS)))
    (g_BEHIND_MARK : PySem.W.nsIn K mainGlobals "BEHIND_MARK" = some (some (.int 6 t_BEHIND_MARK)))
    (g_AT_BEGINNING : PySem.W.nsIn K mainGlobals "AT_BEGINNING" = some (some (.int 8 t_AT_BEGINNING)))
    (g_EACH_PLACE : PySem.W.nsIn K mainGlobals "EACH_PLACE" = some (some (.int 10 t_EACH_PLACE)))
    (g_SAME_SIGN : PySem.W.nsIn K mainGlobals "SAME_SIGN" = some (some (.int 1 t_SAME_SIGN)))
    (g_BESIDE : PySem.W.nsIn K mainGlobals "BESIDE" = some (some (.int 7 t_BESIDE)))
    (g_MOST_BETWEEN : PySem.W.nsIn K mainGlobals "MOST_BETWEEN" = some (some (.int 5 t_MOST_BETWEEN)))
    (g_MOST_AHEAD : PySem.W.nsIn K mainGlobals "MOST_AHEAD" = some (some (.int 3 t_MOST_AHEAD)))
    (z_len : PySem.W.nsIn K mainGlobals "len" = some none)
    (z_range : PySem.W.nsIn K mainGlobals "range" = some none)
    (z_min : PySem.W.nsIn K mainGlobals "min" = some none)
    (z_max : PySem.W.nsIn K mainGlobals "max" = some none)
    (z_enumerate : PySem.W.nsIn K mainGlobals "enumerate" = some none)
    (z_sorted : PySem.W.nsIn K mainGlobals "sorted" = some none)
    (z_list : PySem.W.nsIn K mainGlobals "list" = some none)
    (z_zip : PySem.W.nsIn K mainGlobals "zip" = some none)
    : TabsIn K ∧ ∃ fd : FuncData, (∀ (s : Shared) (v : Value), BindsTo s fd ⟨[v], []⟩ [("_law_script", v)]) ∧ ∀ base : Heap, K.In base → base.Ns mainGlobals mg → BM mg base → FnOk l.prog w K mg base CX0 8 fa fd ["_law_script"] (spLaw K) := by
  have e := hfa.symm.trans (PySem.W.mg_of X G a26)
  cases e
  refine ⟨fun r hr => ?_, ?_⟩
  · rcases hr with _ | ⟨_, hr⟩
    · exact ⟨_, tb20⟩
    rcases hr with _ | ⟨_, hr⟩
    · exact ⟨_, tb18⟩
    · cases hr
  have D0 : DefAt K mg "_law_cell" s__law_cell f0 _ := ⟨fun_mk (st := s__law_cell) l0 c0 k0, PySem.W.mg_of X G a0⟩
  have D1 : DefAt K mg "_law_drawn" s__law_drawn f1 _ := ⟨fun_mk (st := s__law_drawn) l1 c1 k1, PySem.W.mg_of X G a1⟩
  have D2 : DefAt K mg "_law_name" s__law_name f2 _ := ⟨fun_mk (st := s__law_name) l2 c2 k2, PySem.W.mg_of X G a2⟩
  have D3 : DefAt K mg "_law_names" s__law_names f3 _ := ⟨fun_mk (st := s__law_names) l3 c3 k3, PySem.W.mg_of X G a3⟩
  have D4 : DefAt K mg "_law_mark" s__law_mark f4 _ := ⟨fun_mk (st := s__law_mark) l4 c4 k4, PySem.W.mg_of X G a4⟩
  have D5 : DefAt K mg "_law_query" s__law_query f5 _ := ⟨fun_mk (st := s__law_query) l5 c5 k5, PySem.W.mg_of X G a5⟩
  have D6 : DefAt K mg "beginning_points" s_beginning_points f6 _ := ⟨fun_mk (st := s_beginning_points) l6 c6 k6, PySem.W.mg_of X G a6⟩
  have D7 : DefAt K mg "own_points" s_own_points f7 _ := ⟨fun_mk (st := s_own_points) l7 c7 k7, PySem.W.mg_of X G a7⟩
  have D8 : DefAt K mg "meets" s_meets f8 _ := ⟨fun_mk (st := s_meets) l8 c8 k8, PySem.W.mg_of X G a8⟩
  have D9 : DefAt K mg "most_of_sign" s_most_of_sign f9 _ := ⟨fun_mk (st := s_most_of_sign) l9 c9 k9, PySem.W.mg_of X G a9⟩
  have D10 : DefAt K mg "bound" s_bound f10 _ := ⟨fun_mk (st := s_bound) l10 c10 k10, PySem.W.mg_of X G a10⟩
  have D11 : DefAt K mg "last_sign_tails" s_last_sign_tails f11 _ := ⟨fun_mk (st := s_last_sign_tails) l11 c11 k11, PySem.W.mg_of X G a11⟩
  have D12 : DefAt K mg "first_of_most" s_first_of_most f12 _ := ⟨fun_mk (st := s_first_of_most) l12 c12 k12, PySem.W.mg_of X G a12⟩
  have D13 : DefAt K mg "link_points" s_link_points f13 _ := ⟨fun_mk (st := s_link_points) l13 c13 k13, PySem.W.mg_of X G a13⟩
  have D14 : DefAt K mg "linked_tails" s_linked_tails f14 _ := ⟨fun_mk (st := s_linked_tails) l14 c14 k14, PySem.W.mg_of X G a14⟩
  have D15 : DefAt K mg "longer_tails" s_longer_tails f15 _ := ⟨fun_mk (st := s_longer_tails) l15 c15 k15, PySem.W.mg_of X G a15⟩
  have D16 : DefAt K mg "lead_points" s_lead_points f16 _ := ⟨fun_mk (st := s_lead_points) l16 c16 k16, PySem.W.mg_of X G a16⟩
  have D17 : DefAt K mg "best" s_best f17 _ := ⟨fun_mk (st := s_best) l17 c17 k17, PySem.W.mg_of X G a17⟩
  have D18 : DefAtL K mg "by_bounds" s_by_bounds f18 cc18 127 := ⟨⟨_, _, _, _, _, _, _, _, l18⟩, c18, k18, PySem.W.mg_of X G a18, tb18⟩
  have D19 : DefAt K mg "are_enough" s_are_enough f19 _ := ⟨fun_mk (st := s_are_enough) l19 c19 k19, PySem.W.mg_of X G a19⟩
  have D20 : DefAtL K mg "in_order" s_in_order f20 cc20 87 := ⟨⟨_, _, _, _, _, _, _, _, l20⟩, c20, k20, PySem.W.mg_of X G a20, tb20⟩
  have D21 : DefAt K mg "first_rows" s_first_rows f21 _ := ⟨fun_mk (st := s_first_rows) l21 c21 k21, PySem.W.mg_of X G a21⟩
  have D22 : DefAt K mg "fitting_rows" s_fitting_rows f22 _ := ⟨fun_mk (st := s_fitting_rows) l22 c22 k22, PySem.W.mg_of X G a22⟩
  have D23 : DefAt K mg "found_by_bound" s_found_by_bound f23 _ := ⟨fun_mk (st := s_found_by_bound) l23 c23 k23, PySem.W.mg_of X G a23⟩
  have D24 : DefAt K mg "all_rows" s_all_rows f24 _ := ⟨fun_mk (st := s_all_rows) l24 c24 k24, PySem.W.mg_of X G a24⟩
  have D25 : DefAt K mg "finds" s_finds f25 _ := ⟨fun_mk (st := s_finds) l25 c25 k25, PySem.W.mg_of X G a25⟩
  refine ⟨PySem.W.fnOf "law" "law" (defArgs s_law) (defBody s_law) (defScope s_law) .none kV26 dc26 pm26 an26 cd26 ct26, fun s v => .of_eq rfl, fun base _ _ bm => ?_⟩
  have h__law_cell : DefOk l.prog w K mg base "_law_cell" 1 2 ["_law_script", "_law_k"] m__law_cell := ok__law_cell D0 (PySem.W.mg_none_of X G z_len)
  have h__law_drawn : DefOk l.prog w K mg base "_law_drawn" 2 3 ["_law_script", "_law_k", "_law_many"] m__law_drawn := ok__law_drawn D1 h__law_cell
  have h__law_name : DefOk l.prog w K mg base "_law_name" 3 2 ["_law_script", "_law_at"] m__law_name := ok__law_name D2 h__law_drawn (PySem.W.mg_none_of X G z_range)
  have h__law_names : DefOk l.prog w K mg base "_law_names" 4 3 ["_law_script", "_law_at", "_law_most"] m__law_names := ok__law_names D3 h__law_drawn h__law_name (PySem.W.mg_none_of X G z_len) (PySem.W.mg_none_of X G z_range)
  have h__law_mark : DefOk l.prog w K mg base "_law_mark" 1 1 ["_law_sign"] m__law_mark := ok__law_mark D4
  have h__law_query : DefOk l.prog w K mg base "_law_query" 3 4 ["_law_script", "_law_at", "_law_name_here", "_law_most"] m__law_query := ok__law_query D5 h__law_drawn h__law_mark (PySem.W.mg_none_of X G z_range) (PySem.W.mg_none_of X G z_len) (PySem.W.mg_none_of X G z_min)
  have h_beginning_points : DefOk l.prog w K mg base "beginning_points" 1 2 ["name", "place"] m_beginning_points := ok_beginning_points D6 (PySem.W.mg_of X G g_FIGURES) (PySem.W.mg_of X G g_SMALL) (PySem.W.mg_of X G g_GREAT) (PySem.W.mg_of X G g_AT_GREAT) (PySem.W.mg_of X G g_MARKS) (PySem.W.mg_of X G g_BEHIND_MARK) (PySem.W.mg_of X G g_AT_BEGINNING)
  have h_own_points : DefOk l.prog w K mg base "own_points" 2 3 ["sign", "name", "place"] m_own_points := ok_own_points D7 h_beginning_points (PySem.W.mg_of X G g_EACH_PLACE) (PySem.W.mg_of X G g_SAME_SIGN)
  have h_meets : DefOk l.prog w K mg base "meets" 1 2 ["sign", "other"] m_meets := ok_meets D8 (PySem.W.mg_of X G g_SMALL)
  have h_most_of_sign : DefOk l.prog w K mg base "most_of_sign" 3 2 ["sign", "name"] m_most_of_sign := ok_most_of_sign D9 h_meets h_own_points (PySem.W.mg_none_of X G z_len) (PySem.W.mg_none_of X G z_range) (PySem.W.mg_none_of X G z_max)
  have h_bound : DefOk l.prog w K mg base "bound" 4 2 ["query", "name"] m_bound := ok_bound D10 h_most_of_sign (PySem.W.mg_of X G g_BESIDE) (PySem.W.mg_none_of X G z_enumerate)
  have h_last_sign_tails : DefOk l.prog w K mg base "last_sign_tails" 3 2 ["sign", "name"] m_last_sign_tails := ok_last_sign_tails D11 h_meets h_own_points (PySem.W.mg_none_of X G z_len) (PySem.W.mg_none_of X G z_range)
  have h_first_of_most : DefOk l.prog w K mg base "first_of_most" 1 1 ["tails"] m_first_of_most := ok_first_of_most D12
  have h_link_points : DefOk l.prog w K mg base "link_points" 1 2 ["ahead", "place"] m_link_points := ok_link_points D13 (PySem.W.mg_of X G g_MOST_BETWEEN) (PySem.W.mg_of X G g_BESIDE) (PySem.W.mg_none_of X G z_min)
  have h_linked_tails : DefOk l.prog w K mg base "linked_tails" 2 2 ["place", "tails"] m_linked_tails := ok_linked_tails D14 h_link_points
  have h_longer_tails : DefOk l.prog w K mg base "longer_tails" 3 3 ["sign", "name", "tails"] m_longer_tails := ok_longer_tails D15 h_meets h_own_points h_linked_tails h_first_of_most (PySem.W.mg_none_of X G z_len) (PySem.W.mg_none_of X G z_range)
  have h_lead_points : DefOk l.prog w K mg base "lead_points" 1 1 ["place"] m_lead_points := ok_lead_points D16 (PySem.W.mg_of X G g_MOST_AHEAD) (PySem.W.mg_none_of X G z_min)
  have h_best : DefOk l.prog w K mg base "best" 4 2 ["query", "name"] m_best := ok_best D17 h_lead_points h_first_of_most h_longer_tails h_last_sign_tails (PySem.W.mg_none_of X G z_len) (PySem.W.mg_none_of X G z_range)
  have h_by_bounds : DefOk l.prog w K mg base "by_bounds" 5 2 ["names", "query"] m_by_bounds := ok_by_bounds D18 bm h_bound (PySem.W.mg_none_of X G z_sorted) (PySem.W.mg_none_of X G z_enumerate)
  have h_are_enough : DefOk l.prog w K mg base "are_enough" 1 3 ["rows", "many", "limit"] m_are_enough := ok_are_enough D19 (PySem.W.mg_none_of X G z_len)
  have h_in_order : DefOk l.prog w K mg base "in_order" 4 2 ["names", "rows"] m_in_order := ok_in_order D20 bm (PySem.W.mg_none_of X G z_len) (PySem.W.mg_none_of X G z_sorted)
  have h_first_rows : DefOk l.prog w K mg base "first_rows" 5 3 ["names", "rows", "many"] m_first_rows := ok_first_rows D21 h_in_order (PySem.W.mg_none_of X G z_max)
  have h_fitting_rows : DefOk l.prog w K mg base "fitting_rows" 5 3 ["names", "query", "numbers"] m_fitting_rows := ok_fitting_rows D22 h_best
  have h_found_by_bound : DefOk l.prog w K mg base "found_by_bound" 6 3 ["names", "query", "many"] m_found_by_bound := ok_found_by_bound D23 h_first_rows h_by_bounds h_fitting_rows h_are_enough
  have h_all_rows : DefOk l.prog w K mg base "all_rows" 6 2 ["names", "query"] m_all_rows := ok_all_rows D24 h_fitting_rows (PySem.W.mg_none_of X G z_len) (PySem.W.mg_none_of X G z_list) (PySem.W.mg_none_of X G z_range)
  have h_finds : DefOk l.prog w K mg base "finds" 7 3 ["names", "query", "many"] m_finds := ok_finds D25 h_all_rows h_first_rows
  exact law_fn (ok_law (fun_mk (st := s_law) l26 c26 k26) h_finds h_found_by_bound h_best h_bound h__law_drawn h__law_query h__law_names (PySem.W.mg_none_of X G z_len) (PySem.W.mg_none_of X G z_range) (PySem.W.mg_none_of X G z_zip)) hl
end Law
open PySem PySem.W PyProof.Rows
set_option maxRecDepth 100000 in
set_option maxHeartbeats 0 in
theorem PySem.Challenge.cw_fewfind_k51_whole_bounds_holds : PySem.Challenge.rw_fewfind_k51_whole_bounds.Holds := by
  w_on; o_law; k_head; (case hw => w_witness2)
  k_fill
  refine FD.walkM (l := PySem.Challenge.rw_fewfind_k51_whole_bounds) (k := 8) (p := "_law_script") rfl rfl ⟨rfl, by decide, by decide⟩ ?T ?F
  case F =>
    intro w mg fa h KX G hmg
    refine' Law.all_mk KX G hmg Law.main ?a0 ?l0 ?c0 ?k0 ?a1 ?l1 ?c1 ?k1 ?a2 ?l2 ?c2 ?k2 ?a3 ?l3 ?c3 ?k3 ?a4 ?l4 ?c4 ?k4 ?a5 ?l5 ?c5 ?k5 ?a6 ?l6 ?c6 ?k6 ?a7 ?l7 ?c7 ?k7 ?a8 ?l8 ?c8 ?k8 ?a9 ?l9 ?c9 ?k9 ?a10 ?l10 ?c10 ?k10 ?a11 ?l11 ?c11 ?k11 ?a12 ?l12 ?c12 ?k12 ?a13 ?l13 ?c13 ?k13 ?a14 ?l14 ?c14 ?k14 ?a15 ?l15 ?c15 ?k15 ?a16 ?l16 ?c16 ?k16 ?a17 ?l17 ?c17 ?k17 ?a18 ?l18 ?c18 ?k18 ?tb18 ?a19 ?l19 ?c19 ?k19 ?a20 ?l20 ?c20 ?k20 ?tb20 ?a21 ?l21 ?c21 ?k21 ?a22 ?l22 ?c22 ?k22 ?a23 ?l23 ?c23 ?k23 ?a24 ?l24 ?c24 ?k24 ?a25 ?l25 ?c25 ?k25 ?a26 ?l26 ?c26 ?k26 ?g_FIGURES ?g_SMALL ?g_GREAT ?g_AT_GREAT ?g_MARKS ?g_BEHIND_MARK ?g_AT_BEGINNING ?g_EACH_PLACE ?g_SAME_SIGN ?g_BESIDE ?g_MOST_BETWEEN ?g_MOST_AHEAD ?z_len ?z_range ?z_min ?z_max ?z_enumerate ?z_sorted ?z_list ?z_zip
    (case a0 => k_is)
    (case l0 => k_is)
    (case c0 => k_is)
    (case k0 => k_is)
    (case a1 => k_is)
    (case l1 => k_is)
    (case c1 => k_is)
    (case k1 => k_is)
    (case a2 => k_is)
    (case l2 => k_is)
    (case c2 => k_is)
    (case k2 => k_is)
    (case a3 => k_is)
    (case l3 => k_is)
    (case c3 => k_is)
    (case k3 => k_is)
    (case a4 => k_is)
    (case l4 => k_is)
    (case c4 => k_is)
    (case k4 => k_is)
    (case a5 => k_is)
    (case l5 => k_is)
    (case c5 => k_is)
    (case k5 => k_is)
    (case a6 => k_is)
    (case l6 => k_is)
    (case c6 => k_is)
    (case k6 => k_is)
    (case a7 => k_is)
    (case l7 => k_is)
    (case c7 => k_is)
    (case k7 => k_is)
    (case a8 => k_is)
    (case l8 => k_is)
    (case c8 => k_is)
    (case k8 => k_is)
    (case a9 => k_is)
    (case l9 => k_is)
    (case c9 => k_is)
    (case k9 => k_is)
    (case a10 => k_is)
    (case l10 => k_is)
    (case c10 => k_is)
    (case k10 => k_is)
    (case a11 => k_is)
    (case l11 => k_is)
    (case c11 => k_is)
    (case k11 => k_is)
    (case a12 => k_is)
    (case l12 => k_is)
    (case c12 => k_is)
    (case k12 => k_is)
    (case a13 => k_is)
    (case l13 => k_is)
    (case c13 => k_is)
    (case k13 => k_is)
    (case a14 => k_is)
    (case l14 => k_is)
    (case c14 => k_is)
    (case k14 => k_is)
    (case a15 => k_is)
    (case l15 => k_is)
    (case c15 => k_is)
    (case k15 => k_is)
    (case a16 => k_is)
    (case l16 => k_is)
    (case c16 => k_is)
    (case k16 => k_is)
    (case a17 => k_is)
    (case l17 => k_is)
    (case c17 => k_is)
    (case k17 => k_is)
    (case a18 => k_is)
    (case l18 => k_is)
    (case c18 => k_is)
    (case k18 => k_is)
    (case tb18 => with_unfolding_all rfl)
    (case a19 => k_is)
    (case l19 => k_is)
    (case c19 => k_is)
    (case k19 => k_is)
    (case a20 => k_is)
    (case l20 => k_is)
    (case c20 => k_is)
    (case k20 => k_is)
    (case tb20 => with_unfolding_all rfl)
    (case a21 => k_is)
    (case l21 => k_is)
    (case c21 => k_is)
    (case k21 => k_is)
    (case a22 => k_is)
    (case l22 => k_is)
    (case c22 => k_is)
    (case k22 => k_is)
    (case a23 => k_is)
    (case l23 => k_is)
    (case c23 => k_is)
    (case k23 => k_is)
    (case a24 => k_is)
    (case l24 => k_is)
    (case c24 => k_is)
    (case k24 => k_is)
    (case a25 => k_is)
    (case l25 => k_is)
    (case c25 => k_is)
    (case k25 => k_is)
    (case a26 => k_is)
    (case l26 => k_is)
    (case c26 => k_is)
    (case k26 => k_is)
    (case g_FIGURES => k_is)
    (case g_SMALL => k_is)
    (case g_GREAT => k_is)
    (case g_AT_GREAT => k_is)
    (case g_MARKS => k_is)
    (case g_BEHIND_MARK => k_is)
    (case g_AT_BEGINNING => k_is)
    (case g_EACH_PLACE => k_is)
    (case g_SAME_SIGN => k_is)
    (case g_BESIDE => k_is)
    (case g_MOST_BETWEEN => k_is)
    (case g_MOST_AHEAD => k_is)
    (case z_len => k_is)
    (case z_range => k_is)
    (case z_min => k_is)
    (case z_max => k_is)
    (case z_enumerate => k_is)
    (case z_sorted => k_is)
    (case z_list => k_is)
    (case z_zip => k_is)
  case T => decide
