import PyProof.Rows.All
import Wide.All
import OpenK.AllK
import Wide.FinOn
import Lean
import PyProof.EqAt
import PyProof.EqKinds
import PyProof.TupleCall
import PyProof.NeKinds
import PyProof.NeData
import PyProof.P3In
import PyProof.ZipIter
import PyProof.Draws
import PyProof.StrWalks
import PyProof.IsiPairs
import PyProof.IsiSeqPairs
import PyProof.ConsumeWalk
import PyProof.ListStr
import PyProof.IsiHeapPairs
import PyProof.Rows.Range3
import PyProof.IsiNone
import KE.KRevIter
import KE.KRevSl
import PyProof.Conv_int_bool
import PyProof.ListRange
import PyProof.TupleOfSeq
import PyProof.MinMaxWalk
import PyProof.WalkInts
import PyProof.SeqI3
import PyProof.SetKind
import PyProof.Rows.SetFrom
import PyProof.CollectWalk
import PyProof.FactsAll.set
import PyProof.Rows.SortWalk
import PyProof.Rows.SortShell
import PyProof.Rows.SumAny
import PyProof.DictWalks
import PyProof.Rows.SortRev
import PyProof.Rows.SortStr
import PyProof.AttrMissHeap
import KE.KDictOf
import PySem.Challenge.RW_fewfind_k41_whole_shown
set_option Elab.async false
set_option linter.all false
set_option maxRecDepth 100000
namespace L2
open PySem PySem.Spec PyProof.Rows
abbrev Key := Sum Int Str
def keyIs : Key → Value → Bool
  | .inl k, v => Value.isInt k v
  | .inr x, v => Value.isStrOf x v
def keyH (w : World) : Key → Int
  | .inl k => hashInt k
  | .inr x => hashStr w x
theorem keyIs_shape : ∀ {k : Key} {v : Value}, keyIs k v = true → (∃ i t, k = Sum.inl i ∧ v = Value.int i t) ∨ (∃ x t, k = Sum.inr x ∧ v = Value.str x t)
  | .inl i, v, h => by
    obtain ⟨t, e⟩ := Value.isInt_shape (k := i) (v := v) h
    exact .inl ⟨i, t, rfl, e⟩
  | .inr x, v, h => by
    obtain ⟨t, e⟩ := Value.isStrOf_shape (x := x) (v := v) h
    exact .inr ⟨x, t, rfl, e⟩
theorem key_ll (a b : Int) : decide ((Sum.inl a : Key) = Sum.inl b) = (a == b) := by
  by_cases e : a = b
  · subst e; simp
  · have h : ¬ (Sum.inl a : Key) = Sum.inl b := fun q => e (Sum.inl.inj q)
    rw [decide_eq_false h]
    exact (beq_eq_false_iff_ne.mpr e).symm
theorem key_rr (a b : Str) : decide ((Sum.inr a : Key) = Sum.inr b) = decide (a = b) := by
  by_cases e : a = b
  · subst e; simp
  · have h : ¬ (Sum.inr a : Key) = Sum.inr b := fun q => e (Sum.inr.inj q)
    rw [decide_eq_false h, decide_eq_false e]
theorem key_lr (a : Int) (b : Str) : decide ((Sum.inl a : Key) = Sum.inr b) = false := decide_eq_false (fun q => nomatch q)
theorem key_rl (a : Str) (b : Int) : decide ((Sum.inr a : Key) = Sum.inl b) = false := decide_eq_false (fun q => nomatch q)
def mixKind (prog : Program) (w : World) : PySem.KeyKind prog w Key where
  is := keyIs
  hash := keyH w
  inj := fun v a b ha hb => by
    rcases keyIs_shape ha with ⟨i, t, rfl, rfl⟩ | ⟨x, t, rfl, rfl⟩
    · rcases keyIs_shape hb with ⟨j, u, rfl, e⟩ | ⟨y, u, rfl, e⟩
      · injection e with e1 _; rw [e1]
      · exact nomatch e
    · rcases keyIs_shape hb with ⟨j, u, rfl, e⟩ | ⟨y, u, rfl, e⟩
      · exact nomatch e
      · injection e with e1 _; rw [e1]
  byValue := fun k v h => by
    rcases keyIs_shape h with ⟨i, t, rfl, rfl⟩ | ⟨x, t, rfl, rfl⟩ <;> rfl
  pyHash := fun hv h => by
    rcases keyIs_shape hv with ⟨i, t, rfl, rfl⟩ | ⟨x, t, rfl, rfl⟩
    · exact wpAny_pyHash_int h
    · exact wpAny_pyHash_str h
  eqBool := fun hu hv h => by
    rcases keyIs_shape hu with ⟨i, t, rfl, rfl⟩ | ⟨x, t, rfl, rfl⟩
    · rcases keyIs_shape hv with ⟨j, u, rfl, rfl⟩ | ⟨y, u, rfl, rfl⟩
      · rw [key_ll] at h; exact wpAny_eqBool_int h
      · rw [key_lr] at h; exact SeqAt.EqAt.int_str i t y u _ _ _ _ h
    · rcases keyIs_shape hv with ⟨j, u, rfl, rfl⟩ | ⟨y, u, rfl, rfl⟩
      · rw [key_rl] at h; exact SeqAt.EqAt.str_int x t j u _ _ _ _ h
      · rw [key_rr] at h; exact wpAny_eqBool_str h
  «strs» := fun k x t v h => by
    rcases keyIs_shape h with ⟨i, u, rfl, e⟩ | ⟨y, u, rfl, e⟩
    · exact nomatch e
    · injection e with e1 _
      subst e1
      cases v <;> rfl
end L2
namespace L2
open PySem PySem.Spec PyProof.Rows
inductive V where
  | non | bl (b : Bool) | int (i : Int) | str (x : Str) | byt (b : Array UInt8) | flt (b : UInt64) | ref (a : Addr) | ty (n : String)
  deriving DecidableEq
def RelV : V → Value → Prop
  | .non, u => u = Value.none
  | .bl b, u => u = Value.bool b
  | .int i, u => ∃ t, u = Value.int i t
  | .str x, u => ∃ t, u = Value.str x t
  | .byt b, u => ∃ t, u = Value.bytes b t
  | .flt b, u => ∃ t, u = Value.float b t
  | .ref a, u => u = Value.ref a
  | .ty n, u => u = Value.type n
abbrev Vals : List V → List Value → Prop := Paired RelV
theorem Vals.length {xs : List V} {us : List Value} (r : Vals xs us) : xs.length = us.length := Paired.length r
theorem Vals.get : ∀ {xs : List V} {us : List Value} {i : Nat} {x : V}, Vals xs us → xs[i]? = some x → ∃ u, us[i]? = some u ∧ RelV x u
  | _, _, _, _, .nil, e => by simp at e
  | _, _, 0, _, .cons r _, e => by simp at e; subst e; exact ⟨_, rfl, r⟩
  | _, _, i + 1, x, .cons _ t, e => by
    obtain ⟨u, h1, h2⟩ := Vals.get (i := i) (x := x) t (by simpa using e)
    exact ⟨u, by simpa using h1, h2⟩
theorem Vals.set {x : V} {u : Value} (r : RelV x u) : ∀ {xs : List V} {us : List Value} (i : Nat), Vals xs us → Vals (xs.set i x) (us.set i u)
  | _, _, _, .nil => .nil
  | _, _, 0, .cons _ t => .cons r t
  | _, _, i + 1, .cons q t => .cons q (Vals.set r i t)
theorem Vals.append : ∀ {xs ys : List V} {us ws : List Value}, Vals xs us → Vals ys ws → Vals (xs ++ ys) (us ++ ws)
  | _, _, _, _, .nil, s => s
  | _, _, _, _, .cons r t, s => .cons r (Vals.append t s)
theorem Vals.take : ∀ {xs : List V} {us : List Value} (n : Nat), Vals xs us → Vals (xs.take n) (us.take n)
  | _, _, 0, _ => .nil
  | _, _, _ + 1, .nil => .nil
  | _, _, n + 1, .cons r t => .cons r (Vals.take n t)
theorem Vals.drop : ∀ {xs : List V} {us : List Value} (n : Nat), Vals xs us → Vals (xs.drop n) (us.drop n)
  | _, _, 0, r => r
  | _, _, _ + 1, .nil => .nil
  | _, _, n + 1, .cons _ t => Vals.drop n t
def RelO : Option V → Option Value → Prop
  | some v, some u => RelV v u
  | none, none => True
  | _, _ => False
def KV {κ : Type} : List (κ × V) → List (κ × Value) → Prop := Paired fun (p : κ × V) (q : κ × Value) => p.1 = q.1 ∧ RelV p.2 q.2
def kV : Key → V
  | .inl i => .int i
  | .inr x => .str x
inductive HO where
  | lst (xs : List V)
  | tup (xs : List V)
  | dK (kvs : List (Key × V)) | dT (kvs : List (List Key × V))
  | set (S : Int → Bool) (n : Nat)
  | ins (C dx : Addr) (fs : List (Str × V))
  | own (x : Addr)
  | xd (fs : List (Str × V))
  | met (f x : Addr)
  | rng (lo hi : Int)
  | frz (o : Obj) (u : HO)
  | tbl (ps : Array Value)
  | ext (φ : Heap → Prop)
abbrev Hp := Addr → Option HO
def upd (H : Hp) (a : Addr) (o : HO) : Hp := fun b => if b = a then some o else H b
theorem upd_same {H : Hp} {a : Addr} {o : HO} : upd H a o a = some o := by unfold upd; rw [if_pos rfl]
theorem upd_ne {H : Hp} {a b : Addr} {o : HO} (h : b ≠ a) : upd H a o b = H b := by unfold upd; rw [if_neg h]
theorem ne_of_none {H : Hp} {a b : Addr} {o : HO} (h : H a = some o) (h' : H b = none) : a ≠ b := by
  intro e; subst e; rw [h] at h'; cases h'
section
variable (P : Program) (w : World)
def ObjOk (H : Hp) (h : Heap) (a : Addr) : HO → Prop
  | .lst xs => xs.length ≤ sizeLine ∧ ∃ (its : List Value) (n : Nat), Vals xs its ∧ h.get? a = some { cls := .type "list", data := .seq its.toArray n }
  | .tup xs => xs.length ≤ sizeLine ∧ ∃ its : List Value, Vals xs its ∧ IsTup h a its.toArray
  | .dK kvs => kvs.length ≤ sizeLine ∧ (a == sysModules) = false ∧ ∃ vs, KV kvs vs ∧ h.DictOf (mixKind P w) a vs
  | .dT kvs => kvs.length ≤ sizeLine ∧ (a == sysModules) = false ∧ ∃ xs : List (List Key × Addr × Value),
      Paired (fun (p : List Key × V) (q : List Key × Addr × Value) => p.1 = q.1 ∧ H q.2.1 = some (.tup (p.1.map kV)) ∧ RelV p.2 q.2.2) kvs xs ∧
      ∃ o es ep, h.get? a = some o ∧ o.ExactDict ∧ o.data = .dict es ep ∧ es.toList = xs.map (entryOfKey (tupleKind (mixKind P w))) ∧ (xs.map (·.1)).Nodup
  | .set S n => h.SetOf (intKind P w) a S n
  | .ins C dx fs => H dx = some (.own a) ∧ fs.length ≤ 1000 ∧ dx ≠ a ∧ h.get? a = some (PySem.W.instObj C dx) ∧
      ∃ mA, h.Ns1 dx mA ∧ (∀ f, RelO (fs.lookup f) (mA f)) ∧ PySem.Within mA (fs.map (·.1))
  | .own _ => ∃ o, h.get? a = some o
  | .xd fs => ∃ mA, h.Ns1 a mA ∧ ∀ f, RelO (fs.lookup f) (mA f)
  | .rng lo hi => ∃ t u v, h.get? a = some { cls := .type "range", data := .fields #[.int lo t, .int hi u, .int 1 v] }
  | .frz o u => h.get? a = some o ∧ ObjOk H h a u
  | .tbl ps => h.get? a = some { cls := .none, data := .fields ps }
  | .met f x => h.get? a = some (PySem.W.methodObj (.ref f) (.ref x))
  | .ext φ => φ h ∧ (∃ o, h.get? a = some o) ∧ ∀ h1 h2 : Heap, φ h1 → (∀ o, h1.get? a = some o → h2.get? a = some o) → φ h2
def HOk (H : Hp) (h : Heap) : Prop := ∀ a o, H a = some o → ObjOk P w H h a o
end
section
variable {P : Program} {w : World} {H H' : Hp} {h h' : Heap} {a : Addr} {o : HO}
theorem ObjOk.lt (x : ObjOk P w H h a o) : a < h.objs.size := by
  cases o with
  | lst xs => obtain ⟨_, _, _, _, e⟩ := x; exact Heap.lt_size e
  | tup xs => obtain ⟨_, _, _, p⟩ := x; exact p.lt
  | dK kvs => obtain ⟨_, _, _, _, o, _, _, e, _⟩ := x; exact Heap.lt_size e
  | dT kvs => obtain ⟨_, _, _, _, o, _, _, e, _⟩ := x; exact Heap.lt_size e
  | set S n => obtain ⟨o, _, _, _, e, _⟩ := x; exact Heap.lt_size e
  | ins C dx fs => obtain ⟨_, _, _, e, _⟩ := x; exact Heap.lt_size e
  | own y => obtain ⟨_, e⟩ := x; exact Heap.lt_size e
  | xd fs => obtain ⟨_, ⟨_, _, _, e, _⟩, _⟩ := x; exact Heap.lt_size e
  | rng lo hi => obtain ⟨_, _, _, e⟩ := x; exact Heap.lt_size e
  | frz ob u => obtain ⟨e, _⟩ := x; exact Heap.lt_size e
  | tbl ps => exact Heap.lt_size (show h.get? a = some _ from x)
  | met f y => exact Heap.lt_size (show h.get? a = some _ from x)
  | ext φ => obtain ⟨_, ⟨_, e⟩, _⟩ := x; exact Heap.lt_size e
theorem Paired.mapP {α β : Type} {F G : α → β → Prop} : ∀ {l₁ : List α} {l₂ : List β}, Paired F l₁ l₂ → (∀ a b, F a b → G a b) → Paired G l₁ l₂
  | _, _, .nil, _ => .nil
  | _, _, .cons r t, f => .cons (f _ _ r) (Paired.mapP t f)
theorem ObjOk.stay (x : ObjOk P w H h a o) (k : ∀ b u, (b = a ∨ H b = some (.own a)) → h.get? b = some u → h'.get? b = some u)
    (ho : ∀ b, H b = some (.own a) → H' b = some (.own a)) (ht : ∀ b xs, H b = some (.tup xs) → H' b = some (.tup xs)) : ObjOk P w H' h' a o := by
  induction o with
  | lst xs => obtain ⟨z, its, n, r, e⟩ := x; exact ⟨z, its, n, r, k _ _ (.inl rfl) e⟩
  | tup xs => obtain ⟨z, its, r, ob, e, c⟩ := x; exact ⟨z, its, r, ob, k _ _ (.inl rfl) e, c⟩
  | dK kvs => obtain ⟨z, y, vs, r, ob, es, ep, e, c⟩ := x; exact ⟨z, y, vs, r, ob, es, ep, k _ _ (.inl rfl) e, c⟩
  | dT kvs =>
    obtain ⟨z, y, xs, r, ob, es, ep, e, c⟩ := x
    exact ⟨z, y, xs, Paired.mapP r fun p q z => ⟨z.1, ht _ _ z.2.1, z.2.2⟩, ob, es, ep, k _ _ (.inl rfl) e, c⟩
  | set S n => obtain ⟨ob, es, ep, t, e, c⟩ := x; exact ⟨ob, es, ep, t, k _ _ (.inl rfl) e, c⟩
  | ins C dx fs =>
    obtain ⟨d, z, ne, e, mA, ⟨od, es, ep, e2, c⟩, r⟩ := x
    exact ⟨ho _ d, z, ne, k _ _ (.inl rfl) e, mA, ⟨od, es, ep, k _ _ (.inr d) e2, c⟩, r⟩
  | own y => obtain ⟨ob, e⟩ := x; exact ⟨ob, k _ _ (.inl rfl) e⟩
  | xd fs => obtain ⟨mA, ⟨od, es, ep, e, c⟩, r⟩ := x; exact ⟨mA, ⟨od, es, ep, k _ _ (.inl rfl) e, c⟩, r⟩
  | rng lo hi => obtain ⟨t, u, v, e⟩ := x; exact ⟨t, u, v, k _ _ (.inl rfl) e⟩
  | frz ob u ih => obtain ⟨e, q⟩ := x; exact ⟨k _ _ (.inl rfl) e, ih q⟩
  | tbl ps =>
    have e : h.get? a = some { cls := .none, data := .fields ps } := x
    show h'.get? a = some { cls := .none, data := .fields ps }
    exact k a _ (.inl rfl) e
  | met f y =>
    have e : h.get? a = some (PySem.W.methodObj (.ref f) (.ref y)) := x
    show h'.get? a = some (PySem.W.methodObj (.ref f) (.ref y))
    exact k a _ (.inl rfl) e
  | ext φ => obtain ⟨p, ⟨o, e⟩, st⟩ := x; exact ⟨st _ _ p fun o q => k _ _ (.inl rfl) q, ⟨o, k _ _ (.inl rfl) e⟩, st⟩
theorem HOk.lt (x : HOk P w H h) (e : H a = some o) : a < h.objs.size := (x a o e).lt
theorem HOk.fresh (x : HOk P w H h) (e : h.objs.size ≤ a) : H a = none := by
  cases q : H a with
  | none => rfl
  | some u => exact absurd (Nat.lt_of_lt_of_le (x.lt q) e) (Nat.lt_irrefl _)
theorem HOk.kept (x : HOk P w H h) (k : ∀ b u, h.get? b = some u → h'.get? b = some u) : HOk P w H h' := fun a o e =>
  (x a o e).stay (fun b u _ q => k b u q) (fun _ q => q) fun _ _ q => q
theorem HOk.laid (x : HOk P w H h) (k : ∀ b u, h.get? b = some u → h'.get? b = some u) (hp : h.objs.size ≤ a) (new : ObjOk P w (upd H a o) h' a o) : HOk P w (upd H a o) h' := fun b u e => by
  have hn := x.fresh hp
  by_cases hb : b = a
  · subst hb; rw [upd_same] at e; cases e; exact new
  · rw [upd_ne hb] at e
    exact (x b u e).stay (fun c v _ q => k c v q) (fun c q => by rw [upd_ne (ne_of_none q hn)]; exact q) fun c xs q => by rw [upd_ne (ne_of_none q hn)]; exact q
end
def Rd (H : Hp) (a : Addr) (u : HO) : Prop := H a = some u ∨ ∃ o, H a = some (.frz o u)
theorem Rd.ok {P : Program} {w : World} {H : Hp} {h : Heap} {a : Addr} {u : HO} (r : Rd H a u) (x : HOk P w H h) : ObjOk P w H h a u := by
  rcases r with r | ⟨o, r⟩
  · exact x a u r
  · obtain ⟨_, q⟩ := x a _ r
    exact q
def Mut : Option HO → Prop
  | some (.lst _) => True
  | some (.dK _) => True
  | some (.dT _) => True
  | some (.set _ _) => True
  | some (.ins _ _ _) => True
  | some (.ext _) => True
  | _ => False
section
variable {P : Program} {w : World} {H : Hp} {h h' : Heap} {x e : Addr} {o' : HO}
theorem HOk.write (ok : HOk P w H h) (mu : Mut (H x)) (he : e = x ∨ H e = some (.own x)) (k : ∀ b u, b ≠ e → h.get? b = some u → h'.get? b = some u) (heo : ∃ u, h'.get? e = some u)
    (new : ObjOk P w (upd H x o') h' x o') : HOk P w (upd H x o') h' := fun b u q => by
  have nown : ∀ c y, H c = some (.own y) → c ≠ x := fun c y r z => by subst z; rw [r] at mu; exact mu
  have ntup : ∀ c xs, H c = some (.tup xs) → c ≠ x := fun c xs r z => by subst z; rw [r] at mu; exact mu
  by_cases hb : b = x
  · subst hb; rw [upd_same] at q; cases q; exact new
  · rw [upd_ne hb] at q
    by_cases hbe : b = e
    · have q' : H b = some (.own x) := by
        rcases he with z | z
        · exact absurd (hbe.trans z) hb
        · rw [hbe]; exact z
      rw [q] at q'; cases q'
      obtain ⟨v, hv⟩ := heo
      exact ⟨v, by rw [hbe]; exact hv⟩
    · refine (ok b u q).stay (fun c v hc r => k c v ?_ r) (fun c r => by rw [upd_ne (nown c b r)]; exact r) fun c xs r => by rw [upd_ne (ntup c xs r)]; exact r
      rcases hc with rfl | hc
      · exact hbe
      · rintro rfl
        rcases he with z | z
        · exact nown c b hc z
        · rw [hc] at z; cases z; exact hb rfl
end
structure Un (fs ex : List Addr) (H H' : Hp) (h h' : Heap) : Prop where
  keep : ∀ b o, h.get? b = some o → H b = none → b ∉ fs → b ∉ ex → h'.get? b = some o
  slot : ∀ b o, h.get? b = some o → H b = none → b ∈ fs → b ∉ ex → ∃ sl, h'.get? b = some { o with slots := sl }
  free : ∀ b o, h.get? b = some o → H b = none → b ∉ ex → H' b = none
  there : ∀ b o, h.get? b = some o → b ∉ ex → ∃ o', h'.get? b = some o'
  tups : ∀ b xs, H b = some (.tup xs) → H' b = some (.tup xs)
  frzs : ∀ b o u, H b = some (.frz o u) → H' b = some (.frz o u)
  tbls : ∀ b ps, H b = some (.tbl ps) → ∃ more, H' b = some (.tbl (ps ++ more))
section
variable {fs fs' ex ex' : List Addr} {H H1 H2 : Hp} {h h1 h2 h' : Heap} {a x e : Addr} {o : HO}
theorem Un.any (u : Un fs ex H H1 h h1) {b : Addr} {ob : Obj} (q : h.get? b = some ob) (n : H b = none) (hx : b ∉ ex) : ∃ sl, h1.get? b = some { ob with slots := sl } := by
  by_cases hb : b ∈ fs
  · exact u.slot b ob q n hb hx
  · exact ⟨ob.slots, u.keep b ob q n hb hx⟩
theorem Un.kept (k : ∀ b u, h.get? b = some u → h'.get? b = some u) : Un fs ex H H h h' :=
  ⟨fun b ob q _ _ _ => k b ob q, fun b ob q _ _ _ => ⟨ob.slots, k b ob q⟩, fun _ _ _ n _ => n, fun b ob q _ => ⟨ob, k b ob q⟩, fun _ _ q => q, fun _ _ _ q => q, fun _ ps q => ⟨#[], by rw [q]; simp⟩⟩
theorem Un.refl : Un fs ex H H h h := Un.kept fun _ _ q => q
theorem Un.laid (k : ∀ b u, h.get? b = some u → h'.get? b = some u) (hp : h.objs.size ≤ a) (hn : H a = none) : Un fs ex H (upd H a o) h h' where
  keep := fun b u q _ _ _ => k b u q
  slot := fun b u q _ _ _ => ⟨u.slots, k b u q⟩
  free := fun b u q n _ => by rw [upd_ne (Nat.ne_of_lt (Nat.lt_of_lt_of_le (Heap.lt_size q) hp))]; exact n
  there := fun b u q _ => ⟨u, k b u q⟩
  tups := fun b xs q => by rw [upd_ne (ne_of_none q hn)]; exact q
  frzs := fun b u xs q => by rw [upd_ne (ne_of_none q hn)]; exact q
  tbls := fun b ps q => ⟨#[], by rw [upd_ne (ne_of_none q hn), q]; simp⟩
theorem Un.write (mu : Mut (H x)) (he : e = x ∨ H e = some (.own x)) (k : ∀ b u, b ≠ e → h.get? b = some u → h'.get? b = some u) (heo : ∃ u, h'.get? e = some u) : Un fs ex H (upd H x o) h h' := by
  have hx : ∀ b, H b = none → b ≠ x := fun b n z => by subst z; rw [n] at mu; exact mu
  have hb : ∀ b, H b = none → b ≠ e := fun b n z => by
    subst z
    rcases he with r | r
    · exact hx b n r
    · rw [n] at r; cases r
  have hm : ∀ b u, H b = some u → ¬ Mut (some u) → b ≠ x := fun b u q nm z => by subst z; rw [q] at mu; exact nm mu
  refine ⟨fun b u q n _ _ => k b u (hb b n) q, fun b u q n _ _ => ⟨u.slots, k b u (hb b n) q⟩, fun b u q n _ => by rw [upd_ne (hx b n)]; exact n, fun b u q _ => ?_,
    fun b xs q => by rw [upd_ne (hm b _ q fun z => z)]; exact q, fun b u xs q => by rw [upd_ne (hm b _ q fun z => z)]; exact q, fun b ps q => ⟨#[], by rw [upd_ne (hm b _ q fun z => z), q]; simp⟩⟩
  by_cases hbe : b = e
  · subst hbe; exact heo
  · exact ⟨u, k b u hbe q⟩
end
def trk (h : Heap) (H : Hp) : List Addr := (List.range h.objs.size).filter fun a => (H a).isSome
def hidT (h : Heap) (H : Hp) : Heap := PySem.W.hideAll h (trk h H)
theorem hidT_size (h : Heap) (H : Hp) : (hidT h H).objs.size = h.objs.size := PySem.W.hideAll_size _ _
theorem hidT_get {h : Heap} {H : Hp} {b : Addr} {o : Obj} (e : h.get? b = some o) (n : H b = none) : (hidT h H).get? b = some o :=
  PySem.W.hideAll_get _ e fun hm => by
    have q : (H b).isSome = true := (List.mem_filter.mp hm).2
    rw [n] at q; simp at q
theorem of_hidT {h : Heap} {H : Hp} {b : Addr} {o : Obj} (e : (hidT h H).get? b = some o) : h.get? b = some o ∧ H b = none := by
  have e' : h.get? b = some o := PySem.W.of_hideAll (trk h H) e
  refine ⟨e', ?_⟩
  cases q : H b with
  | none => rfl
  | some x =>
    have hm : b ∈ trk h H := List.mem_filter.mpr ⟨List.mem_range.mpr (Heap.lt_size e'), by simp [q]⟩
    have z : (hidT h H).get? b = none := PySem.W.hideAll_none (trk h H) hm
    rw [z] at e; cases e
def allNews (g h : Heap) (L : Addr) : List (Addr × Obj) := (List.range h.objs.size).filterMap fun a => if a = L ∨ (g.get? a).isSome = true then none else (h.get? a).map fun o => (a, o)
def rest (g h : Heap) (L d : Addr) : List (Addr × Obj) := (allNews g h L).filter fun p => decide (p.1 ≠ d)
end L2
namespace L2
open PySem PySem.Spec PyProof.Rows
structure Mod (K : PySem.W.Frag) (mg : Str → Option Value) (base : Heap) : Prop where
  kin : K.In base
  glob : base.Ns mainGlobals mg
  blt : ∃ mb, base.Ns builtinsNs mb ∧ ∀ x : Str, x ≠ "__name__" → mb x = bootBuiltins x
  nolimit : base.NoLimit
structure Cx where
  prog : Program
  w : World
  K : PySem.W.Frag
  mg : Str → Option Value
  base : Heap
  A : Around
  N : List Str
  s₀ : Shared
  H₀ : Hp
  env : Env
  outer : List Env
  stack : List Env
  ex : List Addr
  fn : Str → Bool
  calm : Bool
  pn : List (Addr × Obj)
  xe : Value → Shared → Prop
def frs (l : List Env) : List Addr := l.filterMap (·.frame)
abbrev Cx.fs (X : Cx) : List Addr := frs X.outer
def Vis (sc : Scope) (x : Str) : Prop := sc.names.lookup x = some .local ∨ sc.names.lookup x = some .cell ∨ sc.names.lookup x = some .free
def Loc (sc : Scope) (x : Str) : Prop := sc.names.lookup x = some .local ∨ sc.names.lookup x = some .cell
def Look (env : Env) (h : Heap) (m : Str → Option Value) (x : Str) (u : Value) : Prop :=
  (env.kindOf x = some .local ∧ m x = some u) ∨ ((env.kindOf x = some .cell ∨ env.kindOf x = some .free) ∧ ∃ c, env.cells.lookup x = some c ∧ h.IsCell c (some u))
structure Cx.Ok (X : Cx) : Prop where
  mod : Mod X.K X.mg X.base
  kind : X.env.scope.kind = .function
  glob : X.env.globals = mainGlobals
  blt : X.env.builtins = builtinsNs
  above : X.s₀.heap.objs.size ≤ X.env.locals
  inj : ∀ x y c, X.env.cells.lookup x = some c → X.env.cells.lookup y = some c → x = y
  has : ∀ x, (X.env.kindOf x = some .cell ∨ X.env.kindOf x = some .free) → ∃ c, X.env.cells.lookup x = some c
  cab : ∀ x c, X.fn x = true → X.env.cells.lookup x = some c → X.s₀.heap.objs.size ≤ c
  hd : X.calm = true → X.A.handled = none
  frames : X.A.frames = some X.stack
  stk : X.stack = X.outer ∨ (X.stack = X.env :: X.outer ∧ X.env.frame = some X.env.locals)
  exf : ∀ b ∈ X.ex, b ≠ X.env.locals ∧ ∀ x c, X.env.cells.lookup x = some c → c ≠ b
  bs : ∀ b o, X.base.get? b = some o → X.s₀.heap.get? b = some o ∧ X.H₀ b = none
  bsz : X.base.objs.size ≤ X.s₀.heap.objs.size
  noex : ∀ b o, X.base.get? b = some o → b ∉ X.ex
  exfs : ∀ b ∈ X.ex, b ∉ X.fs
  funs : X.s₀.heap.FunFrames X.base X.outer
  frf : ∀ b ∈ X.fs, X.H₀ b = none
structure Inv (X : Cx) (pins : List (Addr × Obj)) (σ : List (Option V)) (H : Hp) (s : Shared) : Prop where
  ok : X.Ok
  os : s.os = X.s₀.os
  bare : AllBare s.gens
  base : Un X.fs X.ex X.H₀ H X.s₀.heap s.heap
  loc : ∃ m, s.heap.Ns X.env.locals m ∧ ∀ (i : Nat) (x : Str) (v : V), X.N[i]? = some x → σ[i]? = some (some v) → Vis X.env.scope x → ∃ u, RelV v u ∧ Look X.env s.heap m x u
  cell : ∀ x c, X.env.cells.lookup x = some c → ∃ v, s.heap.IsCell c v
  free : H X.env.locals = none
  freeC : ∀ x c, X.env.cells.lookup x = some c → H c = none
  pin : ∀ p ∈ X.pn ++ pins, s.heap.get? p.1 = some p.2 ∧ H p.1 = none ∧ p.1 ≠ X.env.locals ∧ p.1 ∉ X.fs ∧ ∀ v, p.2.data ≠ .cell v
  hok : HOk X.prog X.w H s.heap
  len : σ.length = X.N.length
section
variable {X : Cx} {pins : List (Addr × Obj)} {σ : List (Option V)} {H H' : Hp} {s : Shared} {h' : Heap}
theorem Cx.Ok.nofr (ok : X.Ok) {b : Addr} {o : Obj} (e : X.base.get? b = some o) : b ∉ X.fs := fun hb => by
  have := (ok.funs.mem hb).1
  rw [e] at this; cases this
theorem Inv.bs (I : Inv X pins σ H s) : ∀ b o, X.base.get? b = some o → s.heap.get? b = some o ∧ H b = none := fun b o e =>
  ⟨I.base.keep b o (I.ok.bs b o e).1 (I.ok.bs b o e).2 (I.ok.nofr e) (I.ok.noex b o e), I.base.free b o (I.ok.bs b o e).1 (I.ok.bs b o e).2 (I.ok.noex b o e)⟩
theorem Inv.bk (I : Inv X pins σ H s) : ∀ b o, X.base.get? b = some o → s.heap.get? b = some o := fun b o e => (I.bs b o e).1
theorem Inv.mod (I : Inv X pins σ H s) : Mod X.K X.mg X.base := I.ok.mod
theorem Inv.kIn (I : Inv X pins σ H s) : X.K.In s.heap := I.ok.mod.kin.keeps I.bk
theorem Inv.lt (I : Inv X pins σ H s) : X.env.locals < s.heap.objs.size := let ⟨_, hn, _⟩ := I.loc; hn.lt
theorem Inv.sz (I : Inv X pins σ H s) : X.s₀.heap.objs.size ≤ s.heap.objs.size := Nat.le_trans I.ok.above (Nat.le_of_lt I.lt)
theorem Inv.nofs (I : Inv X pins σ H s) {a : Addr} (h : s.heap.objs.size ≤ a) : a ∉ X.fs := fun hb => by
  obtain ⟨_, o, ho, _⟩ := I.ok.funs.mem hb
  exact absurd (Nat.lt_of_lt_of_le (Heap.lt_size ho) (Nat.le_trans I.sz h)) (Nat.lt_irrefl _)
theorem Inv.cne (I : Inv X pins σ H s) : ∀ x c, X.env.cells.lookup x = some c → c ≠ X.env.locals := fun x c e z => by
  obtain ⟨v, o, ho, hd⟩ := I.cell x c e
  obtain ⟨m, ⟨o', es, ep, ho', hd', _⟩, _⟩ := I.loc
  rw [z, ho'] at ho; cases ho; rw [hd'] at hd; cases hd
theorem Inv.funs (I : Inv X pins σ H s) : s.heap.FunFrames X.base X.outer := by
  have all : ∀ (l : List Env), (∀ b ∈ frs l, b ∈ X.fs) → X.s₀.heap.FunFrames X.base l → s.heap.FunFrames X.base l := by
    intro l
    induction l with
    | nil => intro _ _; trivial
    | cons env r ih =>
      intro hs hl
      obtain ⟨hk, ⟨L, o, hf, hn, ho, hd⟩, hr⟩ := hl
      have hL : L ∈ X.fs := hs L (by unfold frs; rw [List.filterMap_cons, hf]; exact List.mem_cons_self)
      obtain ⟨sl, e⟩ := I.base.slot L o ho (I.ok.frf L hL) hL fun z => I.ok.exfs L z hL
      exact ⟨hk, ⟨L, _, hf, hn, e, hd⟩, ih (fun b hb => hs b (by unfold frs; rw [List.filterMap_cons, hf]; exact List.mem_cons_of_mem _ hb)) hr⟩
  exact all X.outer (fun _ hb => hb) I.ok.funs
theorem Inv.stack (I : Inv X pins σ H s) : s.heap.FunFrames X.base X.stack := by
  rcases I.ok.stk with e | ⟨e, hf⟩
  · rw [e]; exact I.funs
  · rw [e]
    obtain ⟨m, hn, _⟩ := I.loc
    refine .cons (by rw [I.ok.kind]; decide) hf hn ?_ I.funs
    exact Heap.get?_none_of_le (Nat.le_trans I.ok.bsz I.ok.above)
theorem Inv.stkSub (I : Inv X pins σ H s) : ∀ b ∈ frs X.stack, b ∈ X.env.locals :: X.fs := fun b hb => by
  rcases I.ok.stk with e | ⟨e, hf⟩
  · rw [e] at hb; exact List.mem_cons_of_mem _ hb
  · rw [e] at hb
    unfold frs at hb
    rw [List.filterMap_cons, hf] at hb
    exact hb
theorem Inv.stkFree (I : Inv X pins σ H s) : ∀ b ∈ frs X.stack, H b = none := fun b hb => by
  rcases List.mem_cons.mp (I.stkSub b hb) with e | hb
  · rw [e]; exact I.free
  · obtain ⟨_, o, ho, _⟩ := I.ok.funs.mem hb
    exact I.base.free b o ho (I.ok.frf b hb) fun z => I.ok.exfs b z hb
theorem Inv.step {g' : Array GenState} {t' : Nat} {d' : Drawn} {ch : List Addr} (I : Inv X pins σ H s)
    (hch : ∀ b ∈ ch, (b ∈ X.ex ∨ X.s₀.heap.objs.size ≤ b) ∧ b ≠ X.env.locals ∧ (∀ x c, X.env.cells.lookup x = some c → c ≠ b) ∧ ∀ p ∈ X.pn ++ pins, p.1 ≠ b)
    (keep : ∀ b o, b ≠ X.env.locals → b ∉ X.fs → b ∉ ch → s.heap.get? b = some o → H b = none → h'.get? b = some o)
    (slot : ∀ b o, b ≠ X.env.locals → b ∈ X.fs → b ∉ ch → s.heap.get? b = some o → H b = none → ∃ sl, h'.get? b = some { o with slots := sl }) (free : ∀ b o, b ∉ ch → s.heap.get? b = some o → H b = none → H' b = none)
    (there : ∀ b o, b ∉ ch → s.heap.get? b = some o → ∃ o', h'.get? b = some o')
    (tups : ∀ b xs, H b = some (.tup xs) → H' b = some (.tup xs)) (frzs : ∀ b o u, H b = some (.frz o u) → H' b = some (.frz o u)) (tbls : ∀ b ps, H b = some (.tbl ps) → ∃ more, H' b = some (.tbl (ps ++ more)))
    (ns : ∀ m, s.heap.Ns X.env.locals m → h'.Ns X.env.locals m) (hok : HOk X.prog X.w H' h') (hg : AllBare g') :
    Inv X pins σ H' { s with heap := h', gens := g', drawn := d', toks := t' } := by
  have neL : ∀ b o, X.s₀.heap.get? b = some o → b ≠ X.env.locals := fun b o e => Nat.ne_of_lt (Nat.lt_of_lt_of_le (Heap.lt_size e) I.ok.above)
  have neC : ∀ b o, X.s₀.heap.get? b = some o → b ∉ X.ex → b ∉ ch := fun b o e hx hb => by
    rcases (hch b hb).1 with z | z
    · exact hx z
    · exact absurd (Nat.lt_of_lt_of_le (Heap.lt_size e) z) (Nat.lt_irrefl _)
  have cellK : ∀ x c, X.env.cells.lookup x = some c → ∀ v, s.heap.IsCell c v → h'.IsCell c v := fun x c e v ⟨o, ho, hd⟩ => by
    have nch : c ∉ ch := fun z => (hch c z).2.2.1 x c e rfl
    by_cases hc : c ∈ X.fs
    · obtain ⟨sl, q⟩ := slot c o (I.cne x c e) hc nch ho (I.freeC x c e)
      exact ⟨_, q, hd⟩
    · exact ⟨o, keep c o (I.cne x c e) hc nch ho (I.freeC x c e), hd⟩
  refine ⟨I.ok, I.os, hg, ⟨fun b o e n hb hx => ?_, fun b o e n hb hx => ?_, fun b o e n hx => ?_, fun b o e hx => ?_, fun b xs e => tups b xs (I.base.tups b xs e), fun b o xs e => frzs b o xs (I.base.frzs b o xs e), fun b ps e => ?_⟩, ?_, fun x c e => ?_, ?_, fun x c e => ?_, fun p hp => ?_, hok, I.len⟩
  · exact keep b o (neL b o e) hb (neC b o e hx) (I.base.keep b o e n hb hx) (I.base.free b o e n hx)
  · obtain ⟨sl, e1⟩ := I.base.slot b o e n hb hx
    obtain ⟨sl', e2⟩ := slot b _ (neL b o e) hb (neC b o e hx) e1 (I.base.free b o e n hx)
    exact ⟨sl', e2⟩
  · obtain ⟨o', e1⟩ := I.base.there b o e hx
    exact free b o' (neC b o e hx) e1 (I.base.free b o e n hx)
  · obtain ⟨o', e1⟩ := I.base.there b o e hx
    exact there b o' (neC b o e hx) e1
  · obtain ⟨m1, e1⟩ := I.base.tbls b ps e
    obtain ⟨m2, e2⟩ := tbls b _ e1
    exact ⟨m1 ++ m2, by rw [e2, Array.append_assoc]⟩
  · obtain ⟨m, hn, hl⟩ := I.loc
    refine ⟨m, ns m hn, fun i x v e1 e2 e3 => ?_⟩
    obtain ⟨u, r, l⟩ := hl i x v e1 e2 e3
    refine ⟨u, r, ?_⟩
    rcases l with l | ⟨k, c, e, z⟩
    · exact .inl l
    · exact .inr ⟨k, c, e, cellK x c e _ z⟩
  · obtain ⟨v, z⟩ := I.cell x c e
    exact ⟨v, cellK x c e v z⟩
  · obtain ⟨m, ⟨o, _, _, ho, _⟩, _⟩ := I.loc
    exact free _ o (fun z => (hch _ z).2.1 rfl) ho I.free
  · obtain ⟨v, o, ho, hd⟩ := I.cell x c e
    exact free c o (fun z => (hch c z).2.2.1 x c e rfl) ho (I.freeC x c e)
  · obtain ⟨e, n, ne, nf, d⟩ := I.pin p hp
    have nch : p.1 ∉ ch := fun z => (hch p.1 z).2.2.2 p hp rfl
    exact ⟨keep p.1 p.2 ne nf nch e n, free p.1 p.2 nch e n, ne, nf, d⟩
theorem Inv.un {t' : Nat} (I : Inv X pins σ H s) (u : Un X.fs [] H H' s.heap h') (hok : HOk X.prog X.w H' h') : Inv X pins σ H' { s with heap := h', toks := t' } := by
  obtain ⟨m, ⟨o, es, ep, ho, r⟩, _⟩ := id I.loc
  obtain ⟨sl, hL⟩ := u.any ho I.free (by simp)
  exact I.step (g' := s.gens) (d' := s.drawn) (ch := []) (fun _ z => nomatch z) (fun b o _ hb _ e n => u.keep b o e n hb (by simp)) (fun b o _ hb _ e n => u.slot b o e n hb (by simp)) (fun b o _ e n => u.free b o e n (by simp)) (fun b o _ e => u.there b o e (by simp)) u.tups u.frzs u.tbls (fun m' hm => by
    obtain ⟨o', es', ep', ho', r'⟩ := hm
    rw [ho] at ho'; cases ho'
    exact ⟨_, es', ep', hL, r'⟩) hok I.bare
theorem Inv.call {g' : Array GenState} {t' : Nat} {d' : Drawn} {ch : List Addr} (I : Inv X pins σ H s) (u : Un (frs X.stack) ch H H' s.heap h') (hok : HOk X.prog X.w H' h') (hg : AllBare g')
    (hch : ∀ b ∈ ch, (b ∈ X.ex ∨ X.s₀.heap.objs.size ≤ b) ∧ b ≠ X.env.locals ∧ (∀ x c, X.env.cells.lookup x = some c → c ≠ b) ∧ ∀ p ∈ X.pn ++ pins, p.1 ≠ b) :
    Inv X pins σ H' { s with heap := h', gens := g', drawn := d', toks := t' } := by
  obtain ⟨m, ⟨o, es, ep, ho, r⟩, _⟩ := id I.loc
  obtain ⟨sl, hL⟩ := u.any ho I.free fun z => (hch _ z).2.1 rfl
  exact I.step (ch := ch) hch (fun b o hL hb hc e n => u.keep b o e n (fun z => (List.mem_cons.mp (I.stkSub b z)).elim hL hb) hc) (fun b o _ _ hc e n => u.any e n hc) (fun b o hc e n => u.free b o e n hc) (fun b o hc e => u.there b o e hc) u.tups u.frzs u.tbls (fun m' hm => by
    obtain ⟨o', es', ep', ho', r'⟩ := hm
    rw [ho] at ho'; cases ho'
    exact ⟨_, es', ep', hL, r'⟩) hok hg
theorem Inv.turned {t' : Nat} {it : Addr} (I : Inv X pins σ H s) (k : ∀ b o, b ≠ it → s.heap.get? b = some o → h'.get? b = some o) (hn : H it = none) (hL : it ≠ X.env.locals)
    (h1 : it ∈ X.ex ∨ X.s₀.heap.objs.size ≤ it) (h2 : ∀ x c, X.env.cells.lookup x = some c → c ≠ it) (h3 : ∀ p ∈ X.pn ++ pins, p.1 ≠ it) : Inv X pins σ H { s with heap := h', toks := t' } := by
  have nit : ∀ b u, H b = some u → b ≠ it := fun b u e z => by rw [z, hn] at e; cases e
  refine I.step (g' := s.gens) (d' := s.drawn) (ch := [it]) (fun b hb => ?_) (fun b o _ _ hc e _ => k b o (fun z => hc (by simp [z])) e) (fun b o _ _ hc e _ => ⟨o.slots, k b o (fun z => hc (by simp [z])) e⟩) (fun _ _ _ _ n => n)
    (fun b o hc e => ⟨o, k b o (fun z => hc (by simp [z])) e⟩) (fun _ _ e => e) (fun _ _ _ e => e) (fun b ps e => ⟨#[], by rw [e]; simp⟩) (fun m hm => ?_) (fun b u e => ?_) I.bare
  · have e : b = it := by simpa using hb
    subst e
    exact ⟨h1, hL, h2, h3⟩
  · obtain ⟨o, es, ep, ho, r⟩ := hm
    exact ⟨o, es, ep, k _ o (Ne.symm hL) ho, r⟩
  · refine (I.hok b u e).stay (fun c v hc q => k c v ?_ q) (fun _ q => q) fun _ _ q => q
    rcases hc with z | z
    · rw [z]; exact nit b u e
    · exact nit c _ z
theorem Inv.tok (I : Inv X pins σ H s) (t : Nat) : Inv X pins σ H { s with toks := t } := I.un (h' := s.heap) (t' := t) Un.refl I.hok
theorem Inv.kept {t' : Nat} (I : Inv X pins σ H s) (k : ∀ b u, s.heap.get? b = some u → h'.get? b = some u) : Inv X pins σ H { s with heap := h', toks := t' } := I.un (Un.kept k) (I.hok.kept k)
theorem Inv.laid {a : Addr} {o : HO} {t' : Nat} (I : Inv X pins σ H s) (k : ∀ b u, s.heap.get? b = some u → h'.get? b = some u) (hp : s.heap.objs.size ≤ a) (new : ObjOk X.prog X.w (upd H a o) h' a o) :
    Inv X pins σ (upd H a o) { s with heap := h', toks := t' } := I.un (Un.laid k hp (I.hok.fresh hp)) (I.hok.laid k hp new)
theorem Inv.write {x e : Addr} {o : HO} {t' : Nat} (I : Inv X pins σ H s) (mu : Mut (H x)) (he : e = x ∨ H e = some (.own x)) (k : ∀ b u, b ≠ e → s.heap.get? b = some u → h'.get? b = some u) (heo : ∃ u, h'.get? e = some u)
    (new : ObjOk X.prog X.w (upd H x o) h' x o) : Inv X pins σ (upd H x o) { s with heap := h', toks := t' } := I.un (Un.write mu he k heo) (I.hok.write mu he k heo new)
theorem Inv.pins_of {pins' : List (Addr × Obj)} (I : Inv X pins σ H s) (h : ∀ p ∈ pins', s.heap.get? p.1 = some p.2 ∧ H p.1 = none ∧ p.1 ≠ X.env.locals ∧ p.1 ∉ X.fs ∧ ∀ v, p.2.data ≠ .cell v) : Inv X pins' σ H s :=
  ⟨I.ok, I.os, I.bare, I.base, I.loc, I.cell, I.free, I.freeC, fun p hp => (List.mem_append.mp hp).elim (fun z => I.pin p (List.mem_append_left _ z)) (h p), I.hok, I.len⟩
theorem nodup_ix {N : List Str} (hN : N.Nodup) {i j : Nat} {x : Str} (a : N[i]? = some x) (b : N[j]? = some x) : i = j := by
  obtain ⟨h1, e1⟩ := List.getElem?_eq_some_iff.mp a
  obtain ⟨h2, e2⟩ := List.getElem?_eq_some_iff.mp b
  exact (List.getElem_inj hN).mp (e1.trans e2.symm)
theorem store_ok2 {M : Model} {A : Around} {E : Value → Shared → Prop} {i : Nat} {x : Str} {v : V} {u : Value} {Q : Unit → Shared → Prop} (I : Inv X pins σ H s) (hN : X.N.Nodup) (hi : X.N[i]? = some x) (hx : Loc X.env.scope x) (r : RelV v u)
    (h : ∀ s', Inv X pins (σ.set i (some v)) H s' → (∃ a, Heap.SameBut a s.heap s'.heap ∧ (a = X.env.locals ∨ X.env.cells.lookup x = some a)) → Q () s') (hf : X.fn x = true ∨ X.env.scope.names.lookup x = some .local := by first | exact .inl rfl | exact .inr rfl | assumption) : wpAny M A (storeName X.env x u) Q E s := by
  obtain ⟨m, hn, hl⟩ := id I.loc
  have hcls : (X.env.scope.kind == .class || (X.env.scope.kind == .module && X.env.locals != X.env.globals)) = false := by rw [I.ok.kind]; rfl
  have hiσ : i < σ.length := by rw [I.len]; exact (List.getElem?_eq_some_iff.mp hi).1
  have cne := I.cne
  have tracked : ∀ {a : Addr} {h' : Heap}, (∃ o, s.heap.get? a = some o ∧ H a = none) → Heap.SameBut a s.heap h' → HOk X.prog X.w H h' := fun {a h'} ha hs b ob e => by
    obtain ⟨_, _, hfree⟩ := ha
    refine (I.hok b ob e).stay (fun c w' hc q => (hs.2 c ?_).trans q) (fun _ q => q) fun _ _ q => q
    rintro rfl
    rcases hc with rfl | hc
    · rw [hfree] at e; cases e
    · rw [hfree] at hc; cases hc
  rcases hx with hk | hk
  · refine wpAny_storeName_local hk hn (fun h' hn' hs => ?_) hcls
    obtain ⟨oL, _, _, hoL, _⟩ := id hn
    refine h _ ⟨I.ok, I.os, I.bare, ⟨fun b o e n hb hx => ?_, fun b o e n hb hx => ?_, I.base.free, fun b o e hx => ?_, I.base.tups, I.base.frzs, I.base.tbls⟩, ⟨_, hn', fun j y v' e1 e2 e3 => ?_⟩, fun y c e => ?_, I.free, I.freeC, fun p hp => ?_, tracked ⟨oL, hoL, I.free⟩ hs, by simpa using I.len⟩ ⟨_, hs, .inl rfl⟩
    · exact (hs.2 b (Nat.ne_of_lt (Nat.lt_of_lt_of_le (Heap.lt_size e) I.ok.above))).trans (I.base.keep b o e n hb hx)
    · obtain ⟨sl, e1⟩ := I.base.slot b o e n hb hx
      exact ⟨sl, (hs.2 b (Nat.ne_of_lt (Nat.lt_of_lt_of_le (Heap.lt_size e) I.ok.above))).trans e1⟩
    · obtain ⟨o', e1⟩ := I.base.there b o e hx
      exact ⟨o', (hs.2 b (Nat.ne_of_lt (Nat.lt_of_lt_of_le (Heap.lt_size e) I.ok.above))).trans e1⟩
    · by_cases hj : j = i
      · subst hj
        rw [hi] at e1; cases e1
        rw [List.getElem?_set_self hiσ] at e2
        cases e2
        exact ⟨u, r, .inl ⟨hk, by simp⟩⟩
      · rw [List.getElem?_set_ne (Ne.symm hj)] at e2
        obtain ⟨u', r', q⟩ := hl j y v' e1 e2 e3
        refine ⟨u', r', ?_⟩
        rcases q with ⟨k, e⟩ | ⟨k, c, e, z⟩
        · refine .inl ⟨k, ?_⟩
          have : y ≠ x := fun e => hj (nodup_ix hN e1 (e ▸ hi))
          simp [this, e]
        · exact .inr ⟨k, c, e, z.sameBut hs (cne y c e)⟩
    · obtain ⟨w', z⟩ := I.cell y c e
      exact ⟨w', z.sameBut hs (cne y c e)⟩
    · obtain ⟨e, n, ne, nf, d⟩ := I.pin p hp
      exact ⟨(hs.2 p.1 ne).trans e, n, ne, nf, d⟩
  · have hfn : X.fn x = true := by
      rcases hf with z | z
      · exact z
      · rw [z] at hk; cases hk
    obtain ⟨c, hc⟩ := I.ok.has x (.inl hk)
    obtain ⟨w', z⟩ := I.cell x c hc
    refine wpAny_storeName_cell I.ok.kind hk hc z (fun h' hc' hs => ?_)
    obtain ⟨oc, hoc, hocd⟩ := id z
    refine h { s with heap := h' } ⟨I.ok, I.os, I.bare, ⟨fun b o e n hb hx => ?_, fun b o e n hb hx => ?_, I.base.free, fun b o e hx => ?_, I.base.tups, I.base.frzs, I.base.tbls⟩, ⟨m, hn.sameBut hs (Ne.symm (cne x c hc)), fun j y v' e1 e2 e3 => ?_⟩, fun y c' e => ?_, I.free, I.freeC, fun p hp => ?_, tracked ⟨oc, hoc, I.freeC x c hc⟩ hs, by simpa using I.len⟩ ⟨c, hs, .inr hc⟩
    · exact (hs.2 b (Nat.ne_of_lt (Nat.lt_of_lt_of_le (Heap.lt_size e) (I.ok.cab x c hfn hc)))).trans (I.base.keep b o e n hb hx)
    · obtain ⟨sl, e1⟩ := I.base.slot b o e n hb hx
      exact ⟨sl, (hs.2 b (Nat.ne_of_lt (Nat.lt_of_lt_of_le (Heap.lt_size e) (I.ok.cab x c hfn hc)))).trans e1⟩
    · obtain ⟨o', e1⟩ := I.base.there b o e hx
      exact ⟨o', (hs.2 b (Nat.ne_of_lt (Nat.lt_of_lt_of_le (Heap.lt_size e) (I.ok.cab x c hfn hc)))).trans e1⟩
    · by_cases hj : j = i
      · subst hj
        rw [hi] at e1; cases e1
        rw [List.getElem?_set_self hiσ] at e2
        cases e2
        exact ⟨u, r, .inr ⟨.inl hk, c, hc, hc'⟩⟩
      · rw [List.getElem?_set_ne (Ne.symm hj)] at e2
        obtain ⟨u', r', q⟩ := hl j y v' e1 e2 e3
        refine ⟨u', r', ?_⟩
        rcases q with q | ⟨k, c', e, z'⟩
        · exact .inl q
        · refine .inr ⟨k, c', e, z'.sameBut hs ?_⟩
          rintro rfl
          exact hj (nodup_ix hN e1 (I.ok.inj _ _ _ e hc ▸ hi))
    · by_cases hcc : c' = c
      · subst hcc; exact ⟨_, hc'⟩
      · obtain ⟨w2, z2⟩ := I.cell y c' e
        exact ⟨w2, z2.sameBut hs hcc⟩
    · obtain ⟨e, n, ne, nf, d⟩ := I.pin p hp
      refine ⟨(hs.2 p.1 ?_).trans e, n, ne, nf, d⟩
      intro q
      rw [q, hoc] at e
      have q' : oc = p.2 := Option.some.inj e
      exact d w' (by rw [← q']; exact hocd)
theorem store_ok {M : Model} {A : Around} {E : Value → Shared → Prop} {i : Nat} {x : Str} {v : V} {u : Value} {Q : Unit → Shared → Prop} (I : Inv X pins σ H s) (hN : X.N.Nodup) (hi : X.N[i]? = some x) (hx : Loc X.env.scope x) (r : RelV v u)
    (h : ∀ s', Inv X pins (σ.set i (some v)) H s' → Q () s') (hf : X.fn x = true ∨ X.env.scope.names.lookup x = some .local := by first | exact .inl rfl | exact .inr rfl | assumption) : wpAny M A (storeName X.env x u) Q E s :=
  store_ok2 I hN hi hx r (fun s' I' _ => h s' I') hf
theorem Inv.call' {s' : Shared} {ch : List Addr} (I : Inv X pins σ H s) (ho : s'.os = s.os) (u : Un (frs X.stack) ch H H' s.heap s'.heap) (hok : HOk X.prog X.w H' s'.heap) (hg : AllBare s'.gens)
    (hch : ∀ b ∈ ch, (b ∈ X.ex ∨ X.s₀.heap.objs.size ≤ b) ∧ b ≠ X.env.locals ∧ (∀ x c, X.env.cells.lookup x = some c → c ≠ b) ∧ ∀ p ∈ X.pn ++ pins, p.1 ≠ b) : Inv X pins σ H' s' := by
  obtain ⟨h', g', d', t', o'⟩ := s'
  have e : o' = s.os := ho
  subst e
  exact I.call (g' := g') (t' := t') (d' := d') u hok hg hch
end
abbrev XK := Value → Option Addr → Hp → Prop
abbrev St := List (Option V)
abbrev VK := V → Hp → Prop
abbrev TE := St → Hp → VK → Prop
abbrev TT := St → Hp → (Bool → Hp → Prop) → Prop
abbrev TA := St → Hp → (List V → Hp → Prop) → Prop
structure Ends where
  nx : St → Hp → Prop
  rt : VK
  bk : St → Hp → Prop := fun _ _ => False
  ct : St → Hp → Prop := fun _ _ => False
abbrev TS := Ends → St → Hp → Prop
def EP (X : Cx) (pins : List (Addr × Obj)) (σ : St) (Q : VK) (u : Value) (s' : Shared) : Prop := ∃ v H', Inv X pins σ H' s' ∧ RelV v u ∧ Q v H'
def TP (X : Cx) (pins : List (Addr × Obj)) (σ : St) (Q : Bool → Hp → Prop) (b : Bool) (s' : Shared) : Prop := ∃ H', Inv X pins σ H' s' ∧ Q b H'
def AP (X : Cx) (pins : List (Addr × Obj)) (σ : St) (Q : List V → Hp → Prop) (us : List Value) (s' : Shared) : Prop := ∃ vs H', Inv X pins σ H' s' ∧ Vals vs us ∧ Q vs H'
def SP (X : Cx) (pins : List (Addr × Obj)) (D : Ends) (f : Flow) (s' : Shared) : Prop :=
  match f with
  | .next => ∃ σ' H', Inv X pins σ' H' s' ∧ D.nx σ' H'
  | .brk => ∃ σ' H', Inv X pins σ' H' s' ∧ D.bk σ' H'
  | .cont => ∃ σ' H', Inv X pins σ' H' s' ∧ D.ct σ' H'
  | .ret u => ∃ v σ' H', Inv X pins σ' H' s' ∧ RelV v u ∧ D.rt v H'
def PE (X : Cx) (e : Expr) (t : TE) : Prop :=
  ∀ (pins : List (Addr × Obj)) (s : Shared) (σ : St) (H : Hp) (Q : VK), Inv X pins σ H s → t σ H Q → wpAny (model X.prog X.w) X.A (eval e X.env) (EP X pins σ Q) X.xe s
def PT (X : Cx) (e : Expr) (t : TT) : Prop :=
  ∀ (pins : List (Addr × Obj)) (s : Shared) (σ : St) (H : Hp) (Q : Bool → Hp → Prop), Inv X pins σ H s → t σ H Q → wpAny (model X.prog X.w) X.A (isTrue e X.env (eval e X.env)) (TP X pins σ Q) X.xe s
def PW (X : Cx) (e : Expr) (t : TT) : Prop :=
  ∀ (whole : Sem Value) (pins : List (Addr × Obj)) (s : Shared) (σ : St) (H : Hp) (Q : Bool → Hp → Prop), Inv X pins σ H s → t σ H Q → wpAny (model X.prog X.w) X.A (isTrue e X.env whole) (TP X pins σ Q) X.xe s
theorem PW.pt {X : Cx} {e : Expr} {t : TT} (h : PW X e t) : PT X e t := h _
def PA (X : Cx) (es : List Expr) (t : TA) : Prop :=
  ∀ (pos : Pos) (pins : List (Addr × Obj)) (s : Shared) (σ : St) (H : Hp) (Q : List V → Hp → Prop), Inv X pins σ H s → t σ H Q → wpAny (model X.prog X.w) X.A (spliced (backTo pos (starEach es X.env))) (AP X pins σ Q) X.xe s
def PS (X : Cx) (st : Stmt) (t : TS) : Prop :=
  ∀ (pins : List (Addr × Obj)) (s : Shared) (σ : St) (H : Hp) (D : Ends), Inv X pins σ H s → t D σ H → wpAny (model X.prog X.w) X.A (exec st X.env) (SP X pins D) X.xe s
def PSs (X : Cx) (st : List Stmt) (t : TS) : Prop :=
  ∀ (pins : List (Addr × Obj)) (s : Shared) (σ : St) (H : Hp) (D : Ends), Inv X pins σ H s → t D σ H → wpAny (model X.prog X.w) X.A (execs st X.env) (SP X pins D) X.xe s
theorem thn {α : Type} {t : Sem α} {Q Q' : α → Shared → Prop} {M : Model} {A : Around} {E : Value → Shared → Prop} {s : Shared} (h : wpAny M A t Q E s) (hQ : ∀ a s, Q a s → Q' a s) : wpAny M A t Q' E s := wpAny_mono h hQ fun _ _ x => x
end L2
namespace L2
open PySem PySem.Spec PyProof.Rows
section
variable {X : Cx}
def tVar (i : Nat) : TE := fun σ H Q => ∃ v, σ[i]? = some (some v) ∧ Q v H
def tC (v : V) : TE := fun _ H Q => Q v H
theorem pe_var {i : Nat} {x : Str} {pos : Pos} (hN : X.N[i]? = some x) (hv : Vis X.env.scope x) (hd : (x == ("__debug__" : Str)) = false := by decide) (hcd : (x == ("__classdict__" : Str)) = false := by decide) : PE X (.Name x pos) (tVar i) := by
  intro pins s σ H Q I h
  obtain ⟨v, e, h⟩ := h
  obtain ⟨m, hn, hl⟩ := I.loc
  obtain ⟨u, r, l⟩ := hl i x v hN e hv
  have fin : EP X pins σ Q u s := ⟨v, H, I, r, h⟩
  rcases l with ⟨hk, hm⟩ | ⟨hk, c, hc, hcell⟩
  · exact wpAny_Name (wpAny_loadName_local I.ok.kind hk hn hm fin) hd
  · rcases hk with hk | hk
    · exact wpAny_Name (wpAny_loadName_cell I.ok.kind hk hc hcell fin) hd
    · exact wpAny_Name (wpAny_loadName_free I.ok.kind hk hc hcell fin hcd) hd
theorem pe_int {i j pos} : PE X (.Constant (.int i) j pos) (tC (.int i)) := fun _ _ _ H _ I h => wpAny_Constant_int ⟨.int i, H, I.tok _, ⟨_, rfl⟩, h⟩
theorem pe_bl {b j pos} : PE X (.Constant (.bool b) j pos) (tC (.bl b)) := fun _ _ _ H _ I h => Constant_bool ⟨.bl b, H, I, rfl, h⟩
theorem pe_non {j pos} : PE X (.Constant .none j pos) (tC .non) := fun _ _ _ H _ I h => Constant_none ⟨.non, H, I, rfl, h⟩
theorem pe_str {x j pos} : PE X (.Constant (.str x) j pos) (tC (.str x)) := fun _ _ _ H _ I h => Calls.Constant_str ⟨.str x, H, I.tok _, ⟨_, rfl⟩, h⟩
def Gl (X : Cx) (x : Str) : Prop := X.env.kindOf x = some .globalImplicit
theorem ld_glob {E : Value → Shared → Prop} {pins : List (Addr × Obj)} {s : Shared} {σ : St} {H : Hp} {x : Str} {u : Value} {pos : Pos} {Q : Value → Shared → Prop} (I : Inv X pins σ H s) (hg : Gl X x) (hm : X.mg x = some u) (h : Q u s)
    (hd : (x == ("__debug__" : Str)) = false := by decide) : wpAny (model X.prog X.w) X.A (eval (.Name x pos) X.env) Q E s :=
  Calls.Name_function_global I.ok.kind hg (Calls.loadGlobal_global (by rw [I.ok.glob]; exact I.mod.glob.keeps I.bk) hm h) hd
theorem ld_blt {E : Value → Shared → Prop} {pins : List (Addr × Obj)} {s : Shared} {σ : St} {H : Hp} {x : Str} {u : Value} {pos : Pos} {Q : Value → Shared → Prop} (I : Inv X pins σ H s) (hg : Gl X x) (hm : X.mg x = none) (hv : bootBuiltins x = some u) (h : Q u s)
    (hn : x ≠ "__name__" := by decide) (hd : (x == ("__debug__" : Str)) = false := by decide) : wpAny (model X.prog X.w) X.A (eval (.Name x pos) X.env) Q E s := by
  obtain ⟨mb, h1, h2⟩ := I.mod.blt
  exact Calls.Name_function_global I.ok.kind hg (Calls.loadGlobal_builtin (by rw [I.ok.glob]; exact I.mod.glob.keeps I.bk) hm (by rw [I.ok.blt]; exact h1.keeps I.bk) ((h2 x hn).trans hv) h) hd
theorem pe_glob {x : Str} {v : V} {u : Value} {pos : Pos} (hg : Gl X x) (hm : X.mg x = some u) (r : RelV v u) (hd : (x == ("__debug__" : Str)) = false := by decide) : PE X (.Name x pos) (tC v) :=
  fun _ _ _ H _ I h => ld_glob I hg hm ⟨v, H, I, r, h⟩ hd
theorem pe_bltn {x : Str} {v : V} {u : Value} {pos : Pos} (hg : Gl X x) (hm : X.mg x = none) (hv : bootBuiltins x = some u) (r : RelV v u) (hn : x ≠ "__name__" := by decide) (hd : (x == ("__debug__" : Str)) = false := by decide) : PE X (.Name x pos) (tC v) :=
  fun _ _ _ H _ I h => ld_blt I hg hm hv ⟨v, H, I, r, h⟩ hn hd
variable {a b : Expr} {ta tb : TE} {pos : Pos}
def tB (t : TE) : TT := fun σ H Q => t σ H fun x H1 => ∃ c, x = .bl c ∧ Q c H1
variable {tA tB' : TT} {rest : List Expr}
def tAnd (t u : TT) : TT := fun σ H Q => t σ H fun c H1 => if c = true then u σ H1 Q else Q false H1
def tOr (t u : TT) : TT := fun σ H Q => t σ H fun c H1 => if c = true then Q true H1 else u σ H1 Q
def tNot (t : TT) : TT := fun σ H Q => t σ H fun c H1 => Q (!c) H1
theorem pw_and1 (ha : PT X a tA) : PW X (.BoolOp .And [a] pos) tA := by
  intro wh pins s σ H Q I h
  refine isTrue_and (thn (ha pins s σ H Q I h) fun c s1 e => ?_)
  cases c with
  | true => exact isTrue_and_nil e
  | false => exact e
theorem pw_or1 (ha : PT X a tA) : PW X (.BoolOp .Or [a] pos) tA := by
  intro wh pins s σ H Q I h
  refine isTrue_or (thn (ha pins s σ H Q I h) fun c s1 e => ?_)
  cases c with
  | false => exact isTrue_or_nil e
  | true => exact e
theorem pw_and (ha : PT X a tA) (hb : PW X (.BoolOp .And (b :: rest) pos) tB') : PW X (.BoolOp .And (a :: b :: rest) pos) (tAnd tA tB') := by
  intro wh pins s σ H Q I h
  refine isTrue_and (thn (ha pins s σ H _ I h) fun c s1 ⟨H1, I1, q1⟩ => ?_)
  cases c with
  | true => exact hb wh pins s1 σ H1 Q I1 q1
  | false => exact ⟨H1, I1, q1⟩
theorem pw_or (ha : PT X a tA) (hb : PW X (.BoolOp .Or (b :: rest) pos) tB') : PW X (.BoolOp .Or (a :: b :: rest) pos) (tOr tA tB') := by
  intro wh pins s σ H Q I h
  refine isTrue_or (thn (ha pins s σ H _ I h) fun c s1 ⟨H1, I1, q1⟩ => ?_)
  cases c with
  | true => exact ⟨H1, I1, q1⟩
  | false => exact hb wh pins s1 σ H1 Q I1 q1
theorem pt_not (ha : PT X a tA) : PT X (.UnaryOp .Not a pos) (tNot tA) := by
  intro pins s σ H Q I h
  exact isTrue_not (ha pins s σ H (fun c H1 => Q (!c) H1) I h)
theorem pe_one {op} {t : TE} (h : PE X a t) : PE X (.BoolOp op [a] pos) t := fun pins s σ H Q I hw => BoolOp_one (h pins s σ H Q I hw)
end
end L2
namespace L2
open PySem PySem.Spec PyProof.Rows
def SqL (K : PySem.W.Frag) (H : Hp) (a : Addr) (xs : List V) : Prop :=
  Rd H a (.lst xs) ∨
    ∃ (o : Obj) (its : Array Value) (n : Nat), K.lookup a = some o ∧ o.cls = .type "list" ∧ o.dict = none ∧ o.data = .seq its n ∧ its.size ≤ sizeLine ∧ Vals xs its.toList
def SqT (K : PySem.W.Frag) (H : Hp) (a : Addr) (xs : List V) : Prop :=
  Rd H a (.tup xs) ∨
    ∃ (o : Obj) (its : Array Value) (n : Nat), K.lookup a = some o ∧ o.cls = .type "tuple" ∧ o.data = .seq its n ∧ its.size ≤ sizeLine ∧ Vals xs its.toList
def absV : Value → Option V
  | .none => some .non
  | .bool b => some (.bl b)
  | .int i _ => some (.int i)
  | .str x _ => some (.str x)
  | .bytes b _ => some (.byt b)
  | .float b _ => some (.flt b)
  | .ref a => some (.ref a)
  | .type n => some (.ty n)
  | _ => none
theorem RelV.abs {x : V} {u : Value} (r : RelV x u) : absV u = some x := by
  cases x with
  | non => cases r; rfl
  | bl _ => cases r; rfl
  | int _ => obtain ⟨t, rfl⟩ := r; rfl
  | str _ => obtain ⟨t, rfl⟩ := r; rfl
  | byt _ => obtain ⟨t, rfl⟩ := r; rfl
  | flt _ => obtain ⟨t, rfl⟩ := r; rfl
  | ref _ => cases r; rfl
  | ty _ => cases r; rfl
theorem RelV.inj {x y : V} {u : Value} (r : RelV x u) (q : RelV y u) : x = y := Option.some.inj (r.abs.symm.trans q.abs)
theorem Vals.inj : ∀ {xs ys : List V} {us : List Value}, Vals xs us → Vals ys us → xs = ys
  | _, _, _, .nil, .nil => rfl
  | _, _, _, .cons r t, .cons r' t' => by rw [r.inj r', Vals.inj t t']
section
variable {X : Cx} {pins : List (Addr × Obj)} {σ : St} {H : Hp} {s : Shared} {a : Addr} {xs ys : List V}
theorem SqL.of {K : PySem.W.Frag} (h : H a = some (.lst xs)) : SqL K H a xs := .inl (.inl h)
theorem SqT.of {K : PySem.W.Frag} (h : H a = some (.tup xs)) : SqT K H a xs := .inl (.inl h)
theorem Inv.list (I : Inv X pins σ H s) (h : SqL X.K H a xs) : ∃ its : List Value, Vals xs its ∧ PlainL s.heap a its.toArray ∧ xs.length ≤ sizeLine := by
  rcases h with h | ⟨o, its, n, hk, hc, hd, hs, hz, r⟩
  · obtain ⟨z, its, n, r, e⟩ := h.ok I.hok
    exact ⟨its, r, ⟨_, n, e, rfl, rfl, rfl⟩, z⟩
  · refine ⟨its.toList, r, ⟨o, n, I.kIn a o hk, hc, hd, by simpa using hs⟩, ?_⟩
    have e := r.length
    simp only [Array.length_toList] at e
    omega
theorem Inv.tuple (I : Inv X pins σ H s) (h : SqT X.K H a xs) : ∃ its : List Value, Vals xs its ∧ IsTup s.heap a its.toArray ∧ xs.length ≤ sizeLine := by
  rcases h with h | ⟨o, its, n, hk, hc, hs, hz, r⟩
  · obtain ⟨z, its, r, p⟩ := h.ok I.hok
    exact ⟨its, r, p, z⟩
  · refine ⟨its.toList, r, ⟨o, I.kIn a o hk, hc, n, by simpa using hs⟩, ?_⟩
    have e := r.length
    simp only [Array.length_toList] at e
    omega
theorem Inv.list_inj (I : Inv X pins σ H s) (h : SqL X.K H a xs) (h' : SqL X.K H a ys) : xs = ys := by
  obtain ⟨its, r, ⟨o, n, e, _, _, d⟩, _⟩ := I.list h
  obtain ⟨its', r', ⟨o', n', e', _, _, d'⟩, _⟩ := I.list h'
  rw [e] at e'; cases e'
  rw [d] at d'
  injection d' with d1 _
  have : its = its' := by simpa using congrArg Array.toList d1
  subst this
  exact r.inj r'
theorem Inv.tuple_inj (I : Inv X pins σ H s) (h : SqT X.K H a xs) (h' : SqT X.K H a ys) : xs = ys := by
  obtain ⟨its, r, ⟨o, e, _, n, d⟩, _⟩ := I.tuple h
  obtain ⟨its', r', ⟨o', e', _, n', d'⟩, _⟩ := I.tuple h'
  rw [e] at e'; cases e'
  rw [d] at d'
  injection d' with d1 _
  have : its = its' := by simpa using congrArg Array.toList d1
  subst this
  exact r.inj r'
end
abbrev Cx.wish (X : Cx) (E : Value → Shared → Prop) : Cx := { X with xe := E }
abbrev Cx.nox (X : Cx) : Cx := X.wish fun _ _ => False
theorem Cx.Ok.wish {X : Cx} (ok : X.Ok) (E : Value → Shared → Prop) : (X.wish E).Ok :=
  ⟨ok.mod, ok.kind, ok.glob, ok.blt, ok.above, ok.inj, ok.has, ok.cab, ok.hd, ok.frames, ok.stk, ok.exf, ok.bs, ok.bsz, ok.noex, ok.exfs, ok.funs, ok.frf⟩
theorem Cx.Ok.unwish {X : Cx} {E : Value → Shared → Prop} (ok : (X.wish E).Ok) : X.Ok :=
  ⟨ok.mod, ok.kind, ok.glob, ok.blt, ok.above, ok.inj, ok.has, ok.cab, ok.hd, ok.frames, ok.stk, ok.exf, ok.bs, ok.bsz, ok.noex, ok.exfs, ok.funs, ok.frf⟩
section
variable {X : Cx} {pins : List (Addr × Obj)} {σ : St} {H : Hp} {s : Shared} {E : Value → Shared → Prop}
theorem Inv.wish (I : Inv X pins σ H s) (E : Value → Shared → Prop) : Inv (X.wish E) pins σ H s := ⟨I.ok.wish E, I.os, I.bare, I.base, I.loc, I.cell, I.free, I.freeC, I.pin, I.hok, I.len⟩
theorem Inv.unwish (I : Inv (X.wish E) pins σ H s) : Inv X pins σ H s := ⟨I.ok.unwish, I.os, I.bare, I.base, I.loc, I.cell, I.free, I.freeC, I.pin, I.hok, I.len⟩
theorem SP.unwish {D : Ends} {f : Flow} {s' : Shared} (h : SP (X.wish E) pins D f s') : SP X pins D f s' := by
  cases f with
  | next => obtain ⟨σ', H', I, q⟩ := h; exact ⟨σ', H', I.unwish, q⟩
  | brk => obtain ⟨σ', H', I, q⟩ := h; exact ⟨σ', H', I.unwish, q⟩
  | cont => obtain ⟨σ', H', I, q⟩ := h; exact ⟨σ', H', I.unwish, q⟩
  | ret u => obtain ⟨v, σ', H', I, r, q⟩ := h; exact ⟨v, σ', H', I.unwish, r, q⟩
theorem PSs.nox {st : List Stmt} {t : TS} (h : PSs X.nox st t) : PSs X st t := fun pins s σ H D I hw =>
  wpAny_mono (h pins s σ H D (I.wish _) hw) (fun _ _ q => q.unwish) fun _ _ z => False.elim z
end
section
variable {X : Cx} {st : Stmt} {rest : List Stmt} {t u : TS} {e : Expr} {te : TE} {pos : Pos}
def tNext : TS := fun D σ H => D.nx σ H
def tSeq (t u : TS) : TS := fun D σ H => t { D with nx := u D } σ H
theorem pss_nil : PSs X [] tNext := fun _ _ σ H _ I h => wpAny_execs_nil ⟨σ, H, I, h⟩
theorem pss_cons (h1 : PS X st t) (h2 : PSs X rest u) : PSs X (st :: rest) (tSeq t u) := by
  intro pins s σ H D I h
  refine wpAny_execs_cons (thn (h1 pins s σ H { D with nx := u D } I h) fun f s1 q => ?_)
  cases f with
  | next =>
    obtain ⟨σ', H', I', q⟩ := q
    exact h2 pins s1 σ' H' D I' q
  | ret v => exact q
  | brk => exact q
  | cont => exact q
theorem pss_one (h1 : PS X st t) : PSs X [st] t := by
  intro pins s σ H D I h
  refine wpAny_execs_cons (thn (h1 pins s σ H D I h) fun f s1 q => ?_)
  cases f with
  | next => exact wpAny_execs_nil q
  | ret v => exact q
  | brk => exact q
  | cont => exact q
theorem Inv.quiet {pins : List (Addr × Obj)} {σ : St} {H : Hp} {s : Shared} (I : Inv X pins σ H s) : interactive X.env = false := by simp [interactive, I.ok.kind]
def tDrop (te : TE) : TS := fun D σ H => te σ H fun _ H1 => D.nx σ H1
theorem ps_expr (he : PE X e te) (hs : swapsWith e none pos.line X.env = pure false := by rfl) : PS X (.Expr e pos) (tDrop te) := by
  intro pins s σ H D I h
  exact wpAny_Expr_any (thn (he pins s σ H _ I h) fun v s1 ⟨x, H1, I1, r1, q1⟩ => ⟨σ, H1, I1, q1⟩) I.quiet hs
def tRet (te : TE) : TS := fun D σ H => te σ H D.rt
theorem ps_ret (he : PE X e te) : PS X (.Return (some e) pos) (tRet te) := by
  intro pins s σ H D I h
  exact wpAny_Return_some (thn (he pins s σ H _ I h) fun v s1 ⟨x, H1, I1, r1, q1⟩ => ⟨x, σ, H1, I1, r1, q1⟩)
def tIfS (c : TT) (t u : TS) : TS := fun D σ H => c σ H fun b H1 => if b = true then t D σ H1 else u D σ H1
theorem ps_if {c : Expr} {a b : List Stmt} {tc : TT} (hc : PT X c tc) (ha : PSs X a t) (hb : PSs X b u) : PS X (.If c a b pos) (tIfS tc t u) := by
  intro pins s σ H D I h
  refine wpAny_If (thn (hc pins s σ H _ I h) fun d s1 ⟨H1, I1, q1⟩ => ?_)
  cases d with
  | true => exact ha pins s1 σ H1 D I1 q1
  | false => exact hb pins s1 σ H1 D I1 q1
def tNever : TS := fun _ _ _ => False
theorem ps_never : PS X st tNever := fun _ _ _ _ _ _ h => h.elim
end
abbrev TG := V → St → Hp → (St → Hp → Prop) → Prop
abbrev TGs := List V → St → Hp → (St → Hp → Prop) → Prop
def PG (X : Cx) (target : Expr) (t : TG) : Prop :=
  ∀ (pins : List (Addr × Obj)) (s : Shared) (σ : St) (H : Hp) (v : V) (u : Value) (Q : St → Hp → Prop), Inv X pins σ H s → RelV v u → t v σ H Q →
    wpAny (model X.prog X.w) X.A (assign target X.env u) (fun _ s' => ∃ σ' H', Inv X pins σ' H' s' ∧ Q σ' H') X.xe s
def PGs (X : Cx) (ts : List Expr) (t : TGs) : Prop :=
  ∀ (pins : List (Addr × Obj)) (s : Shared) (σ : St) (H : Hp) (vs : List V) (us : List Value) (Q : St → Hp → Prop), Inv X pins σ H s → Vals vs us → t vs σ H Q →
    wpAny (model X.prog X.w) X.A (assignInOrder ((assignEach ts X.env).map (·.2)) us) (fun _ s' => ∃ σ' H', Inv X pins σ' H' s' ∧ Q σ' H') X.xe s
abbrev TSet := V → V → V → Hp → (Hp → Prop) → Prop
def PSet (X : Cx) (t : TSet) : Prop :=
  ∀ (pins : List (Addr × Obj)) (s : Shared) (σ : St) (H : Hp) (o i v : V) (ov iv u : Value) (Q : Hp → Prop), Inv X pins σ H s → RelV o ov → RelV i iv → RelV v u → t o i v H Q →
    wpAny (model X.prog X.w) X.A (setItem ov iv u) (fun _ s' => ∃ H', Inv X pins σ H' s' ∧ Q H') X.xe s
abbrev TIp := V → V → Hp → VK → Prop
def PIp (X : Cx) (op : Operator) (t : TIp) : Prop :=
  ∀ (pins : List (Addr × Obj)) (s : Shared) (σ : St) (H : Hp) (x y : V) (v u : Value) (Q : VK), Inv X pins σ H s → RelV x v → RelV y u → t x y H Q →
    wpAny (model X.prog X.w) X.A (inplaceOp op v u) (EP X pins σ Q) X.xe s
section
variable {X : Cx} {pos : Pos}
def gName (i : Nat) : TG := fun v σ H Q => Q (σ.set i (some v)) H
theorem pg_name {i : Nat} {x : Str} (hN : X.N.Nodup) (hi : X.N[i]? = some x) (hx : Loc X.env.scope x) (hf : X.fn x = true ∨ X.env.scope.names.lookup x = some .local := by first | exact .inl rfl | exact .inr rfl | assumption) : PG X (.Name x pos) (gName i) := by
  intro pins s σ H v u Q I r h
  exact wpAny_assign_Name (store_ok I hN hi hx r (fun s' I' => ⟨_, H, I', h⟩) hf)
def gNil : TGs := fun vs σ H Q => vs = [] ∧ Q σ H
def gCons (t : TG) (u : TGs) : TGs := fun vs σ H Q => ∃ v r, vs = v :: r ∧ t v σ H fun σ' H' => u r σ' H' Q
theorem pgs_nil : PGs X [] gNil := by
  intro pins s σ H vs us Q I r h
  obtain ⟨e, h⟩ := h
  subst e
  cases r
  exact assignInOrder_nil ⟨σ, H, I, h⟩
theorem pgs_cons {e : Expr} {es : List Expr} {t : TG} {u : TGs} (h1 : PG X e t) (h2 : PGs X es u)
    (hs : (assignEach (e :: es) X.env).map (·.2) = assign e X.env :: (assignEach es X.env).map (·.2) := by rfl) : PGs X (e :: es) (gCons t u) := by
  intro pins s σ H vs us Q I r h
  obtain ⟨v, vr, e1, h⟩ := h
  subst e1
  cases r with
  | cons r rr =>
    rw [hs]
    refine assignInOrder_cons (thn (h1 pins s σ H _ _ _ I r h) fun _ s1 ⟨σ1, H1, I1, q1⟩ => ?_)
    exact h2 pins s1 σ1 H1 _ _ Q I1 rr q1
def gTup (K : PySem.W.Frag) (n : Nat) (t : TGs) : TG := fun v σ H Q => ∃ a xs, v = .ref a ∧ SqT K H a xs ∧ xs.length = n ∧ t xs σ H Q
theorem pg_tup {es : List Expr} {k : Nat} {t : TGs} {n : Nat} (hc : X.calm = true) (h : PGs X es t)
    (hn : (assignEach es X.env).length = n := by rfl) (hst : (assignEach es X.env).findIdx? (·.1) = none := by rfl) : PG X (.Tuple es k pos) (gTup X.K n t) := by
  intro pins s σ H v u Q I r hw
  obtain ⟨a, xs, e1, hq, hl, hw⟩ := hw
  subst e1
  cases r
  obtain ⟨its, rv, ht, hz⟩ := I.tuple hq
  refine assign_Tuple_tuple (I.ok.hd hc) ht (by simp [hn, ← hl, rv.length]) hst fun h' hx => ?_
  have I1 : Inv X pins σ H { s with heap := h' } := I.kept (t' := s.toks) fun b o e => hx b o (Nat.ne_of_lt (Heap.lt_size e)) e
  exact h pins _ σ H xs _ Q I1 (by simpa using rv) hw
def gSub (to ti : TE) (t : TSet) : TG := fun v σ H Q => to σ H fun o H1 => ti σ H1 fun i H2 => t o i v H2 fun H3 => Q σ H3
theorem pg_sub {o i : Expr} {to ti : TE} {t : TSet} (ho : PE X o to) (hi : PE X i ti) (hs : PSet X t)
    (ha : ∀ v, assign (.Subscript o i pos) X.env v = (do
      let ov ← holding [v] (eval o X.env)
      let iv ← holding [v, ov] (eval i X.env)
      standAt pos
      holding [v, ov, iv] (setItem ov iv v)
      release [v, ov, iv] []) := by intro _; rfl) : PG X (.Subscript o i pos) (gSub to ti t) := by
  intro pins s σ H v u Q I r h
  rw [ha]
  refine wpAny_bind (wpAny_holding (thn (ho pins s σ H _ I h) fun ov s1 ⟨x, H1, I1, r1, q1⟩ => ?_))
  refine wpAny_bind (wpAny_holding (thn (hi pins s1 σ H1 _ I1 q1) fun iv s2 ⟨y, H2, I2, r2, q2⟩ => ?_))
  refine wpAny_bind (wpAny_standAt (wpAny_bind (wpAny_holding (thn (hs pins s2 σ H2 x y v ov iv u _ I2 r1 r2 r q2) fun _ s3 ⟨H3, I3, q3⟩ => ?_))))
  exact wpAny_release ⟨σ, H3, I3, q3⟩
def tAsg (te : TE) (g : TG) : TS := fun D σ H => te σ H fun x H1 => g x σ H1 D.nx
theorem ps_asg {tg e : Expr} {te : TE} {g : TG} (he : PE X e te) (hg : PG X tg g) (hs : swapsWithSole [tg] e pos.line X.env = pure false := by rfl) (hw : swappedStores [tg] e X.env = pure none := by rfl)
    (h1 : (assignEach [tg] X.env).map (·.2) = [assign tg X.env] := by rfl) : PS X (.Assign [tg] e pos) (tAsg te g) := by
  intro pins s σ H D I h
  refine wpAny_Assign_stores (thn (he pins s σ H _ I h) fun v s1 ⟨x, H1, I1, r1, q1⟩ => ?_) hs hw
  rw [h1]
  exact thn (hg pins s1 σ H1 x v _ I1 r1 q1) fun _ s2 q => q
theorem ps_set {i : Nat} {x : Str} {e : Expr} {te : TE} {pos' : Pos} (hN : X.N.Nodup) (hi : X.N[i]? = some x) (hx : Loc X.env.scope x) (he : PE X e te) (hs : swapsWith e (some (.Name x pos')) pos.line X.env = pure false := by rfl) (hf : X.fn x = true ∨ X.env.scope.names.lookup x = some .local := by first | exact .inl rfl | exact .inr rfl | assumption) :
    PS X (.Assign [.Name x pos'] e pos) (tAsg te (gName i)) := by
  intro pins s σ H D I h
  refine wpAny_Assign_Name (thn (he pins s σ H _ I h) fun v s1 ⟨y, H1, I1, r1, q1⟩ => ?_) hs
  exact store_ok I1 hN hi hx r1 (fun s2 I2 => ⟨_, H1, I2, q1⟩) hf
def tAug (i : Nat) (te : TE) (ti : TIp) : TS := fun D σ H => ∃ x, σ[i]? = some (some x) ∧ te σ H fun y H1 => ti x y H1 fun z H2 => D.nx (σ.set i (some z)) H2
theorem ps_aug {i : Nat} {x : Str} {e : Expr} {te : TE} {op : Operator} {ti : TIp} {pos' : Pos} (hN : X.N.Nodup) (hi : X.N[i]? = some x) (hx : Loc X.env.scope x) (he : PE X e te) (ho : PIp X op ti) (hf : X.fn x = true ∨ X.env.scope.names.lookup x = some .local := by first | exact .inl rfl | exact .inr rfl | assumption) :
    PS X (.AugAssign (.Name x pos') op e pos) (tAug i te ti) := by
  intro pins s σ H D I h
  obtain ⟨v, e1, h⟩ := h
  obtain ⟨m, hn, hl⟩ := I.loc
  have vis : Vis X.env.scope x := by rcases hx with k | k; exact .inl k; exact .inr (.inl k)
  obtain ⟨u, r, l⟩ := hl i x v hi e1 vis
  refine wpAny_AugAssign_Name ?_
  have go : wpAny (model X.prog X.w) X.A (eval e X.env) (fun w s₂ => wpAny (model X.prog X.w) X.A (inplaceOp op u w) (fun r s₃ => wpAny (model X.prog X.w) X.A (storeName X.env x r) (fun _ => SP X pins D .next) X.xe s₃) X.xe s₂) X.xe s := by
    refine thn (he pins s σ H _ I h) fun w s1 ⟨y, H1, I1, r1, q1⟩ => ?_
    refine thn (ho pins s1 σ H1 v y u w _ I1 r r1 q1) fun z s2 ⟨zv, H2, I2, r2, q2⟩ => ?_
    exact store_ok I2 hN hi hx r2 (fun s3 I3 => ⟨_, H2, I3, q2⟩) hf
  rcases l with ⟨hk, hm⟩ | ⟨hk, c, hc, hcell⟩
  · exact wpAny_loadName_local I.ok.kind hk hn hm go
  · rcases hk with hk | hk
    · exact wpAny_loadName_cell I.ok.kind hk hc hcell go
    · rcases hx with k | k
      · have : X.env.scope.names.lookup x = some .free := hk
        rw [k] at this; cases this
      · have : X.env.scope.names.lookup x = some .free := hk
        rw [k] at this; cases this
end
section
variable {X : Cx} {pos : Pos}
end
structure It where
  go : Nat → Hp → Prop
  yld : Nat → Hp → V → Hp → Prop
  stop : Nat → Hp → Prop
def FpOk (X : Cx) (pins : List (Addr × Obj)) (H : Hp) (b : Addr) : Prop :=
  H b = none ∧ b ≠ X.env.locals ∧ b ∉ X.fs ∧ (b ∈ X.ex ∨ X.s₀.heap.objs.size ≤ b) ∧ (∀ x c, X.env.cells.lookup x = some c → c ≠ b) ∧ ∀ p ∈ X.pn ++ pins, p.1 ≠ b
theorem Inv.fpOk {X : Cx} {pins : List (Addr × Obj)} {σ : St} {H H' : Hp} {s : Shared} {b : Addr} (I : Inv X pins σ H s) (hb : s.heap.objs.size ≤ b) (hn : H' b = none) : FpOk X pins H' b := by
  refine ⟨hn, Nat.ne_of_gt (Nat.lt_of_lt_of_le I.lt hb), I.nofs hb, .inr (Nat.le_trans I.sz hb), fun x c e z => ?_, fun p hp z => ?_⟩
  · obtain ⟨v, q⟩ := I.cell x c e
    exact absurd (Nat.lt_of_lt_of_le q.lt (by rw [z]; exact hb)) (Nat.lt_irrefl _)
  · exact absurd (Nat.lt_of_lt_of_le (Heap.lt_size (I.pin p hp).1) (by rw [z]; exact hb)) (Nat.lt_irrefl _)
structure Turn (P : Program) (w : World) (K : PySem.W.Frag) (tg : Expr) (J : It) (fp : List Addr) (it : Addr) (tn : Nat → Heap → Prop) : Prop where
  mem : it ∈ fp
  obj : ∀ i h, tn i h → ∀ b ∈ fp, ∃ o, h.get? b = some o ∧ ∀ v, o.data ≠ .cell v
  keep : ∀ i h h', tn i h → (∀ b ∈ fp, ∀ o, h.get? b = some o → h'.get? b = some o) → tn i h'
  item : ∀ (X : Cx), X.prog = P → X.w = w → X.K = K → X.calm = true → ∀ (i : Nat) (pins : List (Addr × Obj)) (s : Shared) (σ : St) (H : Hp) (E : Value → Shared → Prop), Inv X pins σ H s → (∀ b ∈ fp, FpOk X pins H b) → tn i s.heap → J.go i H →
    wpAny (model P w) X.A (pyNext (.ref it)) (fun r s1 => ∃ u, r = some u ∧
      wpAny (model P w) X.A (letOwnedTupleGo tg (.ref it) u) (fun _ s2 => ∃ x H', Inv X pins σ H' s2 ∧ RelV x u ∧ J.yld i H x H' ∧ tn (i + 1) s2.heap ∧ ∀ b ∈ fp, H' b = none) E s1) E s
  done : ∀ (X : Cx), X.prog = P → X.w = w → X.K = K → X.calm = true → ∀ (i : Nat) (pins : List (Addr × Obj)) (s : Shared) (σ : St) (H : Hp) (E : Value → Shared → Prop), Inv X pins σ H s → (∀ b ∈ fp, FpOk X pins H b) → tn i s.heap → J.stop i H →
    wpAny (model P w) X.A (pyNext (.ref it)) (fun r s1 => r = none ∧ Inv X pins σ H s1) E s
  self : ∀ (A : Around) (i : Nat) (s : Shared) (Q : Value → Shared → Prop) (E : Value → Shared → Prop), tn i s.heap → Q (.ref it) s → wpAny (model P w) A (pyIter (.ref it)) Q E s
abbrev TI := St → Hp → (It → Hp → Prop) → Prop
def PIE (X : Cx) (pins : List (Addr × Obj)) (σ : St) (tg : Expr) (R : It → Hp → Prop) (itv : Value) (s2 : Shared) : Prop :=
  ∃ (it : Addr) (fp : List Addr) (tn : Nat → Heap → Prop) (J : It) (H' : Hp), itv = .ref it ∧ Inv X pins σ H' s2 ∧ Turn X.prog X.w X.K tg J fp it tn ∧ tn 0 s2.heap ∧ (∀ b ∈ fp, FpOk X pins H' b) ∧ R J H'
def PI (X : Cx) (tg iter : Expr) (wi : TI) : Prop :=
  ∀ (pins : List (Addr × Obj)) (s : Shared) (σ : St) (H : Hp) (R : It → Hp → Prop), Inv X pins σ H s → wi σ H R →
    wpAny (model X.prog X.w) X.A (eval iter X.env) (fun v s1 => wpAny (model X.prog X.w) X.A (pyIter v) (PIE X pins σ tg R) X.xe s1) X.xe s
theorem go_of {M : Model} {A : Around} {E : Value → Shared → Prop} {s : Shared} {tg : Expr} {it : Addr} {u : Value} {o : Obj} {n : String} {vs : Array Value} {Q : Unit → Shared → Prop} (ho : s.heap.get? it = some o) (hc : o.cls = .type n) (hd : o.data = .fields vs)
    (hn : ["enumerate", "zip", "dict_itemiterator", "dict_reverseitemiterator", "odict_iterator", "itertools.zip_longest", "itertools.pairwise"].contains n = false) (hQ : Q () s) : wpAny M A (letOwnedTupleGo tg (.ref it) u) Q E s := by
  unfold letOwnedTupleGo
  cases tg <;> first
    | exact wpAny_pure hQ
    | (cases u <;> first
        | exact wpAny_pure hQ
        | (refine wpAny_bind (wpAny_load ho ?_)
           rw [hc, hd]
           show wpAny M A (if (["enumerate", "zip", "dict_itemiterator", "dict_reverseitemiterator", "odict_iterator", "itertools.zip_longest", "itertools.pairwise"].contains n && vs[0]? == some (rawInt _)) = true then _ else _) Q E s
           rw [if_neg (by intro h; rw [hn, Bool.false_and] at h; cases h)]
           exact wpAny_pure hQ))
def Itl (K : PySem.W.Frag) (a : Addr) : It :=
  ⟨fun i H => ∃ xs x, SqL K H a xs ∧ xs[i]? = some x, fun i H x H' => H' = H ∧ ∀ xs, SqL K H a xs → xs[i]? = some x, fun i H => ∃ xs, SqL K H a xs ∧ xs.length ≤ i⟩
def Itt (K : PySem.W.Frag) (a : Addr) : It :=
  ⟨fun i H => ∃ xs x, SqT K H a xs ∧ xs[i]? = some x, fun i H x H' => H' = H ∧ ∀ xs, SqT K H a xs → xs[i]? = some x, fun i H => ∃ xs, SqT K H a xs ∧ xs.length ≤ i⟩
def Itr (lo : Int) (n : Nat) : It := ⟨fun i _ => i < n, fun i H x H' => H' = H ∧ x = .int (lo + i), fun i _ => n ≤ i⟩
theorem turn_list {P : Program} {w : World} {K : PySem.W.Frag} {tg : Expr} (a it : Addr) : Turn P w K tg (Itl K a) [it] it (fun i h => h.IsListIter it a i) where
  mem := by simp
  obj := fun i h st b hb => by
    have e : b = it := by simpa using hb
    subst e
    obtain ⟨o, e, c, d⟩ := st
    exact ⟨o, e, fun v z => by rw [d] at z; cases z⟩
  keep := fun i h h' st k => st.at fun o e => k it (by simp) o e
  item := by
    intro X hP hw hK hc i pins s σ H E I hf st hg
    subst hP hw hK
    obtain ⟨xs, x, hq, hx⟩ := hg
    obtain ⟨its, rv, p, hz⟩ := I.list hq
    obtain ⟨u, hu, ru⟩ := rv.get hx
    obtain ⟨f0, f1, f2, f3, f4, f5⟩ := hf it (by simp)
    refine wpAny_pyNext_list_item st p.isList (x := u) (by simpa using hu) fun h' st' sb => ?_
    have I1 : Inv X pins σ H { s with heap := h' } := I.turned (t' := s.toks) (fun b o hb e => (sb.2 b hb).trans e) f0 f1 f3 f4 f5
    obtain ⟨o, e, c, d⟩ := id st'
    exact ⟨u, rfl, go_of (s := { s with heap := h' }) e c d (by decide) ⟨x, H, I1, ru, ⟨rfl, fun ys hy => by rw [I.list_inj hy hq]; exact hx⟩, st', fun b hb => (hf b hb).1⟩⟩
  done := by
    intro X hP hw hK hc i pins s σ H E I hf st hg
    subst hP hw hK
    obtain ⟨xs, hq, hx⟩ := hg
    obtain ⟨its, rv, p, hz⟩ := I.list hq
    obtain ⟨f0, f1, f2, f3, f4, f5⟩ := hf it (by simp)
    have hl := rv.length
    exact wpAny_pyNext_list_end (I.ok.hd hc) st p.isList (by simp; omega) fun h' eb => ⟨rfl, I.turned (t' := s.toks) (fun b o hb e => eb b o hb e) f0 f1 f3 f4 f5⟩
  self := fun _ _ _ _ _ st h => wpAny_pyIter_listiter st h
theorem turn_tuple {P : Program} {w : World} {K : PySem.W.Frag} {tg : Expr} (a it : Addr) : Turn P w K tg (Itt K a) [it] it (fun i h => h.IsTupleIter it a i) where
  mem := by simp
  obj := fun i h st b hb => by
    have e : b = it := by simpa using hb
    subst e
    obtain ⟨o, e, c, d⟩ := st
    exact ⟨o, e, fun v z => by rw [d] at z; cases z⟩
  keep := fun i h h' st k => st.at fun o e => k it (by simp) o e
  item := by
    intro X hP hw hK hc i pins s σ H E I hf st hg
    subst hP hw hK
    obtain ⟨xs, x, hq, hx⟩ := hg
    obtain ⟨its, rv, p, hz⟩ := I.tuple hq
    obtain ⟨u, hu, ru⟩ := rv.get hx
    obtain ⟨f0, f1, f2, f3, f4, f5⟩ := hf it (by simp)
    refine wpAny_pyNext_tuple_item st (show s.heap.IsTuple a its.toArray from p) (x := u) (by simpa using hu) fun h' st' sb => ?_
    have I1 : Inv X pins σ H { s with heap := h' } := I.turned (t' := s.toks) (fun b o hb e => (sb.2 b hb).trans e) f0 f1 f3 f4 f5
    obtain ⟨o, e, c, d⟩ := id st'
    exact ⟨u, rfl, go_of (s := { s with heap := h' }) e c d (by decide) ⟨x, H, I1, ru, ⟨rfl, fun ys hy => by rw [I.tuple_inj hy hq]; exact hx⟩, st', fun b hb => (hf b hb).1⟩⟩
  done := by
    intro X hP hw hK hc i pins s σ H E I hf st hg
    subst hP hw hK
    obtain ⟨xs, hq, hx⟩ := hg
    obtain ⟨its, rv, p, hz⟩ := I.tuple hq
    obtain ⟨f0, f1, f2, f3, f4, f5⟩ := hf it (by simp)
    have hl := rv.length
    exact wpAny_pyNext_tuple_end (I.ok.hd hc) st (show s.heap.IsTuple a its.toArray from p) (by simp; omega) fun h' eb => ⟨rfl, I.turned (t' := s.toks) (fun b o hb e => eb b o hb e) f0 f1 f3 f4 f5⟩
  self := fun _ _ _ _ _ st h => wpAny_pyIter_tupleiter st h
theorem turn_range {P : Program} {w : World} {K : PySem.W.Frag} {tg : Expr} (it : Addr) (lo : Int) (n : Nat) : Turn P w K tg (Itr lo n) [it] it (fun i h => IsRangeIter h it (lo + (i : Nat) * 1) ((n : Int) - (i : Nat)) 1) where
  mem := by simp
  obj := fun i h st b hb => by
    have e : b = it := by simpa using hb
    subst e
    exact ⟨_, st, fun v z => by
      have z' : Data.fields _ = Data.cell v := z
      cases z'⟩
  keep := fun i h h' st k => k it (by simp) _ st
  item := by
    intro X hP hw hK hc i pins s σ H E I hf st hg
    subst hP hw hK
    obtain ⟨f0, f1, f2, f3, f4, f5⟩ := hf it (by simp)
    have W := Walks.range (prog := X.prog) (w := X.w) (I.ok.hd hc) it lo 1 n
    refine W.item i s _ _ hg st fun v h' tk hv st' kk => ?_
    obtain ⟨t, rfl⟩ := hv
    have I1 : Inv X pins σ H { s with heap := h', toks := tk } := I.turned (fun b o hb e => kk b o (by simpa using hb) e) f0 f1 f3 f4 f5
    refine ⟨_, rfl, go_of (s := { s with heap := h', toks := tk }) (n := "range_iterator") st' rfl rfl (by decide) ⟨.int (lo + i), H, I1, ⟨t, ?_⟩, ⟨rfl, rfl⟩, st', fun b hb => (hf b hb).1⟩⟩
    rw [Int.mul_one]
  done := by
    intro X hP hw hK hc i pins s σ H E I hf st hg
    subst hP hw hK
    obtain ⟨f0, f1, f2, f3, f4, f5⟩ := hf it (by simp)
    exact wpAny_pyNext_range_end (I.ok.hd hc) st (by have : n ≤ i := hg; omega) fun h' eb => ⟨rfl, I.turned (t' := s.toks) (fun b o hb e => eb b o hb e) f0 f1 f3 f4 f5⟩
  self := fun _ _ _ _ _ st h => wpAny_pyIter_rangeiter st h
end L2
namespace L2
open PySem PySem.Spec PyProof.Rows
section
variable {X : Cx} {tg : Expr}
theorem range_it {pins : List (Addr × Obj)} {σ : St} {H : Hp} {s : Shared} {R : It → Hp → Prop} {E : Value → Shared → Prop} {lo hi : Int} {t u v : Tok} {tk : Nat} (I : Inv X pins σ H s) (h1 : -(2 ^ 62) ≤ lo) (h2 : lo < 2 ^ 62) (h3 : -(2 ^ 62) ≤ hi) (h4 : hi < 2 ^ 62)
    (q : R (Itr lo (hi - lo).toNat) H) : wpAny (model X.prog X.w) X.A (pyIter (.ref s.heap.objs.size)) (PIE X pins σ tg R) E { s with heap := s.heap.push { cls := .type "range", data := .fields #[.int lo t, .int hi u, .int 1 v] }, toks := tk } := by
  refine wpAny_pyIter_range (IsRange.new ..) (small_one h1 h2 h3 h4) ?_
  have I1 : Inv X pins σ H { s with heap := s.heap.push { cls := .type "range", data := .fields #[.int lo t, .int hi u, .int 1 v] }, toks := tk } := I.kept fun b o e => Heap.get?_push_of_some _ e
  refine ⟨(s.heap.push { cls := .type "range", data := .fields #[.int lo t, .int hi u, .int 1 v] }).objs.size, [(s.heap.push { cls := .type "range", data := .fields #[.int lo t, .int hi u, .int 1 v] }).objs.size], _, _, H, rfl,
    I1.kept (t' := tk) fun b o e => Heap.get?_push_of_some _ e, turn_range _ lo (hi - lo).toNat, ?_, fun b hb => ?_, q⟩
  · have e1 : lo + ((0 : Nat) : Int) * 1 = lo := by simp
    have e2 : (((hi - lo).toNat : Nat) : Int) - ((0 : Nat) : Int) = Builtin.Range.rangeSize lo hi 1 := by rw [rangeSize_one]; split <;> omega
    show IsRangeIter _ _ (lo + ((0 : Nat) : Int) * 1) ((((hi - lo).toNat : Nat) : Int) - ((0 : Nat) : Int)) 1
    rw [e1, e2]
    exact Heap.get?_push_size _ rfl
  · have e : b = (s.heap.push { cls := .type "range", data := .fields #[.int lo t, .int hi u, .int 1 v] }).objs.size := by simpa using hb
    subst e
    exact I1.fpOk (Nat.le_refl _) (I1.hok.fresh (Nat.le_refl _))
def iRng1 (ta : TA) : TI := fun σ H R => ta σ H fun vs H1 => ∃ j : Int, vs = [.int j] ∧ -(2 ^ 62) ≤ j ∧ j < 2 ^ 62 ∧ R (Itr 0 j.toNat) H1
theorem pi_range1 {a : Expr} {ta : TA} {p pos : Pos} (hg : Gl X "range") (hm : X.mg "range" = none) (ha : PA X [a] ta) (hs : starEach [a] X.env = [(false, eval a X.env)] := by rfl) : PI X tg (.Call (.Name "range" p) [a] [] pos) (iRng1 ta) := by
  intro pins s σ H R I h
  refine Call_ (ld_blt I hg hm boot_range (PyProof.Rows.callWith_type1 (thn (ha pos pins s σ H _ I h) fun us s1 ⟨vs, H1, I1, r1, q1⟩ => ?_) hs rfl))
  obtain ⟨j, e, q1, q2, q⟩ := q1
  subst e
  cases r1 with
  | cons r rr =>
    cases rr
    obtain ⟨t, rfl⟩ := r
    exact call_range_1 (range_it I1 (by omega) (by omega) q1 q2 (by simpa using q))
def tFor (wi : TI) (g : TG) (tb : TS) : TS := fun D σ H => wi σ H fun J H1 => ∃ W : Nat → Nat → St → Hp → Prop, (∃ m, W 0 m σ H1) ∧ ∀ i m σ H, W i m σ H →
  (J.stop i H ∧ D.nx σ H) ∨ (J.go i H ∧ ∃ N : St → Hp → Prop, (∀ σ' H', N σ' H' → ∃ m', m' < m ∧ W (i + 1) m' σ' H') ∧ ∀ x H', J.yld i H x H' → g x σ H' fun σ2 H2 => tb { D with nx := N, ct := N, bk := D.nx } σ2 H2)
def pinsAt (fp : List Addr) (h : Heap) : List (Addr × Obj) := fp.filterMap fun b => (h.get? b).map fun o => (b, o)
theorem mem_pinsAt {fp : List Addr} {h : Heap} {b : Addr} {o : Obj} (hb : b ∈ fp) (e : h.get? b = some o) : (b, o) ∈ pinsAt fp h := List.mem_filterMap.mpr ⟨b, hb, by rw [e]; rfl⟩
theorem of_pinsAt {fp : List Addr} {h : Heap} {p : Addr × Obj} (hp : p ∈ pinsAt fp h) : p.1 ∈ fp ∧ h.get? p.1 = some p.2 := by
  obtain ⟨b, hb, e⟩ := List.mem_filterMap.mp hp
  cases q : h.get? b with
  | none => rw [q] at e; cases e
  | some o =>
    rw [q] at e
    have e' : (b, o) = p := Option.some.inj e
    subst e'
    exact ⟨hb, q⟩
theorem Inv.pinned {pins : List (Addr × Obj)} {σ : St} {H : Hp} {s : Shared} {fp : List Addr} (I : Inv X pins σ H s) (hf : ∀ b ∈ fp, FpOk X pins H b) (ho : ∀ b ∈ fp, ∃ o, s.heap.get? b = some o ∧ ∀ v, o.data ≠ .cell v) : Inv X (pins ++ pinsAt fp s.heap) σ H s :=
  I.pins_of fun p hp => (List.mem_append.mp hp).elim (fun z => I.pin p (List.mem_append_right _ z)) fun z => by
    obtain ⟨hb, e⟩ := of_pinsAt z
    obtain ⟨f0, f1, f2, _⟩ := hf p.1 hb
    obtain ⟨o, e', d⟩ := ho p.1 hb
    rw [e] at e'; cases e'
    exact ⟨e, f0, f1, f2, d⟩
theorem Inv.unpinned {pins pl : List (Addr × Obj)} {σ : St} {H : Hp} {s : Shared} (I : Inv X (pins ++ pl) σ H s) : Inv X pins σ H s := I.pins_of fun p hp => I.pin p (List.mem_append_right _ (List.mem_append_left _ hp))
theorem ps_for {iter : Expr} {body : List Stmt} {wi : TI} {g : TG} {tb : TS} {pos : Pos} (hp : PassesOwn (model X.prog X.w) X.A X.env X.xe) (hc : X.calm = true) (hi : PI X tg iter wi) (hg : PG X tg g) (hb : PSs X body tb)
    (hs : ∀ x, foldedSetIterable iter X.env x = pure x := by intro _; rfl) : PS X (.For tg iter body [] pos) (tFor wi g tb) := by
  intro pins s σ H D I h
  refine wpAny_For (thn (hi pins s σ H _ I h) fun v s1 h1 => thn h1 fun itv s2 h2 => ?_) hs
  obtain ⟨it, fp, tn, J, H2, e, I2, T, st2, f2, W, ⟨m0, w0⟩, turn⟩ := h2
  subst e
  have stat : ∀ {H' : Hp}, (∀ b ∈ fp, H' b = none) → ∀ b ∈ fp, FpOk X pins H' b := fun hn b hb => ⟨hn b hb, (f2 b hb).2⟩
  refine codeAny_forLoop_any (fun n s' => ∃ i σ' H', Inv X pins σ' H' s' ∧ tn i s'.heap ∧ (∀ b ∈ fp, H' b = none) ∧ W i n σ' H') ?_ m0 ⟨0, σ, H2, I2, st2, fun b hb => (f2 b hb).1, w0⟩
  rintro n s3 ⟨i, σ3, H3, I3, st3, fr3, w3⟩
  rcases turn i n σ3 H3 w3 with ⟨stop, qn⟩ | ⟨go, N, hN, step⟩
  · refine wpAny_passesOwn hp (thn (T.done X rfl rfl rfl hc i pins s3 σ3 H3 X.xe I3 (stat fr3) st3 stop) fun r s4 ⟨hr, I4⟩ => ?_)
    subst hr
    exact wpAny_execs_nil ⟨σ3, H3, I4, qn⟩
  · refine wpAny_passesOwn hp (thn (T.item X rfl rfl rfl hc i pins s3 σ3 H3 X.xe I3 (stat fr3) st3 go) fun r s4 ⟨u, hr, h4⟩ => ?_)
    subst hr
    refine wpAny_passesOwn hp (thn h4 fun _ s5 ⟨x, H5, I5, r5, y5, st5, fr5⟩ => ?_)
    have I5' := I5.pinned (stat fr5) (T.obj _ _ st5)
    refine wpAny_passesOwn hp (thn (hg _ s5 σ3 H5 x u _ I5' r5 (step x H5 y5)) fun _ s6 ⟨σ6, H6, I6, q6⟩ => ?_)
    refine wpAny_passesOwn hp (thn (hb _ s6 σ6 H6 _ I6 q6) fun f s7 q7 => ?_)
    have again : ∀ {σ7 : St} {H7 : Hp}, Inv X (pins ++ pinsAt fp s5.heap) σ7 H7 s7 → N σ7 H7 → ∃ m, m < n ∧ ∃ i σ' H', Inv X pins σ' H' s7 ∧ tn i s7.heap ∧ (∀ b ∈ fp, H' b = none) ∧ W i m σ' H' := fun {σ7 H7} I7 n7 => by
      obtain ⟨m', hm, w7⟩ := hN σ7 H7 n7
      refine ⟨m', hm, i + 1, σ7, H7, I7.unpinned, T.keep _ _ _ st5 fun b hb o e => (I7.pin (b, o) (List.mem_append_right _ (List.mem_append_right _ (mem_pinsAt hb e)))).1, fun b hb => ?_, w7⟩
      obtain ⟨o, e, d⟩ := T.obj _ _ st5 b hb
      exact (I7.pin (b, o) (List.mem_append_right _ (List.mem_append_right _ (mem_pinsAt hb e)))).2.1
    cases f with
    | next => obtain ⟨σ7, H7, I7, n7⟩ := q7; exact again I7 n7
    | cont => obtain ⟨σ7, H7, I7, n7⟩ := q7; exact again I7 n7
    | brk => obtain ⟨σ7, H7, I7, q7⟩ := q7; exact ⟨σ7, H7, I7.unpinned, q7⟩
    | ret v => obtain ⟨x7, σ7, H7, I7, r7, q7⟩ := q7; exact ⟨x7, σ7, H7, I7.unpinned, r7, q7⟩
end
end L2
namespace L2
open PySem PySem.Spec PyProof.Rows
abbrev R2 := V → V → Hp → VK → Prop
def OpR (X : Cx) (f : Value → Value → Sem Value) (r : R2) : Prop :=
  ∀ (pins : List (Addr × Obj)) (s : Shared) (σ : St) (H : Hp) (x y : V) (v u : Value) (Q : VK), Inv X pins σ H s → RelV x v → RelV y u → r x y H Q →
    wpAny (model X.prog X.w) X.A (f v u) (EP X pins σ Q) X.xe s
def UnR (X : Cx) (f : Value → Sem Value) (r : V → Hp → VK → Prop) : Prop :=
  ∀ (pins : List (Addr × Obj)) (s : Shared) (σ : St) (H : Hp) (x : V) (v : Value) (Q : VK), Inv X pins σ H s → RelV x v → r x H Q →
    wpAny (model X.prog X.w) X.A (f v) (EP X pins σ Q) X.xe s
def CallR (X : Cx) (f : Value) (r : List V → Hp → VK → Prop) : Prop :=
  ∀ (pins : List (Addr × Obj)) (s : Shared) (σ : St) (H : Hp) (xs : List V) (us : List Value) (Q : VK), Inv X pins σ H s → Vals xs us → r xs H Q →
    wpAny (model X.prog X.w) X.A (call f us) (EP X pins σ Q) X.xe s
def TruR (X : Cx) (r : V → Hp → (Bool → Hp → Prop) → Prop) : Prop :=
  ∀ (pins : List (Addr × Obj)) (s : Shared) (σ : St) (H : Hp) (x : V) (v : Value) (Q : Bool → Hp → Prop), Inv X pins σ H s → RelV x v → r x H Q →
    wpAny (model X.prog X.w) X.A (truthy v) (TP X pins σ Q) X.xe s
def tOp (r : R2) (ta tb : TE) : TE := fun σ H Q => ta σ H fun x H1 => tb σ H1 fun y H2 => r x y H2 Q
def tUn (r : V → Hp → VK → Prop) (ta : TE) : TE := fun σ H Q => ta σ H fun x H1 => r x H1 Q
def rI (C : Int → Int → Prop) (g : Int → Int → V) : R2 := fun x y H Q => ∃ i j, x = .int i ∧ y = .int j ∧ C i j ∧ Q (g i j) H
def rI0 (g : Int → Int → V) : R2 := fun x y H Q => ∃ i j, x = .int i ∧ y = .int j ∧ Q (g i j) H
def rU (g : Int → V) : V → Hp → VK → Prop := fun x H Q => ∃ i, x = .int i ∧ Q (g i) H
section
variable {X : Cx} {a b c : Expr} {ta tb tc : TE} {pos : Pos}
theorem binT (ha : PE X a ta) (hb : PE X b tb) {pins : List (Addr × Obj)} {s : Shared} {σ : St} {H : Hp} {R : V → V → Hp → Prop} (I : Inv X pins σ H s)
    (h : ta σ H fun x H1 => tb σ H1 fun y H2 => R x y H2) {Q : Value → Shared → Prop} {f : Value → Value → Sem Value}
    (hf : ∀ v u s2 x y H2, Inv X pins σ H2 s2 → RelV x v → RelV y u → R x y H2 → wpAny (model X.prog X.w) X.A (f v u) Q X.xe s2) :
    wpAny (model X.prog X.w) X.A (eval a X.env) (fun v s₁ => wpAny (model X.prog X.w) X.A (eval b X.env) (fun u s₂ => wpAny (model X.prog X.w) X.A (f v u) Q X.xe s₂) X.xe s₁) X.xe s := by
  refine thn (ha pins s σ H _ I h) fun v s1 ⟨x, H1, I1, r1, q1⟩ => ?_
  refine thn (hb pins s1 σ H1 _ I1 q1) fun u s2 ⟨y, H2, I2, r2, q2⟩ => ?_
  exact hf v u s2 x y H2 I2 r1 r2 q2
theorem pe_op {op : Operator} {r : R2} (ho : OpR X (binaryOp op) r) (ha : PE X a ta) (hb : PE X b tb) : PE X (.BinOp a op b pos) (tOp r ta tb) := by
  intro pins s σ H Q I h
  exact wpAny_BinOp (binT ha hb I h fun v u s2 x y H2 I2 rx ry q => ho pins s2 σ H2 x y v u Q I2 rx ry q)
theorem pe_un {op : UnaryOp} {r : V → Hp → VK → Prop} (ho : UnR X (unaryOp op) r) (ha : PE X a ta) : PE X (.UnaryOp op a pos) (tUn r ta) := by
  intro pins s σ H Q I h
  exact UnaryOp_ (thn (ha pins s σ H _ I h) fun v s1 ⟨x, H1, I1, r1, q1⟩ => ho pins s1 σ H1 x v Q I1 r1 q1)
theorem opI {f : Value → Value → Sem Value} {C : Int → Int → Prop} {g : Int → Int → Int}
    (rule : ∀ (i j : Int) (t u : Tok) (s : Shared) (Q : Value → Shared → Prop) (E : Value → Shared → Prop), C i j → Q (.int (g i j) s.toks) { s with toks := s.toks + 1 } → wpAny (model X.prog X.w) X.A (f (.int i t) (.int j u)) Q E s) :
    OpR X f (rI C fun i j => .int (g i j)) := by
  intro pins s σ H x y v u Q I rx ry h
  obtain ⟨i, j, rfl, rfl, hc, q⟩ := h
  obtain ⟨t, rfl⟩ := rx
  obtain ⟨t', rfl⟩ := ry
  exact rule i j t t' s _ _ hc ⟨.int (g i j), H, I.tok _, ⟨_, rfl⟩, q⟩
theorem opI0 {f : Value → Value → Sem Value} {g : Int → Int → Int}
    (rule : ∀ (i j : Int) (t u : Tok) (s : Shared) (Q : Value → Shared → Prop) (E : Value → Shared → Prop), Q (.int (g i j) s.toks) { s with toks := s.toks + 1 } → wpAny (model X.prog X.w) X.A (f (.int i t) (.int j u)) Q E s) :
    OpR X f (rI0 fun i j => .int (g i j)) := by
  intro pins s σ H x y v u Q I rx ry h
  obtain ⟨i, j, rfl, rfl, q⟩ := h
  obtain ⟨t, rfl⟩ := rx
  obtain ⟨t', rfl⟩ := ry
  exact rule i j t t' s _ _ ⟨.int (g i j), H, I.tok _, ⟨_, rfl⟩, q⟩
theorem opB0 {f : Value → Value → Sem Value} {g : Int → Int → Bool}
    (rule : ∀ (i j : Int) (t u : Tok) (s : Shared) (Q : Value → Shared → Prop) (E : Value → Shared → Prop), Q (.bool (g i j)) s → wpAny (model X.prog X.w) X.A (f (.int i t) (.int j u)) Q E s) :
    OpR X f (rI0 fun i j => .bl (g i j)) := by
  intro pins s σ H x y v u Q I rx ry h
  obtain ⟨i, j, rfl, rfl, q⟩ := h
  obtain ⟨t, rfl⟩ := rx
  obtain ⟨t', rfl⟩ := ry
  exact rule i j t t' s _ _ ⟨.bl (g i j), H, I, rfl, q⟩
def CDiv (i j : Int) : Prop := 0 < j ∧ j < 1073741824
def CMul (i j : Int) : Prop := (-(2 ^ 64) < i ∧ i < 2 ^ 64) ∨ (-(2 ^ 64) < j ∧ j < 2 ^ 64)
theorem CMul.ok {i j : Int} (h : CMul i j) : IntMulOk i j := by
  rcases h with ⟨h1, h2⟩ | ⟨h1, h2⟩
  · exact .of_left (intBits_le_64 h1 h2)
  · exact .of_right (intBits_le_64 h1 h2)
theorem op_add : OpR X (binaryOp .Add) (rI0 fun i j => .int (i + j)) := opI0 fun _ _ _ _ _ _ _ q => add_int q
theorem op_sub : OpR X (binaryOp .Sub) (rI0 fun i j => .int (i - j)) := opI0 fun _ _ _ _ _ _ _ q => sub_int q
theorem op_mul : OpR X (binaryOp .Mult) (rI CMul fun i j => .int (i * j)) := opI fun _ _ _ _ _ _ _ hc q => mul_int q hc.ok
theorem op_fdiv : OpR X (binaryOp .FloorDiv) (rI CDiv fun i j => .int (i / j)) := opI fun i j _ _ _ _ _ hc q => by
  have h1 : (0 : Int) < j := hc.1
  have h2 : j < 1073741824 := hc.2
  exact floordiv_int (by omega) (by rw [Int.fdiv_eq_ediv_of_nonneg i (by omega)]; exact q) (.inl (PyProof.noPylong_small (by omega)))
theorem op_mod : OpR X (binaryOp .Mod) (rI (fun _ j => 0 < j) fun i j => .int (i % j)) := opI fun i j _ _ _ _ _ hc q => by
  have h1 : (0 : Int) < j := hc
  exact mod_int' (by omega) (by rw [Int.fmod_eq_emod_of_nonneg i (by omega)]; exact q)
theorem unI {f : Value → Sem Value} {g : Int → Int}
    (rule : ∀ (i : Int) (t : Tok) (s : Shared) (Q : Value → Shared → Prop) (E : Value → Shared → Prop), Q (.int (g i) s.toks) { s with toks := s.toks + 1 } → wpAny (model X.prog X.w) X.A (f (.int i t)) Q E s) :
    UnR X f (rU fun i => .int (g i)) := by
  intro pins s σ H x v Q I rx h
  obtain ⟨i, rfl, q⟩ := h
  obtain ⟨t, rfl⟩ := rx
  exact rule i t s _ _ ⟨.int (g i), H, I.tok _, ⟨_, rfl⟩, q⟩
theorem un_neg : UnR X (unaryOp .USub) (rU fun i => .int (-i)) := unI fun _ _ _ _ _ q => neg_int q
end
def scal : V → V → Bool
  | .non, .non => true | .non, .int _ => true | .int _, .non => true | .non, .bl _ => true | .bl _, .non => true | .non, .str _ => true | .str _, .non => true
  | .int _, .int _ => true | .bl _, .bl _ => true | .str _, .str _ => true | .byt _, .byt _ => true
  | .int _, .str _ => true | .str _, .int _ => true | .bl _, .str _ => true | .str _, .bl _ => true
  | _, _ => false
def rEq : R2 := fun x y H Q => scal x y = true ∧ Q (.bl (decide (x = y))) H
def rNe : R2 := fun x y H Q => scal x y = true ∧ Q (.bl (!decide (x = y))) H
theorem dec_int {i j : Int} : decide (V.int i = V.int j) = (i == j) := by
  rw [Bool.eq_iff_iff]
  simp
theorem dec_bl {i j : Bool} : decide (V.bl i = V.bl j) = (i == j) := by
  rw [Bool.eq_iff_iff]
  simp
theorem dec_str {i j : Str} : decide (V.str i = V.str j) = (i == j) := by
  rw [Bool.eq_iff_iff]
  simp
theorem dec_byt {i j : Array UInt8} : decide (V.byt i = V.byt j) = (i.toList == j.toList) := by
  rw [Bool.eq_iff_iff]
  cases i
  cases j
  simp
section
variable {X : Cx} {a b c : Expr} {ta tb tc : TE} {pos : Pos}
theorem fin_bl {pins : List (Addr × Obj)} {σ : St} {H : Hp} {s : Shared} {Q : VK} {k k' : Bool} (I : Inv X pins σ H s) (q : Q (.bl k) H) (e : k = k') : EP X pins σ Q (.bool k') s := by
  subst e
  exact ⟨.bl k, H, I, rfl, q⟩
theorem op_eq : OpR X (compareOp .Eq) rEq := by
  intro pins s σ H x y v u Q I rx ry h
  obtain ⟨hs, q⟩ := h
  cases x with
  | non =>
    cases rx
    cases y with
    | non => cases ry; exact PySem.EqNone.eq_none_none (fin_bl I q (by simp))
    | bl j => cases ry; exact PySem.EqNone.eq_none_bool (fin_bl I q (by simp))
    | int j => obtain ⟨t', rfl⟩ := ry; exact PySem.EqNone.eq_none_int (fin_bl I q (by simp))
    | str j => obtain ⟨t', rfl⟩ := ry; exact PySem.EqNone.eq_none_str (fin_bl I q (by simp))
    | _ => exact absurd (show false = true from hs) Bool.false_ne_true
  | bl i =>
    cases rx
    cases y with
    | non => cases ry; exact PySem.EqNone.eq_bool_none (fin_bl I q (by simp))
    | bl j => cases ry; exact eq_bool (fin_bl I q dec_bl)
    | str j => obtain ⟨t', rfl⟩ := ry; exact PySem.EqMixed.eq_bool_str (fin_bl I q (by simp))
    | _ => exact absurd (show false = true from hs) Bool.false_ne_true
  | int i =>
    obtain ⟨t, rfl⟩ := rx
    cases y with
    | non => cases ry; exact PySem.EqNone.eq_int_none (fin_bl I q (by simp))
    | int j => obtain ⟨t', rfl⟩ := ry; exact eq_int (fin_bl I q dec_int)
    | str j => obtain ⟨t', rfl⟩ := ry; exact PySem.EqMixed.eq_int_str (fin_bl I q (by simp))
    | _ => exact absurd (show false = true from hs) Bool.false_ne_true
  | str i =>
    obtain ⟨t, rfl⟩ := rx
    cases y with
    | non => cases ry; exact PySem.EqNone.eq_str_none (fin_bl I q (by simp))
    | bl j => cases ry; exact PySem.EqMixed.eq_str_bool (fin_bl I q (by simp))
    | int j => obtain ⟨t', rfl⟩ := ry; exact PySem.EqMixed.eq_str_int (fin_bl I q (by simp))
    | str j => obtain ⟨t', rfl⟩ := ry; exact eq_str (fin_bl I q dec_str)
    | _ => exact absurd (show false = true from hs) Bool.false_ne_true
  | byt i =>
    obtain ⟨t, rfl⟩ := rx
    cases y with
    | byt j => obtain ⟨t', rfl⟩ := ry; exact PySem.W.eq_bytes (fin_bl I q dec_byt)
    | _ => exact absurd (show false = true from hs) Bool.false_ne_true
  | _ => cases y <;> exact absurd (show false = true from hs) Bool.false_ne_true
theorem op_ne : OpR X (compareOp .NotEq) rNe := by
  intro pins s σ H x y v u Q I rx ry h
  obtain ⟨hs, q⟩ := h
  cases x with
  | non =>
    cases rx
    cases y with
    | non => cases ry; exact PySem.EqNone.ne_none_none (fin_bl I q (by simp))
    | bl j => cases ry; exact PySem.EqNone.ne_none_bool (fin_bl I q (by simp))
    | int j => obtain ⟨t', rfl⟩ := ry; exact PySem.EqNone.ne_none_int (fin_bl I q (by simp))
    | str j => obtain ⟨t', rfl⟩ := ry; exact PySem.EqNone.ne_none_str (fin_bl I q (by simp))
    | _ => exact absurd (show false = true from hs) Bool.false_ne_true
  | bl i =>
    cases rx
    cases y with
    | non => cases ry; exact PySem.EqNone.ne_bool_none (fin_bl I q (by simp))
    | bl j => cases ry; exact ne_bool (fin_bl I q (congrArg not dec_bl))
    | str j => obtain ⟨t', rfl⟩ := ry; exact PySem.EqMixed.ne_bool_str (fin_bl I q (by simp))
    | _ => exact absurd (show false = true from hs) Bool.false_ne_true
  | int i =>
    obtain ⟨t, rfl⟩ := rx
    cases y with
    | non => cases ry; exact PySem.EqNone.ne_int_none (fin_bl I q (by simp))
    | int j => obtain ⟨t', rfl⟩ := ry; exact ne_int (fin_bl I q (congrArg not dec_int))
    | str j => obtain ⟨t', rfl⟩ := ry; exact PySem.EqMixed.ne_int_str (fin_bl I q (by simp))
    | _ => exact absurd (show false = true from hs) Bool.false_ne_true
  | str i =>
    obtain ⟨t, rfl⟩ := rx
    cases y with
    | non => cases ry; exact PySem.EqNone.ne_str_none (fin_bl I q (by simp))
    | bl j => cases ry; exact PySem.EqMixed.ne_str_bool (fin_bl I q (by simp))
    | int j => obtain ⟨t', rfl⟩ := ry; exact PySem.EqMixed.ne_str_int (fin_bl I q (by simp))
    | str j => obtain ⟨t', rfl⟩ := ry; exact ne_str (fin_bl I q (congrArg not dec_str))
    | _ => exact absurd (show false = true from hs) Bool.false_ne_true
  | byt i =>
    obtain ⟨t, rfl⟩ := rx
    cases y with
    | byt j => obtain ⟨t', rfl⟩ := ry; exact PySem.W.ne_bytes (fin_bl I q (congrArg not dec_byt))
    | _ => exact absurd (show false = true from hs) Bool.false_ne_true
  | _ => cases y <;> exact absurd (show false = true from hs) Bool.false_ne_true
theorem op_lt : OpR X (compareOp .Lt) (rI0 fun i j => .bl (decide (i < j))) := opB0 fun _ _ _ _ _ _ _ q => lt_int q
theorem op_le : OpR X (compareOp .LtE) (rI0 fun i j => .bl (decide (i ≤ j))) := opB0 fun _ _ _ _ _ _ _ q => le_int q
theorem op_gt : OpR X (compareOp .Gt) (rI0 fun i j => .bl (decide (j < i))) := opB0 fun _ _ _ _ _ _ _ q => gt_int q
theorem op_ge : OpR X (compareOp .GtE) (rI0 fun i j => .bl (decide (j ≤ i))) := opB0 fun _ _ _ _ _ _ _ q => ge_int q
theorem op_in_str : OpR X (compareOp .In) (fun x y H Q => ∃ i j, x = .str i ∧ y = .str j ∧ Q (.bl (!(Builtin.Str.occurrences j i 0 j.length 1).isEmpty)) H) := by
  intro pins s σ H x y v u Q I rx ry h
  obtain ⟨i, j, rfl, rfl, q⟩ := h
  obtain ⟨t, rfl⟩ := rx
  obtain ⟨t', rfl⟩ := ry
  exact in_str (fin_bl I q rfl)
theorem op_notin_str : OpR X (compareOp .NotIn) (fun x y H Q => ∃ i j, x = .str i ∧ y = .str j ∧ Q (.bl (!(!(Builtin.Str.occurrences j i 0 j.length 1).isEmpty))) H) := by
  intro pins s σ H x y v u Q I rx ry h
  obtain ⟨i, j, rfl, rfl, q⟩ := h
  obtain ⟨t, rfl⟩ := rx
  obtain ⟨t', rfl⟩ := ry
  exact notIn_str (fin_bl I q rfl)
def isObj : HO → Bool
  | .lst _ => true
  | .ins _ _ _ => true
  | _ => false
theorem obj_there {pins : List (Addr × Obj)} {s : Shared} {σ : St} {H : Hp} {a : Addr} {o : HO} (I : Inv X pins σ H s) (h : H a = some o) (p : isObj o = true) : ∃ ob, s.heap.get? a = some ob ∧ ob.cls ≠ .type "tuple" := by
  cases o with
  | lst xs =>
    obtain ⟨_, its, n, _, e⟩ : xs.length ≤ sizeLine ∧ ∃ (its : List Value) (n : Nat), Vals xs its ∧ s.heap.get? a = some { cls := .type "list", data := .seq its.toArray n } := I.hok a _ h
    exact ⟨_, e, (by show Value.type "list" ≠ .type "tuple"; decide +kernel)⟩
  | ins C dx fs =>
    have x := I.hok a _ h
    obtain ⟨_, _, _, e, _⟩ := x
    exact ⟨_, e, (by show Value.ref C ≠ .type "tuple"; exact fun z => by cases z)⟩
  | _ => exact absurd (show false = true from p) Bool.false_ne_true
theorem OpR.or {f : Value → Value → Sem Value} {r r' : R2} (h : OpR X f r) (h' : OpR X f r') : OpR X f (fun x y H Q => r x y H Q ∨ r' x y H Q) := by
  intro pins s σ H x y v u Q I rx ry q
  rcases q with q | q
  · exact h pins s σ H x y v u Q I rx ry q
  · exact h' pins s σ H x y v u Q I rx ry q
theorem nomark (b : Expr) {op : CmpOp} (h : op ≠ .In := by decide) (h2 : op ≠ .NotIn := by decide) : behindInMarks op b = false := by
  have e1 : (op == CmpOp.In) = false := by cases op <;> first | rfl | exact absurd rfl h
  have e2 : (op == CmpOp.NotIn) = false := by cases op <;> first | rfl | exact absurd rfl h2
  cases b <;> simp [behindInMarks, e1, e2]
theorem pe_cmpR {op : CmpOp} {r : R2} (ho : OpR X (compareOp op) r) (ha : PE X a ta) (hb : PE X b tb) (hm : behindInMarks op b = false) : PE X (.Compare a [op] [b] pos) (tOp r ta tb) := by
  intro pins s σ H Q I h
  exact wpAny_Compare1 (binT ha hb I h fun v u s2 x y H2 I2 rx ry q => ho pins s2 σ H2 x y v u Q I2 rx ry q) hm
def tTest (t : TE) : TT := fun σ H Q => t σ H fun x H' => ∃ k, x = .bl k ∧ Q k H'
theorem pt_cmpR {op : CmpOp} {r : R2} (ho : OpR X (compareOp op) r) (ha : PE X a ta) (hb : PE X b tb) (hm : behindInMarks op b = false) : PT X (.Compare a [op] [b] pos) (tTest (tOp r ta tb)) := by
  intro pins s σ H Q I h
  refine wpAny_isTrue_Compare1 (thn (ha pins s σ H _ I h) fun v s1 ⟨x, H1, I1, r1, q1⟩ => thn (hb pins s1 σ H1 _ I1 q1) fun u s2 ⟨y, H2, I2, r2, q2⟩ =>
    thn (ho pins s2 σ H2 x y v u _ I2 r1 r2 q2) fun c s3 ⟨z, H3, I3, r3, k, e, q3⟩ => ?_) hm
  subst e
  cases r3
  exact wpAny_truthy_bool ⟨H3, I3, q3⟩
def tChain (r r' : R2) (ta tb tc : TE) : TE := fun σ H Q => ta σ H fun x H1 => tb σ H1 fun y H2 => r x y H2 fun z H3 => ∃ k, z = .bl k ∧
  (if k = true then tc σ H3 fun w' H4 => r' y w' H4 Q else Q (.bl false) H3)
theorem pt_chain {op op' : CmpOp} {r r' : R2} (ho : OpR X (compareOp op) r) (ho' : OpR X (compareOp op') r') (ha : PE X a ta) (hb : PE X b tb) (hc : PE X c tc)
    (hm : lastMarks [op, op'] [b, c] = false := by with_unfolding_all rfl) : PT X (.Compare a [op, op'] [b, c] pos) (tTest (tChain r r' ta tb tc)) := by
  intro pins s σ H Q I h
  refine isTrue_chain (thn (ha pins s σ H _ I h) fun v s1 ⟨x, H1, I1, r1, q1⟩ => test_link (thn (hb pins s1 σ H1 _ I1 q1) fun u s2 ⟨y, H2, I2, r2, q2⟩ =>
    thn (ho pins s2 σ H2 x y v u _ I2 r1 r2 q2) fun d s3 ⟨z, H3, I3, r3, k, e, q3⟩ => ?_)) hm
  subst e
  cases r3
  refine wpAny_truthy_bool ?_
  cases k with
  | false =>
    obtain ⟨k', e', q'⟩ := q3
    cases e'
    exact ite_ff ⟨H3, I3, q'⟩
  | true =>
    refine ite_tt (test_last (thn (hc pins s3 σ H3 _ I3 q3) fun w' s4 ⟨z', H4, I4, r4, q4⟩ => thn (ho' pins s4 σ H4 y z' u w' _ I4 r2 r4 q4) fun d' s5 ⟨z2, H5, I5, r5, k2, e2, q5⟩ => ?_))
    subst e2
    cases r5
    exact wpAny_truthy_bool ⟨H5, I5, q5⟩
def TruV (K : PySem.W.Frag) (x : V) (H : Hp) (k : Bool) : Prop :=
  match x with
  | .non => k = false
  | .bl b => k = b
  | .int i => k = (i != 0)
  | .str y => y.length ≤ sizeLine ∧ k = ((y.length : Int) != 0)
  | .byt y => y.size ≤ sizeLine ∧ k = ((y.size : Int) != 0)
  | .ref p => (∃ xs, SqL K H p xs ∧ k = !xs.isEmpty) ∨ (∃ xs, SqT K H p xs ∧ k = !xs.isEmpty) ∨ ∃ kvs, H p = some (.dK kvs) ∧ k = !kvs.isEmpty
  | _ => False
theorem isEmpty_kv {κ : Type} {kvs : List (κ × V)} {vs : List (κ × Value)} (r : KV kvs vs) : (!vs.isEmpty) = !kvs.isEmpty := by
  cases r <;> rfl
theorem isEmpty_of {xs : List V} {its : List Value} (r : Vals xs its) : (!its.toArray.isEmpty) = !xs.isEmpty := by
  cases r <;> simp
theorem line63 : (sizeLine : Nat) < 2 ^ 63 := by rw [sizeLine_eq]; decide
theorem tru_ok : TruR X (fun x H Q => ∃ k, TruV X.K x H k ∧ Q k H) := by
  intro pins s σ H x v Q I rx h
  obtain ⟨k, e, q⟩ := h
  have hl := line63
  have hs : sizeLine = 16777216 := sizeLine_eq
  cases x with
  | non =>
    cases rx
    have e' : k = false := e
    subst e'
    exact truthy_none ⟨H, I, q⟩
  | bl b =>
    cases rx
    have e' : k = b := e
    subst e'
    exact wpAny_truthy_bool ⟨H, I, q⟩
  | int i =>
    obtain ⟨t, rfl⟩ := rx
    have e' : k = (i != 0) := e
    subst e'
    exact PySem.P.truthy_int ⟨H, I, q⟩
  | str y =>
    obtain ⟨t, rfl⟩ := rx
    obtain ⟨hy, e'⟩ : y.length ≤ sizeLine ∧ k = ((y.length : Int) != 0) := e
    subst e'
    exact PySem.P.truthy_str (by omega) ⟨H, I.tok _, q⟩
  | byt y =>
    obtain ⟨t, rfl⟩ := rx
    obtain ⟨hy, e'⟩ : y.size ≤ sizeLine ∧ k = ((y.size : Int) != 0) := e
    subst e'
    exact PySem.W.truthy_bytes (by omega) ⟨H, I.tok _, q⟩
  | ref p =>
    cases rx
    have e' : (∃ xs, SqL X.K H p xs ∧ k = !xs.isEmpty) ∨ (∃ xs, SqT X.K H p xs ∧ k = !xs.isEmpty) ∨ ∃ kvs, H p = some (.dK kvs) ∧ k = !kvs.isEmpty := e
    rcases e' with ⟨xs, hx, e'⟩ | ⟨xs, hx, e'⟩ | ⟨kvs, hx, e'⟩
    · subst e'
      obtain ⟨its, r, pl, hz⟩ := I.list hx
      have hlen := r.length
      exact wpAny_truthy_list pl.isList (by simp only [List.size_toArray]; omega) ⟨H, I.tok _, by rw [isEmpty_of r]; exact q⟩
    · subst e'
      obtain ⟨its, r, pl, hz⟩ := I.tuple hx
      have hlen := r.length
      exact truthy_tuple pl (by simp only [List.size_toArray]; omega) ⟨H, I.tok _, by rw [isEmpty_of r]; exact q⟩
    · subst e'
      obtain ⟨hz, hS, vs, r, m⟩ : kvs.length ≤ sizeLine ∧ (p == sysModules) = false ∧ ∃ vs, KV kvs vs ∧ s.heap.DictOf (mixKind X.prog X.w) p vs := I.hok p _ hx
      have hlen : kvs.length = vs.length := Paired.length r
      exact wpAny_truthy_dict hS m (by omega) ⟨H, I.tok _, by rw [isEmpty_kv r]; exact q⟩
  | _ => exact (show False from e).elim
theorem pt_truth (ha : PE X a ta) (he : ∀ whole, isTrue a X.env whole = (do let v ← whole; standAt a.pos; holding [v] (truthy v))) :
    PT X a (fun σ H Q => ta σ H fun x H' => ∃ k, TruV X.K x H' k ∧ Q k H') := by
  intro pins s σ H Q I h
  exact isTrue_plain (thn (ha pins s σ H _ I h) fun v s1 ⟨x, H1, I1, r1, q1⟩ => tru_ok pins s1 σ H1 x v Q I1 r1 q1) (he _)
theorem op_add_str : OpR X (binaryOp .Add) (fun x y H Q => ∃ i j, x = .str i ∧ y = .str j ∧ i.length + j.length ≤ sizeLine ∧ Q (.str (i ++ j)) H) := by
  intro pins s σ H x y v u Q I rx ry h
  obtain ⟨i, j, rfl, rfl, hz, q⟩ := h
  obtain ⟨t, rfl⟩ := rx
  obtain ⟨t', rfl⟩ := ry
  exact add_str (fun t' tk => ⟨.str (i ++ j), H, I.tok _, ⟨_, rfl⟩, q⟩) hz
theorem iop_add_str : OpR X (inplaceOp .Add) (fun x y H Q => ∃ i j, x = .str i ∧ y = .str j ∧ i.length + j.length ≤ sizeLine ∧ Q (.str (i ++ j)) H) := by
  intro pins s σ H x y v u Q I rx ry h
  obtain ⟨i, j, rfl, rfl, hz, q⟩ := h
  obtain ⟨t, rfl⟩ := rx
  obtain ⟨t', rfl⟩ := ry
  exact iadd_str (fun t' tk => ⟨.str (i ++ j), H, I.tok _, ⟨_, rfl⟩, q⟩) hz
theorem vals1 {x : V} {us : List Value} (r : Vals [x] us) : ∃ u, us = [u] ∧ RelV x u := by
  cases r with
  | cons r1 r2 => cases r2; exact ⟨_, rfl, r1⟩
theorem vals2 {x y : V} {us : List Value} (r : Vals [x, y] us) : ∃ u w', us = [u, w'] ∧ RelV x u ∧ RelV y w' := by
  cases r with
  | cons r1 r2 =>
    cases r2 with
    | cons r3 r4 => cases r4; exact ⟨_, _, rfl, r1, r3⟩
end
end L2
namespace L2
open PySem PySem.Spec PyProof.Rows
section
variable {prog : Program} {w : World} {A : Around} {E : Value → Shared → Prop} {s : Shared} {K : PySem.W.Frag} {x dx C f : Addr} {mA : Str → Option Value} {name : Str} {v : Value}
end
section
variable {P : Program} {w : World} {H H' : Hp} {h h' : Heap} {a C dx : Addr} {fs fs' : List (Str × V)}
end
section
variable {X : Cx} {pins : List (Addr × Obj)} {σ : St} {H : Hp} {s : Shared} {a C dx : Addr} {fs : List (Str × V)} {f : Str} {v : V} {A : Around} {E : Value → Shared → Prop}
end
section
variable {X : Cx} {o e value : Expr} {f : Str} {pos pos' tpos : Pos} {ta tv : TE}
end
section
variable {X : Cx} {pins : List (Addr × Obj)} {σ : St} {H : Hp} {s : Shared} {A : Around} {E : Value → Shared → Prop} {Q : Value → Shared → Prop} {c : Value} {b : Bool}
end
end L2
namespace L2
open PySem PySem.Spec PyProof.Rows
structure Room (k : Nat) (A : Around) : Prop where
  hd : A.handled = none
  dp : A.depth + 3 * k + 5 < recursionLimit
  un : A.units + 16 * k + 200 < cLine
theorem Room.mono {j k : Nat} {A : Around} (r : Room k A) (h : j ≤ k) : Room j A := ⟨r.hd, by have := r.dp; omega, by have := r.un; omega⟩
theorem Room.deeper {k : Nat} {A : Around} (r : Room (k + 1) A) (env : Env) : Room k (A.deeper env) :=
  ⟨r.hd, by have := r.dp; show A.depth + 1 + 3 * k + 5 < _; omega, by have := r.un; show A.units + 3 + 16 * k + 200 < _; omega⟩
theorem Room.depth {k : Nat} {A : Around} (r : Room k A) : A.depth < recursionLimit := by have := r.dp; omega
theorem Room.units {k : Nat} {A : Around} (r : Room k A) : A.units + 64 < cLine := by have := r.un; omega
def tNil : TA := fun _ H Q => Q [] H
def tCons (ta : TE) (tr : TA) : TA := fun σ H Q => ta σ H fun x H1 => tr σ H1 fun xs H2 => Q (x :: xs) H2
section
variable {X : Cx} {e : Expr} {es : List Expr} {te : TE} {t : TA} {pos : Pos}
theorem pa_nil : PA X [] tNil := fun _ _ _ _ H Q I h => Calls.spliced_nil ⟨[], H, I, .nil, h⟩
theorem pa_cons (ha : PE X e te) (hr : PA X es t) (hs : starEach (e :: es) X.env = (false, eval e X.env) :: starEach es X.env := by rfl) : PA X (e :: es) (tCons te t) := by
  intro pos pins s σ H Q I h
  rw [hs]
  show wpAny _ _ (spliced ((false, eval e X.env) :: backTo pos (starEach es X.env))) _ _ s
  refine Calls.spliced_cons (thn (ha pins s σ H _ I h) fun u s1 ⟨x, H1, I1, r1, q1⟩ => ?_)
  exact thn (hr pos pins s1 σ H1 _ I1 q1) fun us s2 ⟨xs, H2, I2, r2, q2⟩ => ⟨x :: xs, H2, I2, .cons r1 r2, q2⟩
def tTup (t : TA) : TE := fun σ H Q => t σ H fun xs H1 => xs.length ≤ sizeLine ∧ ∀ p, H1 p = none → Q (.ref p) (upd H1 p (.tup xs))
def tLst (t : TA) : TE := fun σ H Q => t σ H fun xs H1 => xs.length ≤ sizeLine ∧ ∀ p, H1 p = none → Q (.ref p) (upd H1 p (.lst xs))
theorem pe_tup {x1} (h : PA X es t) : PE X (.Tuple es x1 pos) (tTup t) := by
  intro pins s σ H Q I hq
  refine wpAny_Tuple_spliced (thn (h pos pins s σ H _ I hq) fun us s1 ⟨xs, H1, I1, r, z, q⟩ => ⟨by rw [← r.length]; exact z, ?_⟩)
  have hf : H1 s1.heap.objs.size = none := I1.hok.fresh (Nat.le_refl _)
  refine ⟨.ref s1.heap.objs.size, upd H1 s1.heap.objs.size (.tup xs), I1.laid (t' := s1.toks) (fun b u e => Heap.get?_push_of_some _ e) (Nat.le_refl _) ?_, rfl, q _ hf⟩
  exact ⟨z, us, r, ⟨_, Heap.get?_push_size _ rfl, rfl, _, rfl⟩⟩
theorem pe_lst (h : PA X es t) : PE X (.List es pos) (tLst t) := by
  intro pins s σ H Q I hq
  refine wpAny_List_spliced (thn (h pos pins s σ H _ I hq) fun us s1 ⟨xs, H1, I1, r, z, q⟩ => ⟨by rw [← r.length]; exact z, ?_⟩)
  have hf : H1 s1.heap.objs.size = none := I1.hok.fresh (Nat.le_refl _)
  refine ⟨.ref s1.heap.objs.size, upd H1 s1.heap.objs.size (.lst xs), I1.laid (t' := s1.toks) (fun b u e => Heap.get?_push_of_some _ e) (Nat.le_refl _) ?_, rfl, q _ hf⟩
  exact ⟨z, us, 0, r, Heap.get?_push_size _ rfl⟩
end
abbrev Sp := List V → Hp → VK → XK → Prop
abbrev CXT := List Env → Hp → Shared → XK → Value → Shared → Prop
structure Env0 (P : Program) (w : World) (K : PySem.W.Frag) (mg : Str → Option Value) (base : Heap) (A : Around) (outer : List Env) (s : Shared) (H : Hp) : Prop where
  frames : A.frames = some outer
  mod : Mod K mg base
  bs : ∀ b o, base.get? b = some o → s.heap.get? b = some o ∧ H b = none
  bsz : base.objs.size ≤ s.heap.objs.size
  funs : s.heap.FunFrames base outer
  frf : ∀ b ∈ frs outer, H b = none
  hok : HOk P w H s.heap
  bare : AllBare s.gens
def CE (outer : List Env) (P : Program) (w : World) (H : Hp) (s : Shared) (Q : VK) (u : Value) (s' : Shared) : Prop :=
  ∃ v H', s'.os = s.os ∧ AllBare s'.gens ∧ Un (frs outer) [] H H' s.heap s'.heap ∧ HOk P w H' s'.heap ∧ RelV v u ∧ Q v H'
def CR (CX : CXT) (outer : List Env) (P : Program) (w : World) (H : Hp) (s : Shared) (Q : VK) (E : XK) (r : Result) (s' : Shared) : Prop :=
  match r with
  | .ok (.ret u) => CE outer P w H s Q u s'
  | .ok _ => False
  | .error e => CX outer H s E e s'
structure FnOk (P : Program) (w : World) (K : PySem.W.Frag) (mg : Str → Option Value) (base : Heap) (CX : CXT) (k : Nat) (f : Addr) (fd : FuncData) (ps : List Str) (sp : Sp) : Prop where
  len : ∀ vs H Q E, sp vs H Q E → vs.length = ps.length
  run : ∀ (A : Around) (outer : List Env) (s : Shared) (H : Hp) (args : Args) (us : List Value) (vs : List V) (Q : VK) (E : XK), Room k A → Env0 P w K mg base A outer s H → BindsTo s fd args (ps.zip us) → Vals vs us → sp vs H Q E →
    codeAny (model P w) A (.call (.ref f) args) (CR CX outer P w H s Q E) s
theorem FnOk.imp {P : Program} {w : World} {K : PySem.W.Frag} {mg : Str → Option Value} {base : Heap} {CX : CXT} {k : Nat} {f : Addr} {fd : FuncData} {ps : List Str} {sp sp' : Sp} (F : FnOk P w K mg base CX k f fd ps sp)
    (h : ∀ vs H Q E, sp' vs H Q E → sp vs H Q E) : FnOk P w K mg base CX k f fd ps sp' :=
  ⟨fun vs H Q E q => F.len vs H Q E (h _ _ _ _ q), fun A outer s H args us vs Q E hr he hb hv hs => F.run A outer s H args us vs Q E hr he hb hv (h _ _ _ _ hs)⟩
section
variable {X : Cx} {pins : List (Addr × Obj)} {σ : St} {H : Hp} {s s' : Shared}
theorem Inv.env0 (I : Inv X pins σ H s) : Env0 X.prog X.w X.K X.mg X.base X.A X.stack s H :=
  ⟨I.ok.frames, I.ok.mod, I.bs, Nat.le_trans I.ok.bsz I.sz, I.stack, I.stkFree, I.hok, I.bare⟩
theorem Inv.after {Q : VK} {u : Value} (I : Inv X pins σ H s) (h : CE X.stack X.prog X.w H s Q u s') : EP X pins σ Q u s' := by
  obtain ⟨v, H', os, bare, un, hok, r, q⟩ := h
  obtain ⟨hh, g, d, t, os'⟩ := s'
  obtain rfl : os' = s.os := os
  exact ⟨v, H', I.call (h' := hh) (g' := g) (d' := d) (t' := t) (ch := []) un hok bare (fun b z => absurd z (by simp)), r, q⟩
end
def tCall (sp : Sp) (dvs : List V) (E : XK) (t : TA) : TE := fun σ H Q => t σ H fun vs H1 => sp (vs ++ dvs) H1 Q E
def Binds (K : PySem.W.Frag) (fd : FuncData) (ps : List Str) (ds : List Value) : Prop :=
  ∀ (s : Shared) (us : List Value), K.In s.heap → (us ++ ds).length = ps.length → BindsTo s fd ⟨us, []⟩ (ps.zip (us ++ ds))
theorem Binds.all {K : PySem.W.Frag} {fd : FuncData} {ps : List Str} (h : ∀ us : List Value, us.length = ps.length → bindArgs fd ⟨us, []⟩ = pure (ps.zip us)) : Binds K fd ps [] := fun s us _ hl => by
  rw [List.append_nil] at hl ⊢
  exact .of_eq (h us hl)
def Passes (CX : CXT) (X : Cx) (E : XK) : Prop := ∀ (pins : List (Addr × Obj)) (σ : St) (H : Hp) (s : Shared) (e : Value) (s' : Shared), Inv X pins σ H s → CX X.stack H s E e s' → X.xe e s'
section
variable {X : Cx} {CX : CXT} {k : Nat} {f C : Addr} {fd : FuncData} {ps : List Str} {sp : Sp} {dvs : List V} {ds : List Value} {E : XK} {x m : Str} {p pos apos : Pos} {e o : Expr} {es : List Expr} {ta : TE} {t : TA}
theorem run_fn {pins : List (Addr × Obj)} {σ : St} {H : Hp} {s : Shared} {Q : VK} {us : List Value} {vs : List V} (F : FnOk X.prog X.w X.K X.mg X.base CX k f fd ps sp) (hr : Room k X.A) (hb : Binds X.K fd ps ds) (hd : Vals dvs ds) (hx : Passes CX X E)
    (I : Inv X pins σ H s) (r : Vals vs us) (h : sp (vs ++ dvs) H Q E) : wpAny (model X.prog X.w) X.A (call (.ref f) us) (EP X pins σ Q) X.xe s := by
  have r2 : Vals (vs ++ dvs) (us ++ ds) := r.append hd
  have hl : (us ++ ds).length = ps.length := by rw [← r2.length]; exact F.len _ _ _ _ h
  refine wpAny_call (codeAny_mono (F.run X.A X.stack s H ⟨us, []⟩ (us ++ ds) (vs ++ dvs) Q E hr I.env0 (hb s us I.kIn hl) r2 h) fun r s' hq => ?_)
  cases r with
  | error e => exact hx pins σ H s e s' I hq
  | ok fl =>
    cases fl with
    | ret u => exact I.after hq
    | next => exact False.elim hq
    | brk => exact False.elim hq
    | cont => exact False.elim hq
theorem pe_call (F : FnOk X.prog X.w X.K X.mg X.base CX k f fd ps sp) (hr : Room k X.A) (hg : Gl X x) (hm : X.mg x = some (.ref f)) (hk : PySem.W.keepIn X.K (.ref f) = true) (hb : Binds X.K fd ps ds) (hd : Vals dvs ds) (hx : Passes CX X E)
    (ha : PA X (e :: es) t) (hdb : (x == ("__debug__" : Str)) = false := by decide) (he : starEach (e :: es) X.env = (false, eval e X.env) :: starEach es X.env := by rfl) (hpl : (backTo pos (starEach es X.env)).any (·.1) = false := by rfl) :
    PE X (.Call (.Name x p) (e :: es) [] pos) (tCall sp dvs E t) := by
  intro pins s σ H Q I h
  refine wpAny_Call_Name_kw (ld_glob I hg hm ?_ hdb)
  refine PySem.W.callWith_K (h₀ := X.base) I.ok.mod.kin hk (thn (ha pos pins s σ H _ I h) fun us s1 ⟨vs, H1, I1, r, q⟩ => ⟨I1.kIn, ?_⟩) he hpl
  exact run_fn F hr hb hd hx I1 r q
end
section
variable {X : Cx} {CX : CXT} {k : Nat} {f C : Addr} {fd : FuncData} {ps ks : List Str} {sp : Sp} {E : XK} {x m : Str} {p pos apos kpos : Pos} {e o : Expr} {es : List Expr} {kws : List Keyword} {te ta : TE} {t tk : TA} {nm : Option Str}
variable {g : List Value → List Value → List Value} {gV : List V → List V → List V}
end
structure FnScope (N P : List Str) (sc : Scope) : Prop where
  kind : sc.kind = .function
  co : sc.isCoroutine = false
  gen : sc.isGenerator = false
  nd : N.Nodup
  pre : N.take P.length = P
  par : ∀ x ∈ P, sc.names.lookup x = some .local ∨ sc.names.lookup x = some .cell
  nofree : ∀ y ∈ sc.names, y.2 ≠ .free
theorem bindL_out {kindOf : Str → Option NameKind} {x : Str} : ∀ {binds : List (Str × Value)} {m : Str → Option Value}, (∀ v, (x, v) ∉ binds) → bindL kindOf binds m x = m x
  | [], _, _ => rfl
  | (n, v) :: r, m, h => by
    unfold bindL
    rw [bindL_out fun w hw => h w (List.mem_cons_of_mem _ hw)]
    split
    · have : x ≠ n := by rintro rfl; exact h v List.mem_cons_self
      simp [this]
    · rfl
theorem bindC_out {kindOf : Str → Option NameKind} {x : Str} : ∀ {binds : List (Str × Value)} {m : Str → Option Value}, (∀ v, (x, v) ∉ binds) → bindC kindOf binds m x = m x
  | [], _, _ => rfl
  | (n, v) :: r, m, h => by
    unfold bindC
    rw [bindC_out fun w hw => h w (List.mem_cons_of_mem _ hw)]
    split
    · rfl
    · have : x ≠ n := by rintro rfl; exact h v List.mem_cons_self
      simp [this]
theorem bindL_get {kindOf : Str → Option NameKind} {x : Str} {v : Value} : ∀ {P : List Str} {vs : List Value} {i : Nat} {m : Str → Option Value}, P.Nodup → P[i]? = some x → vs[i]? = some v → kindOf x = some .local →
    bindL kindOf (P.zip vs) m x = some v
  | [], _, _, _, _, h, _, _ => by simp at h
  | _ :: _, [], _, _, _, _, h, _ => by simp at h
  | p :: P, w :: vs, 0, m, nd, h1, h2, hk => by
    simp at h1 h2; subst h1; subst h2
    show bindL kindOf ((p, w) :: P.zip vs) m p = _
    unfold bindL
    rw [bindL_out fun v hv => (List.nodup_cons.mp nd).1 (List.of_mem_zip hv).1, if_pos hk]
    simp
  | p :: P, w :: vs, i + 1, m, nd, h1, h2, hk => by
    show bindL kindOf ((p, w) :: P.zip vs) m x = _
    unfold bindL
    exact bindL_get (i := i) (List.nodup_cons.mp nd).2 (by simpa using h1) (by simpa using h2) hk
theorem bindC_get {kindOf : Str → Option NameKind} {x : Str} {v : Value} : ∀ {P : List Str} {vs : List Value} {i : Nat} {m : Str → Option Value}, P.Nodup → P[i]? = some x → vs[i]? = some v → kindOf x ≠ some .local →
    bindC kindOf (P.zip vs) m x = some v
  | [], _, _, _, _, h, _, _ => by simp at h
  | _ :: _, [], _, _, _, _, h, _ => by simp at h
  | p :: P, w :: vs, 0, m, nd, h1, h2, hk => by
    simp at h1 h2; subst h1; subst h2
    show bindC kindOf ((p, w) :: P.zip vs) m p = _
    unfold bindC
    rw [bindC_out fun v hv => (List.nodup_cons.mp nd).1 (List.of_mem_zip hv).1, if_neg hk]
    simp
  | p :: P, w :: vs, i + 1, m, nd, h1, h2, hk => by
    show bindC kindOf ((p, w) :: P.zip vs) m x = _
    unfold bindC
    exact bindC_get (i := i) (List.nodup_cons.mp nd).2 (by simpa using h1) (by simpa using h2) hk
def start (N : List Str) (vs : List V) : St := vs.map some ++ List.replicate (N.length - vs.length) none
def cxOf (CX : CXT) (P : Program) (w : World) (K : PySem.W.Frag) (mg : Str → Option Value) (base : Heap) (N : List Str) (qual : Str) (scope : Scope) (f : Addr) (cd : Value) (A : Around) (outer : List Env) (s : Shared) (H : Hp) (E : XK) : Cx where
  prog := P
  w := w
  K := K
  mg := mg
  base := base
  A := A.deeper (envOfC qual scope s.heap.objs.size f cd)
  N := N
  s₀ := s
  H₀ := H
  env := envOfC qual scope s.heap.objs.size f cd
  outer := outer
  stack := envOfC qual scope s.heap.objs.size f cd :: outer
  ex := []
  calm := true
  fn := fun _ => true
  pn := []
  xe := fun e s' => wpAny (model P w) (A.deeper (envOfC qual scope s.heap.objs.size f cd)) (leaving (envOfC qual scope s.heap.objs.size f cd) e) (fun _ s'' => CX outer H s E e s'') (fun e' s'' => CX outer H s E e' s'') s'
theorem cell_has {sc : Scope} {n : Nat} {x : Str} (h : sc.names.lookup x = some .cell) : ∃ c, (cellsFrom n sc.names []).lookup x = some c := by
  have q := PySem.W.cellsFrom_some sc.names n [] (.inl h)
  exact Option.isSome_iff_exists.mp q
theorem inv_start {CX : CXT} {P : Program} {w : World} {K : PySem.W.Frag} {mg : Str → Option Value} {base : Heap} {N ps : List Str} {qual : Str} {scope : Scope} {f : Addr} {cd : Value} {A : Around} {outer : List Env} {s s1 : Shared} {H : Hp} {E : XK} {us : List Value} {vs : List V}
    (S : FnScope N ps scope) (hd : A.handled = none) (e0 : Env0 P w K mg base A outer s H) (hl : vs.length = ps.length) (r : Vals vs us)
    (x : InCallC s s.heap.objs.size (bindL (envOfC qual scope s.heap.objs.size f cd).kindOf (ps.zip us) fun _ => none) (cellsFrom (s.heap.objs.size + 1) scope.names []) (bindC (envOfC qual scope s.heap.objs.size f cd).kindOf (ps.zip us) fun _ => none) s1) :
    Inv (cxOf CX P w K mg base N qual scope f cd A outer s H E) [] (start N vs) H s1 := by
  have hpl : ps.length ≤ N.length := by have := congrArg List.length S.pre; rw [List.length_take] at this; omega
  obtain ⟨h1, tk, rfl, hk⟩ := x.done
  have noA : ∀ b : Addr, b ∉ (cxOf CX P w K mg base N qual scope f cd A outer s H E).ex := fun b z => absurd (show b ∈ ([] : List Addr) from z) (by simp)
  refine ⟨⟨e0.mod, S.kind, rfl, rfl, Nat.le_refl _, fun y z c h1 h2 => ?_, fun y hy => ?_, fun y c _ h => ?_, fun _ => hd, Around.frames_deeper e0.frames, .inr ⟨rfl, rfl⟩, fun b z => absurd z (noA b), e0.bs, e0.bsz, fun b _ _ => noA b, fun b z => absurd z (noA b), e0.funs, e0.frf⟩,
    rfl, e0.bare, Un.kept hk, ⟨_, x.toInCall.ns, fun i y v h1 h2 h3 => ?_⟩, fun y c h => ⟨_, x.cell y c h⟩, e0.hok.fresh (Nat.le_refl _), fun y c h => ?_, fun p hp => absurd (show p ∈ ([] : List (Addr × Obj)) from hp) (by simp), e0.hok.kept hk, ?_⟩
  · exact name_of_addr x.apart (PySem.mem_of_lookup h1) (PySem.mem_of_lookup h2)
  · have hy : scope.names.lookup y = some .cell ∨ scope.names.lookup y = some .free := hy
    rcases hy with hy | hy
    · exact cell_has hy
    · exact absurd rfl (S.nofree _ (PySem.mem_of_lookup hy))
  · exact Nat.le_of_lt (x.above y c (PySem.mem_of_lookup h))
  · have hi : i < vs.length := by
      unfold start at h2
      by_cases hi : i < vs.length
      · exact hi
      · rw [List.getElem?_append_right (by simpa using hi)] at h2
        rw [List.getElem?_replicate] at h2
        split at h2 <;> cases h2
    have ha : vs[i]? = some v := by
      unfold start at h2
      rw [List.getElem?_append_left (by simpa using hi), List.getElem?_map] at h2
      cases e : vs[i]? with
      | none => rw [e] at h2; cases h2
      | some a => rw [e] at h2; cases h2; rfl
    obtain ⟨u, hu, rv⟩ := r.get ha
    have hp : ps[i]? = some y := by
      rw [← S.pre, List.getElem?_take_of_lt (by omega)]; exact h1
    have ndP : ps.Nodup := by rw [← S.pre]; exact S.nd.sublist (List.take_sublist _ _)
    refine ⟨u, rv, ?_⟩
    rcases S.par y (List.mem_of_getElem? hp) with k | k
    · exact .inl ⟨k, bindL_get ndP hp hu k⟩
    · obtain ⟨c, e⟩ := cell_has (n := s.heap.objs.size + 1) k
      refine .inr ⟨.inl k, c, e, ?_⟩
      have q := x.cell y c e
      rw [bindC_get ndP hp hu (by show scope.names.lookup y ≠ _; rw [k]; decide)] at q
      exact q
  · exact e0.hok.fresh (Nat.le_of_lt (x.above y c (PySem.mem_of_lookup h)))
  · unfold start
    show _ = N.length
    rw [List.length_append, List.length_map, List.length_replicate]
    omega
theorem fn_of {CX : CXT} {P : Program} {w : World} {K : PySem.W.Frag} {mg : Str → Option Value} {base : Heap} {k : Nat} {f : Addr} {name qual : Str} {params : Arguments} {body : List Stmt} {scope : Scope} {dV kV doc pm cdv ct oc : Value} {an od : Option Addr}
    {osl : Array (Option Value)} {N ps : List Str} {sp : Sp} (lk : K.lookup f = some ⟨oc, od, .func (PySem.W.fnOf name qual params body scope dV kV doc pm an cdv ct), osl⟩) (hcd : PySem.W.codeIn K cdv qual = true) (S : FnScope N ps scope)
    (len : ∀ vs H Q E, sp vs H Q E → vs.length = ps.length)
    (hbody : ∀ (A : Around) (outer : List Env) (s : Shared) (H : Hp) (vs : List V) (Q : VK) (E : XK), Room k (A.deeper (envOfC qual scope s.heap.objs.size f cdv)) → sp vs H Q E →
      ∃ t, PSs (cxOf CX P w K mg base N qual scope f cdv A outer s H E) body t ∧ t { nx := fun _ H' => Q .non H', rt := Q } (start N vs) H) :
    FnOk P w K mg base CX (k + 1) f (PySem.W.fnOf name qual params body scope dV kV doc pm an cdv ct) ps sp := by
  refine ⟨len, fun A outer s H args us vs Q E hr e0 hb r hsp => ?_⟩
  have hl := len _ _ _ _ hsp
  have KX : K.In s.heap := e0.mod.kin.keeps fun b o e => (e0.bs b o e).1
  have lim : s.heap.NoLimit := e0.mod.nolimit.keeps fun b o e => (e0.bs b o e).1
  have hkind : ∀ y ∈ ps.zip us, scope.names.lookup y.1 = some .local ∨ (scope.names.lookup y.1 = some .cell ∧ ((cellsFrom (s.heap.objs.size + 1) scope.names []).lookup y.1).isSome = true) := fun ⟨n, v⟩ hy => by
    rcases S.par n (List.of_mem_zip hy).1 with q | q
    · exact .inl q
    · exact .inr ⟨q, PySem.W.cellsFrom_some _ _ _ (.inl q)⟩
  refine codeAny_call_function hr.depth (KX _ _ lk) rfl S.co S.gen rfl (PySem.W.codeRec_of KX hcd) (hb _ _ _ _ ?_)
  refine wpAny_newFunctionEnv_cells S.kind hkind fun env he s1 x => ?_
  subst he
  refine ⟨lim.keeps x.toInCall.keep, codeAny_func ?_⟩
  obtain ⟨t, ht, hq⟩ := hbody A outer s H vs Q E (hr.deeper _) hsp
  have I : Inv (cxOf CX P w K mg base N qual scope f cdv A outer s H E) [] (start N vs) H s1 := inv_start S hr.hd e0 hl r x
  refine wpAny_mono (ht [] s1 (start N vs) H _ I hq) (fun fl s' hs => ?_) fun e s' hs => hs
  have fin : ∀ {σ' : St} {H' : Hp} {v : V} {u : Value}, Inv (cxOf CX P w K mg base N qual scope f cdv A outer s H E) [] σ' H' s' → RelV v u → Q v H' → CE outer P w H s Q u s' :=
    fun {σ' H' v u} J rv q => ⟨v, H', J.os, J.bare, J.base, J.hok, rv, q⟩
  cases fl with
  | ret u =>
    obtain ⟨v, σ', H', J, rv, q⟩ := hs
    exact fin J rv q
  | next =>
    obtain ⟨σ', H', J, q⟩ := hs
    exact fin (v := V.non) (u := Value.none) J rfl q
  | brk =>
    obtain ⟨_, _, _, q⟩ := hs
    exact False.elim q
  | cont =>
    obtain ⟨_, _, _, q⟩ := hs
    exact False.elim q
end L2
namespace L2
open PySem PySem.Spec PyProof.Rows
section
variable {X : Cx} {x : Str} {p pos : Pos} {e : Expr} {es : List Expr} {t : TA} {id T : String} {r : List V → Hp → VK → Prop}
def tCB (r : List V → Hp → VK → Prop) (t : TA) : TE := fun σ H Q => t σ H fun vs H1 => r vs H1 Q
theorem pe_callB (hc : CallR X (.builtin id) r) (hg : Gl X x) (hm : X.mg x = none) (hv : bootBuiltins x = some (.builtin id)) (ha : PA X (e :: es) t) (hn : x ≠ "__name__" := by decide) (hdb : (x == ("__debug__" : Str)) = false := by decide)
    (he : starEach (e :: es) X.env = (false, eval e X.env) :: starEach es X.env := by rfl) (hpl : (backTo pos (starEach es X.env)).any (·.1) = false := by rfl) : PE X (.Call (.Name x p) (e :: es) [] pos) (tCB r t) := by
  intro pins s σ H Q I h
  refine wpAny_Call_Name_kw (ld_blt I hg hm hv ?_ hn hdb)
  exact PyProof.Rows.callWith_builtin1 (thn (ha pos pins s σ H _ I h) fun us s1 ⟨vs, H1, I1, r1, q1⟩ => hc pins s1 σ H1 vs us Q I1 r1 q1) he hpl
end
end L2
namespace HT
open PySem PyProof.Rows
section
open PySem.SeqAt
open PySem.AutoSeq1 (wpAny_loadPart')
open PySem.MeetsSeq PySem.MeetsSeq2 PySem.MeetsSeq3
end
section
variable {prog : Program} {w : World} {A : Around} {E : Value → Shared → Prop} {s : Shared}
def sIx (n d : Nat) : Option Int → Nat
  | none => d
  | some v => if v < 0 then (v + (n : Int)).toNat else min v.toNat n
end
end HT
namespace L2
open PySem PySem.Spec PyProof.Rows
abbrev TO := St → Hp → (Option Int → Hp → Prop) → Prop
def PO (X : Cx) (e : Option Expr) (t : TO) : Prop :=
  ∀ (pins : List (Addr × Obj)) (s : Shared) (σ : St) (H : Hp) (Q : Option Int → Hp → Prop), Inv X pins σ H s → t σ H Q →
    wpAny (model X.prog X.w) X.A (evalPart e X.env) (fun u s' => ∃ o H', Inv X pins σ H' s' ∧ IsPart u o ∧ Q o H') X.xe s
def tNoPart : TO := fun _ H Q => Q none H
def tPart (t : TE) : TO := fun σ H Q => t σ H fun x H1 => ∃ i, x = .int i ∧ Q (some i) H1
section
variable {X : Cx} {e : Expr} {te : TE} {lo hi : Option Expr} {tl th : TO} {pos p2 : Pos}
theorem po_none : PO X none tNoPart := by
  intro pins s σ H Q I h
  rw [evalPart_none]
  exact wpAny_pure ⟨none, H, I, .none, h⟩
theorem po_some (h : PE X e te) : PO X (some e) (tPart te) := by
  intro pins s σ H Q I hw
  rw [evalPart_some]
  refine thn (h pins s σ H _ I hw) fun u s1 ⟨x, H1, I1, r1, q1⟩ => ?_
  obtain ⟨i, rfl, q⟩ := q1
  obtain ⟨t, rfl⟩ := r1
  exact ⟨some i, H1, I1, .int i t, q⟩
def SlR (X : Cx) (r : V → Option Int → Option Int → Hp → VK → Prop) : Prop :=
  ∀ (pins : List (Addr × Obj)) (s : Shared) (σ : St) (H : Hp) (x : V) (v vl vu : Value) (lo hi : Option Int) (sl : Addr) (Q : VK), Inv X pins σ H s → RelV x v → s.heap.IsSliceOf sl vl vu .none → IsPart vl lo → IsPart vu hi → r x lo hi H Q →
    ∃ T id, typeLookup (.type T) "__getitem__" = pure (some (.builtin id)) ∧ s.TypeIs v T ∧ wpAny (model X.prog X.w) X.A (getItem v (.ref sl)) (EP X pins σ Q) X.xe s
theorem SlR.or {r r' : V → Option Int → Option Int → Hp → VK → Prop} (h : SlR X r) (h' : SlR X r') : SlR X (fun x lo hi H Q => r x lo hi H Q ∨ r' x lo hi H Q) := by
  intro pins s σ H x v vl vu lo hi sl Q I rx hs pl pu q
  rcases q with q | q
  · exact h pins s σ H x v vl vu lo hi sl Q I rx hs pl pu q
  · exact h' pins s σ H x v vl vu lo hi sl Q I rx hs pl pu q
def tSl (r : V → Option Int → Option Int → Hp → VK → Prop) (te : TE) (tl th : TO) : TE := fun σ H Q => te σ H fun x H1 => tl σ H1 fun l H2 => th σ H2 fun u H3 => r x l u H3 Q
theorem pe_slice {r : V → Option Int → Option Int → Hp → VK → Prop} (hr : SlR X r) (he : PE X e te) (hl : PO X lo tl) (hu : PO X hi th) : PE X (.Subscript e (.Slice lo hi none p2) pos) (tSl r te tl th) := by
  intro pins s σ H Q I h
  refine Subscript_ (thn (he pins s σ H _ I h) fun v s1 ⟨x, H1, I1, r1, q1⟩ => ?_)
  refine wpAny_Slice (thn (hl pins s1 σ H1 _ I1 q1) fun vl s2 ⟨l, H2, I2, pl, q2⟩ => thn (hu pins s2 σ H2 _ I2 q2) fun vu s3 ⟨u, H3, I3, pu, q3⟩ => ?_)
  rw [evalPart_none]
  refine wpAny_pure ?_
  have I4 : Inv X pins σ H3 { s3 with heap := s3.heap.push { cls := .type "slice", data := .fields #[vl, vu, .none] } } := I3.kept (t' := s3.toks) fun b ob q => Heap.get?_push_of_some _ q
  obtain ⟨T, id, hT, ht, hg⟩ := hr pins { s3 with heap := s3.heap.push { cls := .type "slice", data := .fields #[vl, vu, .none] } } σ H3 x v vl vu l u s3.heap.objs.size Q I4 r1 (Heap.IsSliceOf.new ..) pl pu q3
  show wpAny (model X.prog X.w) X.A (subscriptTail e (.Slice lo hi none p2) v (.ref s3.heap.objs.size)) (EP X pins σ Q) X.xe { s3 with heap := s3.heap.push { cls := .type "slice", data := .fields #[vl, vu, .none] } }
  exact tail_any (ops := [.ref s3.heap.objs.size, v]) ht hT hg (by with_unfolding_all rfl)
def cutV (xs : List V) (lo hi : Option Int) : List V := (xs.drop (HT.sIx xs.length 0 lo)).take (HT.sIx xs.length xs.length hi - HT.sIx xs.length 0 lo)
theorem cutV_length (xs : List V) (lo hi : Option Int) : (cutV xs lo hi).length ≤ xs.length := by
  unfold cutV
  rw [List.length_take, List.length_drop]
  omega
end
end L2
namespace L2
open PySem PySem.Spec PyProof.Rows
def ixN (n : Nat) (i : Int) : Option Nat := if 0 ≤ i then (if i < n then some i.toNat else none) else if -(n : Int) ≤ i then some (i + n).toNat else none
def atI {α : Type} (xs : List α) (i : Int) : Option α := (ixN xs.length i).bind fun j => xs[j]?
theorem ixN_seq {n : Nat} {i : Int} {j : Nat} (h : ixN n i = some j) : seqIndex? i n = some j ∧ j < n ∧ -(n : Int) ≤ i ∧ i < n := by
  unfold ixN at h
  by_cases h0 : 0 ≤ i
  · rw [if_pos h0] at h
    by_cases h1 : i < n
    · rw [if_pos h1] at h
      have e : i.toNat = j := Option.some.inj h
      exact ⟨by rw [seqIndex_of h0 h1, e], by omega, by omega, h1⟩
    · rw [if_neg h1] at h; cases h
  · rw [if_neg h0] at h
    by_cases h1 : -(n : Int) ≤ i
    · rw [if_pos h1] at h
      have e : (i + n).toNat = j := Option.some.inj h
      exact ⟨by rw [seqIndex_neg (by omega) h1, e], by omega, h1, by omega⟩
    · rw [if_neg h1] at h; cases h
theorem atI_get {α : Type} {xs : List α} {i : Int} {v : α} (h : atI xs i = some v) : ∃ j, seqIndex? i xs.length = some j ∧ xs[j]? = some v ∧ j < xs.length ∧ -(xs.length : Int) ≤ i ∧ i < xs.length := by
  unfold atI at h
  cases e : ixN xs.length i with
  | none => rw [e] at h; cases h
  | some j =>
    rw [e] at h
    obtain ⟨h1, h2, h3, h4⟩ := ixN_seq e
    exact ⟨j, h1, h, h2, h3, h4⟩
theorem atI_nat {α : Type} {xs : List α} {j : Nat} {v : α} (h : xs[j]? = some v) : atI xs (j : Int) = some v := by
  have hj : j < xs.length := (List.getElem?_eq_some_iff.mp h).1
  have e : ixN xs.length (j : Int) = some j := by
    unfold ixN
    rw [if_pos (by omega), if_pos (by omega)]; simp
  unfold atI; rw [e]; exact h
def PlainIx (b : Expr) : Prop := ∀ o i, subscripted b false o i = operate [o, i] (getItem o i)
def IxR (X : Cx) (r : R2) : Prop :=
  ∀ (value slice : Expr) (pins : List (Addr × Obj)) (s : Shared) (σ : St) (H : Hp) (x y : V) (v u : Value) (Q : VK), Inv X pins σ H s → RelV x v → RelV y u → r x y H Q →
    subscripted slice false v u = operate [v, u] (getItem v u) → wpAny (model X.prog X.w) X.A (subscriptTail value slice v u) (EP X pins σ Q) X.xe s
def MtR (X : Cx) (id : String) (r : V → List V → Hp → VK → Prop) : Prop :=
  ∀ (pins : List (Addr × Obj)) (s : Shared) (σ : St) (H : Hp) (x : V) (xs : List V) (v : Value) (us : List Value) (Q : VK), Inv X pins σ H s → RelV x v → Vals xs us → r x xs H Q →
    wpAny (model X.prog X.w) X.A (call (.builtin id) (v :: us)) (EP X pins σ Q) X.xe s
section
variable {X : Cx} {a b : Expr} {ta tb : TE} {pos : Pos}
theorem IxR.or {r r' : R2} (h : IxR X r) (h' : IxR X r') : IxR X (fun x y H Q => r x y H Q ∨ r' x y H Q) := by
  intro value slice pins s σ H x y v u Q I rx ry q hs
  rcases q with q | q
  · exact h value slice pins s σ H x y v u Q I rx ry q hs
  · exact h' value slice pins s σ H x y v u Q I rx ry q hs
theorem pe_ix {r : R2} (hr : IxR X r) (ha : PE X a ta) (hb : PE X b tb) (hs : PlainIx b) : PE X (.Subscript a b pos) (tOp r ta tb) := by
  intro pins s σ H Q I h
  exact Subscript_ (binT ha hb I h fun v u s2 x y H2 I2 rx ry q => hr a b pins s2 σ H2 x y v u Q I2 rx ry q (hs _ _))
def rIxL (K : PySem.W.Frag) : R2 := fun x y H Q => ∃ p xs i v, x = .ref p ∧ y = .int i ∧ SqL K H p xs ∧ atI xs i = some v ∧ Q v H
def rIxT (K : PySem.W.Frag) : R2 := fun x y H Q => ∃ p xs i v, x = .ref p ∧ y = .int i ∧ SqT K H p xs ∧ atI xs i = some v ∧ Q v H
def rIxS : R2 := fun x y H Q => ∃ z i c, x = .str z ∧ y = .int i ∧ z.length ≤ sizeLine ∧ atI z.cps.toList i = some c ∧ Q (.str ⟨#[c]⟩) H
theorem ix_list : IxR X (rIxL X.K) := by
  intro value slice pins s σ H x y v u Q I rx ry h hs
  obtain ⟨p, xs, i, z, rfl, rfl, hq, he, q⟩ := h
  cases rx
  obtain ⟨t, rfl⟩ := ry
  obtain ⟨its, r, pl, hz⟩ := I.list hq
  obtain ⟨j, h1, h2, h3, h4, h5⟩ := atI_get he
  obtain ⟨w, ew, rw'⟩ := r.get h2
  have hl := r.length
  have hn := line63
  have fin : EP X pins σ Q w s := ⟨z, H, I, rw', q⟩
  by_cases h0 : 0 ≤ i
  · have hj : i.toNat = j := by
      rw [seqIndex_of h0 h5] at h1
      exact Option.some.inj h1
    exact item_listR pl.isList h0 (by omega) (by rw [hj]; simpa using ew) fin hs
  · have hj : (i + (its.toArray.size : Int)).toNat = j := by
      rw [seqIndex_neg (by omega) h4] at h1
      rw [List.size_toArray, ← hl]
      exact Option.some.inj h1
    exact subscriptTail_builtinR (x := w) pl.isList.typeIs slot_list_getitem.lookup
      (wpAny_getItem_list_neg (Q := fun r s' => r = w ∧ EP X pins σ Q r s') pl.isList (by omega) (by rw [List.size_toArray] <;> omega) (by omega) (by rw [hj]; simpa using ew) ⟨rfl, fin⟩) hs
theorem ix_tup : IxR X (rIxT X.K) := by
  intro value slice pins s σ H x y v u Q I rx ry h hs
  obtain ⟨p, xs, i, z, rfl, rfl, hq, he, q⟩ := h
  cases rx
  obtain ⟨t, rfl⟩ := ry
  obtain ⟨its, r, pl, hz⟩ := I.tuple hq
  obtain ⟨j, h1, h2, h3, h4, h5⟩ := atI_get he
  obtain ⟨w, ew, rw'⟩ := r.get h2
  have hl := r.length
  have hn := line63
  have fin : EP X pins σ Q w s := ⟨z, H, I, rw', q⟩
  exact subscriptTail_builtinR (x := w) pl.typeIs slot_tuple_getitem.lookup
    (getItem_tuple (j := j) (Q := fun r s' => r = w ∧ EP X pins σ Q r s') pl (by omega) (by omega) (by rw [List.size_toArray, ← hl]; exact h1) (by simpa using ew) ⟨rfl, fin⟩) hs
theorem ix_str : IxR X rIxS := by
  intro value slice pins s σ H x y v u Q I rx ry h hs
  obtain ⟨z, i, c, rfl, rfl, hz, he, q⟩ := h
  obtain ⟨t, rfl⟩ := rx
  obtain ⟨t', rfl⟩ := ry
  obtain ⟨j, h1, h2, h3, h4, h5⟩ := atI_get he
  have hl : z.cps.toList.length = z.length := by simp [Str.length]
  rw [hl] at h1 h4 h5
  have hn := line63
  exact tail_any (typeIs_str s z t) slot_str_getitem.lookup (getItem_str (c := c) (by
    have e1 : decide (i < -(2 ^ 63 : Int)) = false := decide_eq_false (by omega)
    have e2 : decide (i ≥ 2 ^ 63) = false := decide_eq_false (by omega)
    rw [e1, e2, Bool.or_false]) (by rw [h1]; simpa using h2) ⟨.str ⟨#[c]⟩, H, I.tok _, ⟨_, rfl⟩, q⟩) hs
def rIx (K : PySem.W.Frag) : R2 := fun x y H Q => rIxL K x y H Q ∨ rIxT K x y H Q ∨ rIxS x y H Q
theorem ix_seq : IxR X (rIx X.K) := ix_list.or (ix_tup.or ix_str)
theorem mapSeq_set (its : List Value) (n j : Nat) (u : Value) : Obj.mapSeq (·.setIfInBounds j u) { cls := .type "list", data := .seq its.toArray n } = { cls := .type "list", data := .seq (its.set j u).toArray n } := by
  simp [Obj.mapSeq]
theorem Inv.lst {pins : List (Addr × Obj)} {σ : St} {H : Hp} {s : Shared} {p : Addr} {xs : List V} (I : Inv X pins σ H s) (h : H p = some (.lst xs)) :
    ∃ (its : List Value) (n : Nat), Vals xs its ∧ s.heap.get? p = some { cls := .type "list", data := .seq its.toArray n } ∧ xs.length ≤ sizeLine := by
  obtain ⟨z, its, n, r, e⟩ := I.hok p _ h
  exact ⟨its, n, r, e, z⟩
theorem Inv.lstUpd {pins : List (Addr × Obj)} {σ : St} {H : Hp} {s : Shared} {p : Addr} {xs ys : List V} {its its' : List Value} {n n' : Nat} {f : Obj → Obj} (I : Inv X pins σ H s) (h : H p = some (.lst xs))
    (ho : s.heap.get? p = some { cls := .type "list", data := .seq its.toArray n }) (hf : f { cls := .type "list", data := .seq its.toArray n } = { cls := .type "list", data := .seq its'.toArray n' }) (r : Vals ys its') (hz : ys.length ≤ sizeLine) (t : Nat) :
    Inv X pins σ (upd H p (.lst ys)) { s with heap := s.heap.update p f, toks := t } := by
  have e : (s.heap.update p f).get? p = some { cls := .type "list", data := .seq its'.toArray n' } := by
    rw [Heap.get?_update_self f ho (by rw [hf] <;> rfl), hf]
  refine I.write (x := p) (e := p) (by rw [h]; trivial) (.inl rfl) (fun b u hb q => (Heap.get?_update_other _ _ (Ne.symm hb)).trans q) ⟨_, e⟩ ?_
  exact ⟨hz, its', n', r, e⟩
def rSetL : V → V → V → Hp → (Hp → Prop) → Prop := fun o i v H Q => ∃ p xs k j, o = .ref p ∧ i = .int k ∧ H p = some (.lst xs) ∧ ixN xs.length k = some j ∧ Q (upd H p (.lst (xs.set j v)))
theorem set_list : PSet X rSetL := by
  intro pins s σ H o i v ov iv u Q I ro ri rv h
  obtain ⟨p, xs, k, j, rfl, rfl, hp, hj, q⟩ := h
  cases ro
  obtain ⟨t, rfl⟩ := ri
  obtain ⟨its, n, r, ho, hz⟩ := I.lst hp
  obtain ⟨h1, h2, h3, h4⟩ := ixN_seq hj
  have hl := r.length
  have hn := line63
  have I' : Inv X pins σ (upd H p (.lst (xs.set j v))) { s with heap := s.heap.update p (Obj.mapSeq (·.setIfInBounds j u)) } :=
    I.lstUpd hp ho (mapSeq_set its n j u) (r.set rv j) (by rw [List.length_set]; exact hz) s.toks
  by_cases h0 : 0 ≤ k
  · have hk : k.toNat = j := by
      rw [seqIndex_of h0 h4] at h1
      exact Option.some.inj h1
    exact PySem.W.ki_setAt ho h0 (by omega) (by rw [List.size_toArray, ← hl]; exact h4) (by rw [hk]; exact ⟨_, I', q⟩)
  · have hk : (k + (its.toArray.size : Int)).toNat = j := by
      rw [seqIndex_neg (by omega) h3] at h1
      rw [List.size_toArray, ← hl]
      exact Option.some.inj h1
    exact PySem.W.ki_setBack ho (by omega) (by rw [List.size_toArray, ← hl]; exact h3) (by omega) (by rw [hk]; exact ⟨_, I', q⟩)
theorem slice_bounds (lo hi : Option Int) (n : Nat) : (sliceBounds lo hi none n).1 = ((HT.sIx n 0 lo : Nat) : Int) ∧ (sliceBounds lo hi none n).2.1 = ((HT.sIx n n hi : Nat) : Int) ∧ (sliceBounds lo hi none n).2.2 = 1 := by
  refine ⟨?_, ?_, rfl⟩
  · cases lo with
    | none => simp [sliceBounds, HT.sIx]
    | some i =>
      simp only [sliceBounds, HT.sIx, Option.getD_none, show (1 : Int) > 0 by decide, if_true]
      by_cases h : i < 0
      · simp only [h, if_true] <;> omega
      · simp only [h, if_false] <;> omega
  · cases hi with
    | none => simp [sliceBounds, HT.sIx]
    | some i =>
      simp only [sliceBounds, HT.sIx, Option.getD_none, show (1 : Int) > 0 by decide, if_true]
      by_cases h : i < 0
      · simp only [h, if_true] <;> omega
      · simp only [h, if_false] <;> omega
theorem slicePick_cut (its : List Value) (lo hi : Option Int) : slicePick its.toArray lo hi none = ((its.drop (HT.sIx its.length 0 lo)).take (HT.sIx its.length its.length hi - HT.sIx its.length 0 lo)).toArray := by
  obtain ⟨h1, h2, h3⟩ := slice_bounds lo hi its.toArray.size
  unfold slicePick
  rw [h1, h2, h3]
  simp only [sliceRange_one, pick_run, List.size_toArray] <;> rfl
def rSlL (K : PySem.W.Frag) : V → Option Int → Option Int → Hp → VK → Prop := fun x lo hi H Q => ∃ a xs, x = .ref a ∧ SqL K H a xs ∧ ∀ p, H p = none → Q (.ref p) (upd H p (.lst (cutV xs lo hi)))
theorem sl_list : SlR X (rSlL X.K) := by
  intro pins s σ H x v vl vu lo hi sl Q I rx hs pl pu h
  obtain ⟨a, xs, rfl, hx, q⟩ := h
  cases rx
  obtain ⟨its, r, ht, hz⟩ := I.list hx
  have hlen := r.length
  refine ⟨"list", _, slot_list_getitem.lookup, ht.isList.typeIs, ?_⟩
  refine wpAny_getItem_list_slice ht.isList hs pl pu .none (by simp) ?_ (by rw [List.size_toArray] <;> omega)
  rw [slicePick_cut, ← hlen]
  refine ⟨.ref s.heap.objs.size, _, I.laid (t' := s.toks) (o := .lst (cutV xs lo hi)) (fun b ob q => Heap.get?_push_of_some _ q) (Nat.le_refl _) ?_, rfl, q _ (I.hok.fresh (Nat.le_refl _))⟩
  exact ⟨Nat.le_trans (cutV_length xs lo hi) hz, _, 0, (r.drop (HT.sIx xs.length 0 lo)).take (HT.sIx xs.length xs.length hi - HT.sIx xs.length 0 lo), Heap.get?_push_size _ rfl⟩
theorem call_len_seq : CallR X (.builtin "len") (fun xs H Q => ∃ p ys, xs = [.ref p] ∧ (SqL X.K H p ys ∨ SqT X.K H p ys) ∧ Q (.int ys.length) H) := by
  intro pins s σ H xs us Q I r h
  obtain ⟨p, ys, rfl, hq, q⟩ := h
  obtain ⟨u, rfl, rx⟩ := vals1 r
  cases rx
  have hn := line63
  rcases hq with hq | hq
  · obtain ⟨its, r', pl, hz⟩ := I.list hq
    have hlen := r'.length
    exact Calls.call_len_list pl.isList (by simp only [List.size_toArray] <;> omega) ⟨.int ys.length, H, I.tok _, ⟨s.toks + 1, by rw [List.size_toArray, hlen]⟩, q⟩
  · obtain ⟨its, r', pl, hz⟩ := I.tuple hq
    have hlen := r'.length
    exact len_tuple pl (by simp only [List.size_toArray] <;> omega) ⟨.int ys.length, H, I.tok _, ⟨s.toks + 1, by rw [List.size_toArray, hlen]⟩, q⟩
theorem call_len_str : CallR X (.builtin "len") (fun xs H Q => ∃ z, xs = [.str z] ∧ z.length ≤ sizeLine ∧ Q (.int z.length) H) := by
  intro pins s σ H xs us Q I r h
  obtain ⟨z, rfl, hz, q⟩ := h
  obtain ⟨u, rfl, t, rfl⟩ := vals1 r
  have hn := line63
  exact len_str (by omega) ⟨.int z.length, H, I.tok _, ⟨_, rfl⟩, q⟩
theorem CallR.or {f : Value} {r r' : List V → Hp → VK → Prop} (h : CallR X f r) (h' : CallR X f r') : CallR X f (fun xs H Q => r xs H Q ∨ r' xs H Q) := by
  intro pins s σ H xs us Q I rs q
  rcases q with q | q
  · exact h pins s σ H xs us Q I rs q
  · exact h' pins s σ H xs us Q I rs q
def tyV (K : PySem.W.Frag) (T : String) (x : V) (H : Hp) : Prop := match x with
  | .str _ => T = "str"
  | .int _ => T = "int"
  | .ref p => (T = "list" ∧ ∃ xs, SqL K H p xs) ∨ (T = "tuple" ∧ ∃ o, K.lookup p = some o ∧ o.cls = .type "tuple" ∧ o.dict = none) ∨
      (T = "dict" ∧ ((∃ kvs, H p = some (.dK kvs)) ∨ ∃ kvs, H p = some (.dT kvs))) ∨ (T = "set" ∧ ∃ S n, H p = some (.set S n))
  | _ => False
theorem tyV_is {pins : List (Addr × Obj)} {σ : St} {H : Hp} {s : Shared} {T : String} {x : V} {v : Value} (I : Inv X pins σ H s) (r : RelV x v) (ty : tyV X.K T x H) :
    s.TypeIs v T ∧ ∀ a, v = .ref a → ∃ ob, s.heap.get? a = some ob ∧ ob.dict = none := by
  cases x with
  | str z =>
    obtain ⟨t, rfl⟩ := r
    cases (show T = "str" from ty)
    exact ⟨typeIs_str s z t, fun _ e => nomatch e⟩
  | int i =>
    obtain ⟨t, rfl⟩ := r
    cases (show T = "int" from ty)
    exact ⟨typeIs_int s i t, fun _ e => nomatch e⟩
  | ref p =>
    cases r
    rcases ty with ⟨rfl, xs, hq⟩ | ⟨rfl, o, hk, hc, hd⟩ | ⟨rfl, hk⟩ | ⟨rfl, S, n, hk⟩
    · obtain ⟨its, _, pl, _⟩ := I.list hq
      refine ⟨pl.isList.typeIs, fun a e => ?_⟩
      cases e
      obtain ⟨o, n, e, c, hd, _⟩ := pl
      exact ⟨o, e, hd⟩
    · refine ⟨⟨o, I.kIn p o hk, hc⟩, fun a e => ?_⟩
      cases e
      exact ⟨o, I.kIn _ o hk, hd⟩
    · have z : ∃ o, s.heap.get? p = some o ∧ o.ExactDict := by
        rcases hk with ⟨kvs, hk⟩ | ⟨kvs, hk⟩
        · obtain ⟨_, _, _, _, o, _, _, e, ex, _⟩ := I.hok p _ hk
          exact ⟨o, e, ex⟩
        · obtain ⟨_, _, _, _, o, _, _, e, ex, _⟩ := I.hok p _ hk
          exact ⟨o, e, ex⟩
      obtain ⟨o, e, ex⟩ := z
      refine ⟨⟨o, e, ex.1⟩, fun a e2 => ?_⟩
      cases e2
      exact ⟨o, e, ex.2.1⟩
    · obtain ⟨o, _, _, _, e, ex, _⟩ := I.hok p _ hk
      refine ⟨⟨o, e, ex.1⟩, fun a e2 => ?_⟩
      cases e2
      exact ⟨o, e, ex.2.1⟩
  | _ => exact False.elim ty
def tBM (K : PySem.W.Frag) (T : String) (r : V → List V → Hp → VK → Prop) (to : TE) (t : TA) : TE := fun σ H Q => to σ H fun x H1 => tyV K T x H1 ∧ t σ H1 fun xs H2 => r x xs H2 Q
variable {o e : Expr} {es : List Expr} {to : TE} {t : TA} {name : Str} {apos cpos : Pos} {T id : String} {r : V → List V → Hp → VK → Prop}
theorem pe_bm (pa : PlainAttrs T) (slot : Slot T name id) (hty : typeOf (.builtin id) = pure (.type "method_descriptor")) (hm : MtR X id r) (ho : PE X o to) (ha : PA X (e :: es) t)
    (hbase : attributeBase o name X.env (eval o X.env) = eval o X.env := by rfl)
    (hfew : ((backTo cpos (starEach (e :: es) X.env)).all (fun x => !x.1) && (backToKw cpos (keywordEach [] X.env)).all (fun x => x.1.isSome)
      && decide ((e :: es).length + ([] : List Keyword).length + (if ([] : List Keyword).isEmpty then 0 else 1) < 30)) = true := by rfl)
    (hline : (apos.endLine == cpos.line) = true := by rfl) (hs : starEach (e :: es) X.env = (false, eval e X.env) :: starEach es X.env := by rfl) (hplain : (backTo cpos (starEach es X.env)).any (·.1) = false := by rfl) :
    PE X (.Call (.Attribute o name apos) (e :: es) [] cpos) (tBM X.K T r to t) := by
  intro pins s σ H Q I h
  refine wpAny_Call_method_late hbase hfew hline rfl (thn (ho pins s σ H _ I h) fun v s1 ⟨x, H1, I1, r1, ty, q1⟩ => ?_)
  obtain ⟨h1, h2⟩ := tyV_is I1 r1 ty
  refine ⟨T, id, pa, slot, hty, h1, h2, ?_⟩
  have hA := ha cpos pins s1 σ H1 _ I1 q1
  rw [hs] at hA ⊢
  refine Calls.callWith_builtin (by show (false || (backTo cpos (starEach es X.env)).any (·.1)) = false; rw [hplain] <;> rfl) (Calls.evalArgs_plain ?_)
  exact thn hA fun us s2 ⟨vs, H2, I2, r2, q2⟩ => hm pins s2 σ H2 x vs v us Q I2 r1 r2 q2
end
end L2
namespace L2
open PySem PySem.Spec PyProof.Rows
def MtM (X : Cx) (id : String) (r : V → List V → Hp → VK → Prop) : Prop :=
  ∀ (pins : List (Addr × Obj)) (s : Shared) (σ : St) (H : Hp) (x : V) (xs : List V) (v : Value) (us : List Value) (Q : VK), Inv X pins σ H s → RelV x v → Vals xs us → r x xs H Q →
    wpAny (model X.prog X.w) X.A (call (.builtin id) (v :: us)) (EP X pins σ Q) X.xe s
theorem Vals.one : ∀ {x : V} {us : List Value}, Vals [x] us → ∃ u, us = [u] ∧ RelV x u
  | _, _, .cons r .nil => ⟨_, rfl, r⟩
theorem Vals.rep {xs : List V} {us : List Value} (h : Vals xs us) : ∀ k : Nat, Vals (List.replicate k xs).flatten (List.replicate k us).flatten
  | 0 => .nil
  | k + 1 => by
    rw [List.replicate_succ, List.replicate_succ, List.flatten_cons, List.flatten_cons]
    exact Vals.append h (Vals.rep h k)
theorem foldl_rep (its : List Value) : ∀ (k : Nat) (acc : List Value),
    List.foldl (fun x1 x2 => x1 ++ x2) acc.toArray (List.replicate k its.toArray) = (acc ++ (List.replicate k its).flatten).toArray
  | 0, acc => by simp
  | k + 1, acc => by
    have e : acc.toArray ++ its.toArray = (acc ++ its).toArray := by simp
    have e2 : (acc ++ its) ++ (List.replicate k its).flatten = acc ++ (List.replicate (k + 1) its).flatten := by
      rw [List.replicate_succ, List.flatten_cons, List.append_assoc]
    rw [← e2, ← foldl_rep its k (acc ++ its), ← e, List.replicate_succ, List.foldl_cons]
section
variable {X : Cx} {pins : List (Addr × Obj)} {σ : St} {H : Hp} {s : Shared} {l b : Addr} {xs ys zs : List V}
theorem Inv.lset {its its' : List Value} {n : Nat} {f : Array Value → Array Value} {t' : Nat} (I : Inv X pins σ H s) (hH : H l = some (.lst xs))
    (e : s.heap.get? l = some { cls := .type "list", data := .seq its.toArray n }) (hf : f its.toArray = its'.toArray) (hv : Vals ys its') (hz : ys.length ≤ sizeLine) :
    Inv X pins σ (upd H l (.lst ys)) { s with heap := s.heap.update l (Obj.mapSeq f), toks := t' } := by
  have q := PySem.IsL.update e f
  rw [hf] at q
  refine I.write (x := l) (e := l) (by rw [hH]; exact trivial) (.inl rfl) (fun b' u hb hu => (Heap.get?_update_other s.heap (Obj.mapSeq f) (Ne.symm hb)).trans hu) ⟨_, q⟩ ?_
  exact ⟨hz, its', _, hv, q⟩
theorem Inv.lnew {its : List Value} {t' : Nat} (I : Inv X pins σ H s) (hv : Vals ys its) (hz : ys.length ≤ sizeLine) :
    Inv X pins σ (upd H s.heap.objs.size (.lst ys)) { s with heap := s.heap.push { cls := .type "list", data := .seq its.toArray }, toks := t' } :=
  I.laid (fun _ _ q => Heap.get?_push_of_some _ q) (Nat.le_refl _) ⟨hz, its, 0, hv, Heap.get?_push_size _ rfl⟩
theorem Inv.fresh (I : Inv X pins σ H s) : H s.heap.objs.size = none := I.hok.fresh (Nat.le_refl _)
theorem Inv.lstM (I : Inv X pins σ H s) (hH : H l = some (.lst xs)) : xs.length ≤ sizeLine ∧ ∃ (its : List Value) (n : Nat), Vals xs its ∧ xs.length = its.length ∧ s.heap.get? l = some { cls := .type "list", data := .seq its.toArray n } := by
  obtain ⟨z, its, n, r, e⟩ := I.hok l _ hH
  exact ⟨z, its, n, r, r.length, e⟩
theorem notLongL {n : Nat} (h : n ≤ sizeLine) : Builtin.List.listTooLong n = false := by
  unfold Builtin.List.listTooLong
  exact decide_eq_false (by omega)
end
section
variable {X : Cx}
def rAppend : V → List V → Hp → VK → Prop := fun x vs H Q => ∃ l xs y, x = .ref l ∧ vs = [y] ∧ H l = some (.lst xs) ∧ xs.length < sizeLine ∧ Q .non (upd H l (.lst (xs ++ [y])))
theorem mt_append : MtM X "list.append" rAppend := by
  intro pins s σ H x vs v us Q I rx rv h
  obtain ⟨l, xs, y, rfl, rfl, hH, hz, q⟩ := h
  cases rx
  obtain ⟨u, rfl, ru⟩ := rv.one
  obtain ⟨z, its, n, r, hl, e⟩ := I.lstM hH
  refine call_meets F.slot_list_append ⟨_, e, rfl⟩ F.entry_list_append (F.args_list_append_2 _ _) (PySem.list_append l its.toArray n u (by rw [List.size_toArray]; omega)) ⟨e, ?_⟩
  refine ⟨.non, _, I.lset (its' := its ++ [u]) hH e (by simp) (r.append (.cons ru .nil)) ?_, rfl, q⟩
  rw [List.length_append, List.length_singleton]
  omega
def rCat : R2 := fun x y H Q => ∃ l b xs zs, x = .ref l ∧ y = .ref b ∧ H l = some (.lst xs) ∧ H b = some (.lst zs) ∧ xs.length + zs.length ≤ sizeLine ∧ ∀ p, H p = none → Q (.ref p) (upd H p (.lst (xs ++ zs)))
theorem op_cat : OpR X (binaryOp .Add) rCat := by
  intro pins s σ H x y v u Q I rx ry h
  obtain ⟨l, b, xs, zs, rfl, rfl, hH, hB, hz, q⟩ := h
  cases rx
  cases ry
  obtain ⟨z, its, n, r, hl, e⟩ := I.lstM hH
  obtain ⟨z2, its2, n2, r2, hl2, e2⟩ := I.lstM hB
  refine PySem.P.add_list e e2 ?_ (by rw [List.size_toArray, List.size_toArray]; omega)
  have ea : its.toArray ++ its2.toArray = (its ++ its2).toArray := by simp
  rw [ea]
  exact ⟨.ref _, _, I.lnew (t' := s.toks) (r.append r2) (by rw [List.length_append]; omega), rfl, q _ I.fresh⟩
def rRep : R2 := fun x y H Q => ∃ l k xs, x = .ref l ∧ y = .int k ∧ H l = some (.lst xs) ∧ -(2 ^ 63) ≤ k ∧ k < 2 ^ 63 ∧ xs.length * k.toNat ≤ sizeLine ∧
  ∀ p, H p = none → Q (.ref p) (upd H p (.lst (List.replicate k.toNat xs).flatten))
theorem len_rep {α : Type} (xs : List α) (k : Nat) : (List.replicate k xs).flatten.length = k * xs.length := by
  induction k with
  | zero => simp
  | succ k ih => rw [List.replicate_succ, List.flatten_cons, List.length_append, ih, Nat.succ_mul, Nat.add_comm]
theorem op_rep : OpR X (binaryOp .Mult) rRep := by
  intro pins s σ H x y v u Q I rx ry h
  obtain ⟨l, k, xs, rfl, rfl, hH, h1, h2, hz, q⟩ := h
  cases rx
  obtain ⟨t, rfl⟩ := ry
  obtain ⟨z, its, n, r, hl, e⟩ := I.lstM hH
  have hlen : its.toArray.size * k.toNat ≤ sizeLine := by rw [List.size_toArray, ← hl]; exact hz
  have hcap : ¬ its.toArray.size * k.toNat > (2 ^ 63 - 1) / 8 := by
    have : (sizeLine : Nat) ≤ (2 ^ 63 - 1) / 8 := by decide
    omega
  have hfit : ¬ (!Builtin.List.listFitsIndex k) = true := by
    rw [fitsIndex_both h1 h2]
    exact Bool.false_ne_true
  have hlong : ¬ Builtin.List.listTooLong (its.toArray.size * k.toNat) = true := by
    rw [notLongL hlen]
    exact Bool.false_ne_true
  have hnew : List.foldl (fun x1 x2 => x1 ++ x2) #[] (List.replicate (if its.toArray.isEmpty = true then 0 else k.toNat) its.toArray) = (List.replicate k.toNat its).flatten.toArray := by
    have f0 : ∀ m : Nat, List.foldl (fun x1 x2 => x1 ++ x2) #[] (List.replicate m its.toArray) = (List.replicate m its).flatten.toArray := fun m => by
      have := foldl_rep its m []
      rw [List.nil_append] at this
      exact this
    rw [f0]
    cases its with
    | nil => simp
    | cons a r' => rw [if_neg (by simp)]
  refine wpAny_binaryOp_repeat_ref (T := "list") (U := "int") (by decide) ⟨_, e, rfl⟩ (fun s' => typeIs_int s' k t) noFill_list_mul F.fills_int_mul F.slot_int_rmul repeat_list F.slot_int_index.lookup
    (call_meets F.slot_int_rmul (typeIs_int s k t) F.entry_int_rmul (F.args_int_rmul_2 _ _) (int___rmul___int_list k t l its.toArray n)
      ⟨e, rfl, ⟨_, e, rfl⟩, call_meets F.slot_list_mul ⟨_, e, rfl⟩ F.entry_list_mul (F.args_list_mul_2 _ _) (AutoListH.list___mul___list_int_3 l its.toArray n k t hfit hcap hlong) ⟨e, ?_⟩⟩)
  rw [hnew]
  exact ⟨.ref _, _, I.lnew (t' := s.toks) (r.rep k.toNat) (by rw [len_rep, Nat.mul_comm]; exact hz), rfl, q _ I.fresh⟩
end
section
variable {prog : Program} {w : World} {A : Around} {E : Value → Shared → Prop} {s : Shared}
end
section
variable {X : Cx}
end
end L2
namespace Att
open PySem PySem.W PySem.Calls PyProof.Rows
theorem ints_of_wellAll {P : Params} {h : Heap} : ∀ (ns : List Int) (vs : List Value), WellAll P h vs (ns.map WData.int) → IntsAre vs ns := by
  intro ns
  induction ns with
  | nil =>
    intro vs w
    rw [List.map_nil] at w
    cases w
    exact .nil
  | cons n ns ih =>
    intro vs w
    rw [List.map_cons] at w
    cases w with
    | cons a b =>
      cases a
      exact .cons _ _ (ih _ b)
theorem script_of {l : OpenLaw} {n : Nat} (hn : l.most = some n) {P : Params} {h : Heap} {args : List WData} {vals : List Value}
    (hpre : l.row.toRowW.claim.pre args = true) (hwl : WellAll P h vals args) :
    ∃ a vs ns, vals = [Value.ref a] ∧ args = [WData.list (ns.map WData.int)] ∧ h.get? a = some { cls := .type "list", data := .seq vs.toArray } ∧ IntsAre vs ns ∧ ns.length ≤ n := by
  have hsh : WShape.hasAll [] args [.list .int] = true := (pre_splitW hpre).1
  have hc : l.pre.holds [] { args := args } = true := (pre_splitW hpre).2
  obtain ⟨d, r, rfl, h1, h2⟩ := hasAllW_cons hsh
  obtain rfl := hasAllW_nil h2
  obtain ⟨xs, rfl, h3⟩ := hasW_list h1
  obtain ⟨ns, rfl⟩ := items_int h3
  have hlen : ns.length ≤ n := by
    unfold OpenLaw.pre at hc
    have h4 : (WTm.not (.lt (.lit (.int (n : Int))) (.len (.arg 0)))).holds [] { args := [.list (ns.map .int)] } = true := by
      have h4 := (holds_andW hc).1
      rw [hn] at h4
      exact h4
    have h5 := condW_of h4 (w_not (w_lt w_lit (w_len_list (w_arg rfl))))
    rw [List.length_map] at h5
    refine Nat.le_of_not_lt fun q => ?_
    have q' : (n : Int) < ((ns.length : Nat) : Int) := by omega
    first
      | (rw [decide_eq_true q'] at h5; exact absurd h5 (by decide))
      | (simp at h5; omega)
  cases hwl with
  | cons w1 w2 =>
    cases w2
    cases w1 with
    | list ho hall => exact ⟨_, _, ns, rfl, rfl, ho, ints_of_wellAll ns _ hall, hlen⟩
theorem post_true (l : OpenLaw) (args : List WData) : l.row.toRowW.claim.post args (.bool true) args = true :=
  postW_of (r := l.row.toRowW) (X := (true == true))
    (show WShape.has [] (.bool true) .bool = true by first | rfl | decide | simp [WShape.has, WShape.arms, WShape.armsAll])
    (show (WTm.eq .res (.lit (.bool true))).value [] { args := args, res := some (.bool true), after := args } = some (.bool (true == true)) from w_eq_bool (w_res rfl) w_lit) rfl
theorem attach_call {l : OpenLaw} {n : Nat} {q : Program} {loose : List Str} {XP : (Str → Option Value) → Heap → Prop} {YP : World → Heap → Prop} {d : DefRec}
    (hn : l.most = some n) (hdf : d.params.defaults = [])
    (call : ∀ (w : World) (s₀ s₁ : Shared) (mg mb : Str → Option Value) (fa : Addr) (o : Obj) (pm cd doc : Value) (a : Addr) (vs : List Value) (ns : List Int),
      Ground q loose [] XP w s₀ mg mb s₁.heap → YP w s₁.heap →
      s₁.heap.get? fa = some o → o.data = .func (docDef d.name d.params d.body d.scope pm cd doc) → s₁.heap.CodeRec cd d.name → mg d.name = some (.ref fa) →
      s₁.heap.get? a = some { cls := .type "list", data := .seq vs.toArray } → IntsAre vs ns → ns.length ≤ n → s₁.gens = #[] →
      codeAny (model l.prog w) callerA (.call (.ref fa) ⟨[.ref a], []⟩) (fun r s' => r = .ok (.ret (.bool true)) ∧ OldK s₁.heap s'.heap ∧ s'.os = s₁.os ∧ AllBare s'.gens) s₁) :
    WalkO q loose XP YP l.row.toRowW d [] (fun f vs => PySem.call f vs) := by
  intro w s₀ s₁ mg mb G Y fa o pm cd doc dV kV ho hd hcd hD hmg hg args vals as hpre hlay hrd hwl hlo
  obtain rfl : dV = .none := Dflts.none hD hdf
  obtain rfl : kV = .none := Dflts.noKw hD
  obtain ⟨a, vs, ns, rfl, rfl, hobj, hints, hlen⟩ := script_of hn hpre hwl
  refine enter_call (codeAny_mono (call w s₀ s₁ mg mb fa o pm cd doc a vs ns G Y ho (fd_plain hd) hcd hmg hobj hints hlen hg) fun r s' hq => ?_)
  obtain ⟨rfl, h2, h3, h4⟩ := hq
  exact ⟨.inl ⟨.bool true, .bool true, [], rfl, fun _ => rfl, .bool true, post_true l _, fun _ => ⟨List.Pairwise.nil, fun _ hm => (nomatch hm)⟩⟩, h2, h3, h4⟩
section
variable {prog : Program} {w : World} {A : Around} {E : Value → Shared → Prop} {s : Shared} {K : Frag}
def ledger (h : Heap) (L d : Addr) : List (Addr × Obj) := (List.range h.objs.size).filterMap fun a => if a = L ∨ a = d then none else (h.get? a).map fun o => (a, o)
end
end Att
namespace L2
open PySem PySem.Spec PyProof.Rows
theorem vals_ints : ∀ {vs : List Value} {ns : List Int}, IntsAre vs ns → Vals (ns.map V.int) vs
  | _, _, .nil => .nil
  | _, _, .cons n t h => .cons ⟨t, rfl⟩ (vals_ints h)
def Only (H : Hp) : Prop := ∀ b, H b = none ∨ ∃ o xs, H b = some (.frz o (.lst xs))
theorem law_call {P : Program} {w : World} {K : PySem.W.Frag} {mg mb : Str → Option Value} {CX : CXT} {k : Nat} {fa a : Addr} {fd : FuncData} {x : Str} {sp : Sp} {s₁ : Shared} {vs : List Value} {ns : List Int}
    (KX : K.In s₁.heap) (hns : s₁.heap.Ns mainGlobals mg) (hb : s₁.heap.Ns builtinsNs mb) (hbb : ∀ x : Str, x ≠ "__name__" → mb x = bootBuiltins x) (hlim : s₁.heap.NoLimit) (hg : s₁.gens = #[])
    (ha : s₁.heap.get? a = some { cls := .type "list", data := .seq vs.toArray }) (hi : IntsAre vs ns) (hl : ns.length ≤ sizeLine) (hr : Room k callerA)
    (F : ∀ base : Heap, K.In base → base.Ns mainGlobals mg → FnOk P w K mg base CX k fa fd [x] sp) (hbind : ∀ (s : Shared) (u : Value), BindsTo s fd ⟨[u], []⟩ [(x, u)])
    (hsp : ∀ H : Hp, Only H → SqL K H a (ns.map V.int) → sp [.ref a] H (fun v _ => v = .bl true) fun _ _ _ => False)
    (hCX : ∀ H e s', CX [] H s₁ (fun _ _ _ => False) e s' → False) :
    codeAny (model P w) callerA (.call (.ref fa) ⟨[.ref a], []⟩) (fun r s' => r = .ok (.ret (.bool true)) ∧ OldK s₁.heap s'.heap ∧ s'.os = s₁.os ∧ AllBare s'.gens) s₁ := by
  have rv := vals_ints hi
  have lenV := hi.length
  have core : ∀ H : Hp, Only H → SqL K H a (ns.map V.int) → HOk P w H s₁.heap → (∀ b, H b ≠ none → b = a) → (H a ≠ none → K.lookup a = none) →
      codeAny (model P w) callerA (.call (.ref fa) ⟨[.ref a], []⟩) (fun r s' => r = .ok (.ret (.bool true)) ∧ OldK s₁.heap s'.heap ∧ s'.os = s₁.os ∧ AllBare s'.gens) s₁ := by
    intro H hO hS hok hA hK
    have base_of : ∀ {b : Addr} {o : Obj}, s₁.heap.get? b = some o → H b = none → (hidT s₁.heap H).get? b = some o := fun e n => hidT_get e n
    have noA : ∀ {b : Addr} {o : Obj} {es : Array DictEntry} {ep : Nat}, s₁.heap.get? b = some o → o.data = .dict es ep → H b = none := fun {b o es ep} e d => by
      cases q : H b with
      | none => rfl
      | some u =>
        have e' : b = a := hA b (by rw [q]; simp)
        subst e'
        rw [ha] at e; cases e
        have d' : Data.seq vs.toArray _ = Data.dict es ep := d
        cases d'
    have nsK : ∀ {b : Addr} {m : Str → Option Value}, s₁.heap.Ns b m → (hidT s₁.heap H).Ns b m := fun {b m} ⟨o, es, ep, e, d, r⟩ => ⟨o, es, ep, base_of e (noA e d), d, r⟩
    have hKb : K.In (hidT s₁.heap H) := fun b o e => base_of (KX b o e) (by
      cases q : H b with
      | none => rfl
      | some u =>
        have e' : b = a := hA b (by rw [q]; simp)
        subst e'
        rw [hK (by rw [q]; simp)] at e; cases e)
    have hM : Mod K mg (hidT s₁.heap H) := ⟨hKb, nsK hns, ⟨mb, nsK hb, hbb⟩, let ⟨mc, h1, h2⟩ := hlim; ⟨mc, nsK h1, h2⟩⟩
    have e0 : Env0 P w K mg (hidT s₁.heap H) callerA [] s₁ H := ⟨rfl, hM, fun b o e => of_hidT e, Nat.le_of_eq (hidT_size _ _), trivial, fun b hb => absurd (show b ∈ ([] : List Addr) from hb) (by simp), hok, .of_eq hg⟩
    refine codeAny_mono ((F _ hKb (nsK hns)).run callerA [] s₁ H ⟨[.ref a], []⟩ [.ref a] [.ref a] _ _ hr e0 (hbind s₁ (.ref a)) (.cons rfl .nil) (hsp H hO hS)) fun r s' h => ?_
    cases r with
    | error e => exact (hCX H e s' h).elim
    | ok fl =>
      cases fl with
      | next => exact False.elim h
      | brk => exact False.elim h
      | cont => exact False.elim h
      | ret u =>
        obtain ⟨v, H', os, bare, un, hok', r', q⟩ := h
        have q' : v = .bl true := q
        subst q'
        obtain rfl : u = Value.bool true := r'
        refine ⟨rfl, OldK.of_keep fun b o e => ?_, os, bare⟩
        cases q : H b with
        | none => exact un.keep b o e q (by intro z; exact absurd (show b ∈ ([] : List Addr) from z) (by simp)) (by simp)
        | some u =>
          rcases hO b with z | ⟨ob, xs, z⟩
          · rw [q] at z; cases z
          · have z2 := un.frzs b ob _ z
            obtain ⟨e1, _⟩ := hok b _ z
            obtain ⟨e2, _⟩ := hok' b _ z2
            rw [e] at e1; cases e1
            exact e2
  cases hk : K.lookup a with
  | some o =>
    have e := KX a o hk
    rw [ha] at e
    cases e
    refine core (fun _ => none) (fun _ => .inl rfl) (.inr ⟨_, vs.toArray, _, hk, rfl, rfl, rfl, by rw [List.size_toArray, lenV]; exact hl, by simpa using rv⟩) (fun b u z => by have z' : (none : Option HO) = some u := z; cases z') (fun b z => absurd rfl z) fun z => absurd rfl z
  | none =>
    refine core (fun b => if b = a then some (.frz { cls := .type "list", data := .seq vs.toArray } (.lst (ns.map V.int))) else none) (fun b => ?_) (.inl (.inr ⟨{ cls := .type "list", data := .seq vs.toArray }, if_pos rfl⟩)) (fun b u z => ?_) (fun b z => ?_) fun _ => hk
    · by_cases hb : b = a
      · exact .inr ⟨_, _, if_pos hb⟩
      · exact .inl (if_neg hb)
    · by_cases hb : b = a
      · have z' := (if_pos hb).symm.trans z
        cases z'
        subst hb
        exact ⟨ha, by rw [List.length_map]; exact hl, vs, _, rv, ha⟩
      · have z' := (if_neg hb).symm.trans z
        cases z'
    · by_cases hb : b = a
      · exact hb
      · exact absurd (if_neg hb) z
end L2
namespace L2
open PySem PySem.Spec PyProof.Rows
abbrev KOf {K : PySem.W.Frag} {h : Heap} (_ : K.In h) : PySem.W.Frag := K
theorem walk_of {l : PySem.W.OpenLaw} {n k : Nat} {q : Program} {loose : List Str} {XP : (Str → Option Value) → Heap → Prop} {YP : World → Heap → Prop} {d : DefRec} {K : Params → PySem.W.Frag} {CX : World → CXT} {sp : World → Sp} {x : Str}
    (hn : l.most = some n) (hn2 : n ≤ sizeLine) (hdf : d.params.defaults = []) (hr : Room k callerA)
    (hY : ∀ (w : World) (h : Heap), YP w h → (K w.params).In h)
    (F : ∀ (w : World) (mg : Str → Option Value) (fa : Addr) (h : Heap), (K w.params).In h → h.Ns mainGlobals mg → mg d.name = some (.ref fa) →
      ∃ fd : FuncData, (∀ (s : Shared) (u : Value), BindsTo s fd ⟨[u], []⟩ [(x, u)]) ∧
        ∀ base : Heap, (K w.params).In base → base.Ns mainGlobals mg → FnOk l.prog w (K w.params) mg base (CX w) k fa fd [x] (sp w))
    (hsp : ∀ (w : World) (H : Hp) (a : Addr) (ns : List Int), ns.length ≤ n → Only H → SqL (K w.params) H a (ns.map V.int) → sp w [.ref a] H (fun v _ => v = .bl true) fun _ _ _ => False)
    (hCX : ∀ (w : World) (H : Hp) (s : Shared) (e : Value) (s' : Shared), CX w [] H s (fun _ _ _ => False) e s' → False) :
    PySem.W.WalkO q loose XP YP l.row.toRowW d [] (fun f vs => PySem.call f vs) := by
  refine Att.attach_call hn hdf fun w s₀ s₁ mg mb fa o pm cd doc a vs ns G Y ho hd hcd hmg hobj hints hlen hg => ?_
  have KX := hY w _ Y
  obtain ⟨fd, hb, hF⟩ := F w mg fa _ KX G.T.g hmg
  exact law_call KX G.T.g G.T.b G.T.builtins G.T.nolimit hg hobj hints (Nat.le_trans hlen hn2) hr hF hb (fun H hO hS => hsp w H a ns hlen hO hS) fun H e s' => hCX w H s₁ e s'
end L2
namespace L2
open PySem PySem.Spec PyProof.Rows
def defArgs (s : Stmt) : Arguments := match s with
  | .FunctionDef _ a _ _ _ _ _ _ _ _ => a
  | _ => { posonlyargs := [], args := [], vararg := none, kwonlyargs := [], kw_defaults := [], kwarg := none, defaults := [] }
def defBody (s : Stmt) : List Stmt := match s with
  | .FunctionDef _ _ b _ _ _ _ _ _ _ => b
  | _ => []
def defScope (s : Stmt) : Scope := match s with
  | .FunctionDef _ _ _ _ _ _ sc _ _ _ => sc
  | _ => { kind := .function, names := [], isGenerator := false, isCoroutine := false }
abbrev CX0 : CXT := fun _ _ _ _ _ _ => False
abbrev E0 : XK := fun _ _ _ => False
theorem pass0 {X : Cx} : Passes CX0 X E0 := fun _ _ _ _ _ _ _ h => h.elim
structure Fun (K : PySem.W.Frag) (x qual : Str) (st : Stmt) (f : Addr) (fd : FuncData) : Prop where
  ex : ∃ (oc : Value) (od : Option Addr) (kV doc pm : Value) (an : Option Addr) (cdv ct : Value) (osl : Array (Option Value)),
    fd = PySem.W.fnOf x qual (defArgs st) (defBody st) (defScope st) .none kV doc pm an cdv ct ∧ K.lookup f = some ⟨oc, od, .func fd, osl⟩ ∧ PySem.W.codeIn K cdv qual = true
  kp : PySem.W.keepIn K (.ref f) = true
section
variable {P : Program} {w : World} {K : PySem.W.Frag} {mg : Str → Option Value} {base : Heap}
theorem Fun.ok {x qual : Str} {st : Stmt} {f : Addr} {fd : FuncData} {N ps : List Str} {k : Nat} {sp : Sp} (F : Fun K x qual st f fd) (S : FnScope N ps (defScope st)) (len : ∀ vs H Q E, sp vs H Q E → vs.length = ps.length)
    (hbody : ∀ (cdv : Value) (A : Around) (outer : List Env) (s : Shared) (H : Hp) (vs : List V) (Q : VK) (E : XK), Room k (A.deeper (envOfC qual (defScope st) s.heap.objs.size f cdv)) → sp vs H Q E →
      ∃ t, PSs (cxOf CX0 P w K mg base N qual (defScope st) f cdv A outer s H E).nox (defBody st) t ∧ t { nx := fun _ H' => Q .non H', rt := Q } (start N vs) H) : FnOk P w K mg base CX0 (k + 1) f fd ps sp := by
  obtain ⟨oc, od, kV, doc, pm, an, cdv, ct, osl, rfl, lk, hcd⟩ := F.ex
  refine fn_of lk hcd S len fun A outer s H vs Q E hr hsp => ?_
  obtain ⟨t, h, q⟩ := hbody cdv A outer s H vs Q E hr hsp
  exact ⟨t, h.nox, q⟩
theorem Fun.binds {x qual : Str} {st : Stmt} {f : Addr} {fd : FuncData} {ps : List Str} (F : Fun K x qual st f fd)
    (h : ∀ (kV doc pm : Value) (an : Option Addr) (cdv ct : Value) (us : List Value), us.length = ps.length → bindArgs (PySem.W.fnOf x qual (defArgs st) (defBody st) (defScope st) .none kV doc pm an cdv ct) ⟨us, []⟩ = pure (ps.zip us)) : Binds K fd ps [] := by
  obtain ⟨oc, od, kV, doc, pm, an, cdv, ct, osl, rfl, lk, hcd⟩ := F.ex
  exact .all (h kV doc pm an cdv ct)
theorem fun_mk {x qual : Str} {st : Stmt} {f : Addr} {oc : Value} {od an : Option Addr} {osl : Array (Option Value)} {kV doc pm cdv ct : Value} (l : K.lookup f = some ⟨oc, od, .func (PySem.W.fnOf x qual (defArgs st) (defBody st) (defScope st) .none kV doc pm an cdv ct), osl⟩)
    (c : PySem.W.codeIn K cdv qual = true) (k : PySem.W.keepIn K (.ref f) = true) : Fun K x qual st f (PySem.W.fnOf x qual (defArgs st) (defBody st) (defScope st) .none kV doc pm an cdv ct) := ⟨⟨oc, od, kV, doc, pm, an, cdv, ct, osl, rfl, l, c⟩, k⟩
end
section
variable {X : Cx}
theorem pv (i : Nat) {x : Str} {pos : Pos} (hN : X.N[i]? = some x := by rfl) (hv : Vis X.env.scope x := by first | exact Or.inl rfl | exact Or.inr (Or.inl rfl) | exact Or.inr (Or.inr rfl)) (hd : (x == ("__debug__" : Str)) = false := by decide)
    (hcd : (x == ("__classdict__" : Str)) = false := by decide) : PE X (.Name x pos) (tVar i) := pe_var hN hv hd hcd
end
def Same (H H' : Hp) : Prop := ∀ b o, H b = some o → H' b = some o
theorem Same.refl (H : Hp) : Same H H := fun _ _ h => h
theorem Same.trans {H H1 H2 : Hp} (a : Same H H1) (b : Same H1 H2) : Same H H2 := fun c o h => b c o (a c o h)
theorem Same.seq {K : PySem.W.Frag} {H H' : Hp} {a : Addr} {xs : List V} (e : Same H H') (h : SqL K H a xs) : SqL K H' a xs := by
  rcases h with (h | ⟨o, h⟩) | h
  · exact .inl (.inl (e _ _ h))
  · exact .inl (.inr ⟨o, e _ _ h⟩)
  · exact .inr h
end L2
set_option Elab.async false
set_option linter.all false
set_option maxRecDepth 100000
namespace FD
open PySem PySem.Spec PyProof.Rows L2
abbrev St := L2.St
inductive D where
  | non | bl (b : Bool) | int (i : Int) | str (x : Str) | lst (xs : List D) | tup (xs : List D) | scr (ns : List Int) | raw (v : V) | exc (c : Str) | dct (ks : List Key) (ds : List D)
inductive Rs (α : Type) where
  | ok (a : α) | ex (c : Str) | no
def Rs.bind {α β : Type} (r : Rs α) (k : α → Rs β) : Rs β := match r with
  | .ok a => k a
  | .ex c => .ex c
  | .no => .no
@[simp] theorem Rs.bind_ok {α β : Type} (a : α) (k : α → Rs β) : (Rs.ok a).bind k = k a := rfl
def excIs (K : PySem.W.Frag) (a : Addr) (c : Str) : Heap → Prop := fun h => ∃ oe cls vs, h.get? a = some oe ∧ oe.cls = cls ∧ oe.dict = none ∧ oe.data = .fields vs ∧ PySem.W.nsIn K mainGlobals c = some (some cls)
section
variable (K : PySem.W.Frag)
mutual
def Rep (F : Hp) : D → V → Prop
  | .non, v => v = .non
  | .bl b, v => v = .bl b
  | .int i, v => v = .int i
  | .str x, v => v = .str x
  | .lst ds, v => ∃ a vs, v = .ref a ∧ F a = some (.lst vs) ∧ Reps F ds vs
  | .scr ns, v => ∃ a, v = .ref a ∧ SqL K F a (ns.map V.int)
  | .tup ds, v => ∃ a vs, v = .ref a ∧ SqT K F a vs ∧ Reps F ds vs
  | .raw u, v => v = u
  | .exc c, v => ∃ a, v = .ref a ∧ F a = some (.ext (excIs K a c))
  | .dct ks ds, v => ∃ a kvs o, v = .ref a ∧ F a = some (.frz o (.dK kvs)) ∧ kvs.map (·.1) = ks ∧ Reps F ds (kvs.map (·.2))
def Reps (F : Hp) : List D → List V → Prop
  | [], vs => vs = []
  | d :: ds, vs => ∃ v r, vs = v :: r ∧ Rep F d v ∧ Reps F ds r
end
end
theorem Same.refl (H : Hp) : Same H H := fun _ _ h => h
theorem Same.seqT {K : PySem.W.Frag} {H H' : Hp} {a : Addr} {xs : List V} (e : Same H H') (h : SqT K H a xs) : SqT K H' a xs := by
  rcases h with (h | ⟨o, h⟩) | h
  · exact .inl (.inl (e _ _ h))
  · exact .inl (.inr ⟨o, e _ _ h⟩)
  · exact .inr h
section
variable {K : PySem.W.Frag} {F F' : Hp}
mutual
theorem Rep.mono (h : Same F F') : ∀ {d : D} {v : V}, Rep K F d v → Rep K F' d v
  | .non, _, r => by simpa only [Rep] using r
  | .bl _, _, r => by simpa only [Rep] using r
  | .int _, _, r => by simpa only [Rep] using r
  | .str _, _, r => by simpa only [Rep] using r
  | .raw _, _, r => by simpa only [Rep] using r
  | .exc c, v, r => by
    simp only [Rep] at r ⊢
    obtain ⟨a, e, q⟩ := r
    exact ⟨a, e, h _ _ q⟩
  | .dct ks ds, v, r => by
    simp only [Rep] at r ⊢
    obtain ⟨a, kvs, o, e, q, k, t⟩ := r
    exact ⟨a, kvs, o, e, h _ _ q, k, Reps.mono h t⟩
  | .lst ds, v, r => by
    simp only [Rep] at r ⊢
    obtain ⟨a, vs, e, q, t⟩ := r
    exact ⟨a, vs, e, h _ _ q, Reps.mono h t⟩
  | .scr ns, v, r => by
    simp only [Rep] at r ⊢
    obtain ⟨a, e, q⟩ := r
    exact ⟨a, e, h.seq q⟩
  | .tup ds, v, r => by
    simp only [Rep] at r ⊢
    obtain ⟨a, vs, e, q, t⟩ := r
    exact ⟨a, vs, e, Same.seqT h q, Reps.mono h t⟩
theorem Reps.mono (h : Same F F') : ∀ {ds : List D} {vs : List V}, Reps K F ds vs → Reps K F' ds vs
  | [], _, r => by simpa only [Reps] using r
  | d :: ds, vs, r => by
    simp only [Reps] at r ⊢
    obtain ⟨v, r', e, q, t⟩ := r
    exact ⟨v, r', e, Rep.mono h q, Reps.mono h t⟩
end
theorem Reps.length : ∀ {ds : List D} {vs : List V}, Reps K F ds vs → ds.length = vs.length
  | [], _, r => by simp only [Reps] at r; subst r; rfl
  | d :: ds, _, r => by
    simp only [Reps] at r
    obtain ⟨v, r', rfl, _, t⟩ := r
    simp [Reps.length t]
theorem Reps.get : ∀ {ds : List D} {vs : List V} {i : Nat} {d : D}, Reps K F ds vs → ds[i]? = some d → ∃ v, vs[i]? = some v ∧ Rep K F d v
  | [], _, _, _, _, e => by simp at e
  | d :: ds, _, 0, _, r, e => by
    simp only [Reps] at r
    obtain ⟨v, r', rfl, q, t⟩ := r
    simp at e; subst e
    exact ⟨v, rfl, q⟩
  | d :: ds, _, i + 1, _, r, e => by
    simp only [Reps] at r
    obtain ⟨v, r', rfl, q, t⟩ := r
    obtain ⟨w, h1, h2⟩ := Reps.get (i := i) t (by simpa using e)
    exact ⟨w, by simpa using h1, h2⟩
theorem Reps.nil : Reps K F [] [] := by simp only [Reps]
theorem Reps.cons {d : D} {v : V} {ds : List D} {vs : List V} (h : Rep K F d v) (t : Reps K F ds vs) : Reps K F (d :: ds) (v :: vs) := by
  simp only [Reps]; exact ⟨v, vs, rfl, h, t⟩
theorem Reps.append : ∀ {ds es : List D} {vs ws : List V}, Reps K F ds vs → Reps K F es ws → Reps K F (ds ++ es) (vs ++ ws)
  | [], _, _, _, r, t => by simp only [Reps] at r; subst r; exact t
  | d :: ds, es, _, ws, r, t => by
    simp only [Reps] at r
    obtain ⟨v, r', rfl, q, u⟩ := r
    exact Reps.cons q (Reps.append u t)
theorem Reps.take : ∀ {ds : List D} {vs : List V} (n : Nat), Reps K F ds vs → Reps K F (ds.take n) (vs.take n)
  | _, _, 0, _ => by simp only [List.take_zero]; exact Reps.nil
  | [], _, n + 1, r => by simp only [Reps] at r; subst r; simp only [List.take_nil]; exact Reps.nil
  | d :: ds, _, n + 1, r => by
    simp only [Reps] at r
    obtain ⟨v, r', rfl, q, u⟩ := r
    exact Reps.cons q (Reps.take n u)
theorem Reps.drop : ∀ {ds : List D} {vs : List V} (n : Nat), Reps K F ds vs → Reps K F (ds.drop n) (vs.drop n)
  | _, _, 0, r => r
  | [], _, n + 1, r => by simp only [Reps] at r; subst r; simp only [List.drop_nil]; exact Reps.nil
  | d :: ds, _, n + 1, r => by
    simp only [Reps] at r
    obtain ⟨v, r', rfl, q, u⟩ := r
    exact Reps.drop n u
theorem Reps.set {d : D} {v : V} (h : Rep K F d v) : ∀ {ds : List D} {vs : List V} (i : Nat), Reps K F ds vs → Reps K F (ds.set i d) (vs.set i v)
  | [], _, _, r => by simp only [Reps] at r; subst r; exact Reps.nil
  | e :: ds, _, 0, r => by
    simp only [Reps] at r
    obtain ⟨w, r', rfl, q, u⟩ := r
    exact Reps.cons h u
  | e :: ds, _, i + 1, r => by
    simp only [Reps] at r
    obtain ⟨w, r', rfl, q, u⟩ := r
    exact Reps.cons q (Reps.set h i u)
theorem Reps.one {d : D} {vs : List V} (h : Reps K F [d] vs) : ∃ v, vs = [v] ∧ Rep K F d v := by
  simp only [Reps] at h
  obtain ⟨v, r, e, q, e2⟩ := h
  subst e2; exact ⟨v, e, q⟩
theorem Reps.two {d e : D} {vs : List V} (h : Reps K F [d, e] vs) : ∃ v w, vs = [v, w] ∧ Rep K F d v ∧ Rep K F e w := by
  simp only [Reps] at h
  obtain ⟨v, r, e1, q, w, r2, e2, q2, e3⟩ := h
  subst e3; subst e2; exact ⟨v, w, e1, q, q2⟩
theorem Reps.rep {ds : List D} {vs : List V} (h : Reps K F ds vs) : ∀ k : Nat, Reps K F (List.replicate k ds).flatten (List.replicate k vs).flatten
  | 0 => Reps.nil
  | k + 1 => by
    rw [List.replicate_succ, List.replicate_succ, List.flatten_cons, List.flatten_cons]
    exact Reps.append h (Reps.rep h k)
theorem Reps.ints : ∀ (ns : List Int), Reps K F (ns.map D.int) (ns.map V.int)
  | [] => Reps.nil
  | n :: r => Reps.cons (by simp only [Rep]) (Reps.ints r)
end
class Tabs where
  rows : List (Addr × Nat × Nat × Str)
  own : Str → Str → Bool
def codeIs (c : Addr) (q : Str) : Heap → Prop := fun h => h.CodeRec (.ref c) q
def TOk (F H : Hp) (r : Addr × Nat × Nat × Str) : Prop := F r.1 = none ∧ (H r.1 = some (.tbl #[]) ∨ ∃ c, H r.1 = some (.tbl #[rawInt r.2.1, rawInt r.2.2.1, .ref c]) ∧ H c = some (.ext (codeIs c r.2.2.2)))
variable [Tabs]
def OwnOk (H : Hp) : Prop := ∀ d a, H d = some (.own a) → ∃ C dx vs, H a = some (.ins C dx vs)
def TbT (F H : Hp) : Prop := (∀ r ∈ Tabs.rows, TOk F H r) ∧ OwnOk H
omit [Tabs] in
theorem TOk.step {F H F' H' : Hp} {r : Addr × Nat × Nat × Str} (t : TOk F H r) (nw : ∀ a o, F' a = some o → F a = some o ∨ H a = none) (k : ∀ a o, H a = some o → (∀ vs, o ≠ .lst vs) → H' a = some o) : TOk F' H' r := by
  have hn : ∀ ps, H r.1 = some (.tbl ps) → F' r.1 = none := fun ps e => by
    cases q : F' r.1 with
    | none => rfl
    | some o =>
      rcases nw _ _ q with z | z
      · rw [t.1] at z; cases z
      · rw [e] at z; cases z
  rcases t.2 with e | ⟨c, e, e2⟩
  · exact ⟨hn _ e, .inl (k _ _ e fun _ z => nomatch z)⟩
  · exact ⟨hn _ e, .inr ⟨c, k _ _ e (fun _ z => nomatch z), k _ _ e2 fun _ z => nomatch z⟩⟩
theorem TbT.step {F H F' H' : Hp} (t : TbT F H) (nw : ∀ a o, F' a = some o → F a = some o ∨ H a = none) (k : ∀ a o, H a = some o → (∀ vs, o ≠ .lst vs) → H' a = some o) (no : ∀ d a, H' d = some (.own a) → H d = some (.own a)) : TbT F' H' := ⟨fun r hr => (t.1 r hr).step nw k, fun d a e => by
  obtain ⟨C, dx, vs, h⟩ := t.2 d a (no d a e)
  exact ⟨C, dx, vs, k _ _ h fun _ z => nomatch z⟩⟩
theorem TbT.freeze {F H : Hp} {a : Addr} {vs : List V} {o : HO} (t : TbT F H) (e : H a = some (.lst vs)) : TbT (upd F a o) H := ⟨fun r hr => by
  obtain ⟨t1, t2⟩ := t.1 r hr
  have : r.1 ≠ a := fun z => by
    rw [z, e] at t2
    rcases t2 with q | ⟨c, q, _⟩ <;> cases q
  exact ⟨by rw [upd_ne this]; exact t1, t2⟩, t.2⟩
def Kp : HO → Option HO → Prop
  | .tbl _, r => ∃ ps, r = some (.tbl ps)
  | o, r => r = some o
def Hh (H H' : Hp) : Prop := ∀ b o, H b = some o → Kp o (H' b)
omit [Tabs] in
theorem Kp.of {o : HO} {r : Option HO} (h : r = some o) : Kp o r := by cases o <;> first | exact h | exact ⟨_, h⟩
omit [Tabs] in
theorem Kp.some {o : HO} {r : Option HO} (h : Kp o r) : r ≠ none := by
  cases o <;> first | (obtain ⟨_, h⟩ := h; rw [h]; simp) | (have h : r = _ := h; rw [h]; simp)
omit [Tabs] in
theorem Hh.of {H H' : Hp} (h : Same H H') : Hh H H' := fun b o e => .of (h b o e)
omit [Tabs] in
theorem Hh.refl (H : Hp) : Hh H H := .of (Same.refl H)
omit [Tabs] in
theorem Hh.trans {H H1 H2 : Hp} (a : Hh H H1) (b : Hh H1 H2) : Hh H H2 := fun c o e => by
  have k := a c o e
  cases o <;> first | exact b c _ k | (obtain ⟨ps, q⟩ := k; show ∃ ps, H2 c = some (.tbl ps); exact b c _ q)
omit [Tabs] in
theorem none_of_hh {F H : Hp} (h : Hh F H) {a : Addr} (e : H a = none) : F a = none := by
  cases q : F a with
  | none => rfl
  | some o => exact absurd e (h a o q).some
structure Ext (F H F' H' : Hp) : Prop where
  ff : Same F F'
  hh : Hh H H'
  fh : Same F' H'
  nw : ∀ a o, F' a = some o → F a = some o ∨ H a = none
  tt : TbT F H → TbT F' H'
theorem Ext.refl {F H : Hp} (h : Same F H) : Ext F H F H := ⟨Same.refl F, Hh.refl H, h, fun _ _ e => .inl e, id⟩
theorem Ext.trans {F H F1 H1 F2 H2 : Hp} (a : Ext F H F1 H1) (b : Ext F1 H1 F2 H2) : Ext F H F2 H2 :=
  ⟨a.ff.trans b.ff, a.hh.trans b.hh, b.fh, fun c o e => by
    rcases b.nw c o e with q | q
    · exact a.nw c o q
    · exact .inr (none_of_hh a.hh q), fun t => b.tt (a.tt t)⟩
omit [Tabs] in
theorem none_of_same {F H : Hp} (h : Same F H) {a : Addr} (e : H a = none) : F a = none := by
  cases q : F a with
  | none => rfl
  | some o => rw [h a o q] at e; cases e
omit [Tabs] in
theorem same_upd {H : Hp} {p : Addr} {o : HO} (h : H p = none) : Same H (upd H p o) := fun b u q => by rw [upd_ne (ne_of_none q h)]; exact q
omit [Tabs] in
theorem same_upd2 {F H : Hp} {p : Addr} {o : HO} (h : Same F H) (hp : H p = none) : Same (upd F p o) (upd H p o) := fun b u q => by
  by_cases hb : b = p
  · subst hb; rw [upd_same] at q ⊢; exact q
  · rw [upd_ne hb] at q ⊢; exact h b u q
theorem Ext.same {F H F' H' : Hp} (ff : Same F F') (hh : Same H H') (fh : Same F' H') (nw : ∀ a o, F' a = some o → F a = some o ∨ H a = none) (no : ∀ d a, H' d = some (.own a) → H d = some (.own a)) : Ext F H F' H' := ⟨ff, .of hh, fh, nw, fun t => t.step nw (fun a o e _ => hh a o e) no⟩
omit [Tabs] in
theorem no_upd {H : Hp} {p : Addr} {o : HO} (ho : ∀ a, o ≠ .own a) : ∀ d a, upd H p o d = some (.own a) → H d = some (.own a) := fun d a e => by
  by_cases h : d = p
  · subst h; rw [upd_same] at e; cases e; exact absurd rfl (ho a)
  · rw [upd_ne h] at e; exact e
theorem Ext.new {F H : Hp} {p : Addr} {o : HO} (h : Same F H) (hp : H p = none) (ho : ∀ a, o ≠ .own a := by intro _ h; cases h) : Ext F H (upd F p o) (upd H p o) :=
  .same (same_upd (none_of_same h hp)) (same_upd hp) (same_upd2 h hp) (fun a u e => by
    by_cases hb : a = p
    · subst hb; exact .inr hp
    · rw [upd_ne hb] at e; exact .inl e) (no_upd ho)
inductive Sl where
  | val (d : D)
  | own (ds : List D)
  | obj (n : Nat) (c : Str) (fs : List (Str × D))
  | obr (c : Str) (fs : List (Str × D))
abbrev DS := List (Option Sl)
def OwnF (K : PySem.W.Frag) (F H : Hp) (d : D) (v : V) : Prop := ∃ ds l ws, d = .lst ds ∧ v = .ref l ∧ H l = some (.lst ws) ∧ F l = none ∧ Reps K F ds ws
def Fld1 (K : PySem.W.Frag) (F H : Hp) (c f : Str) (d : D) (v : V) : Prop := if Tabs.own c f = true then OwnF K F H d v else Rep K F d v
def Flds (K : PySem.W.Frag) (F H : Hp) (c : Str) : List (Str × D) → List (Str × V) → Prop
  | [], [] => True
  | (f, d) :: r, (g, v) :: s => f = g ∧ Fld1 K F H c f d v ∧ Flds K F H c r s
  | _, _ => False
def ownL (c : Str) : List (Str × V) → List Addr
  | [] => []
  | (f, v) :: r => if Tabs.own c f = true then (match v with
    | .ref l => l :: ownL c r
    | _ => ownL c r) else ownL c r
def Lof (H : Hp) (c : Str) (a : Addr) : List Addr := match H a with
  | some (.ins _ _ vs) => ownL c vs
  | _ => []
theorem Lof.ins {H : Hp} {c : Str} {a C dx : Addr} {vs : List (Str × V)} (h : H a = some (.ins C dx vs)) : Lof H c a = ownL c vs := by unfold Lof; rw [h]
theorem Flds.own {K : PySem.W.Frag} {F H : Hp} {c : Str} {l : Addr} : ∀ {fs : List (Str × D)} {vs : List (Str × V)}, Flds K F H c fs vs → l ∈ ownL c vs → F l = none ∧ ∃ ws, H l = some (.lst ws)
  | [], [], _, h => by cases h
  | (f, d) :: r, (g, v) :: s, q, h => by
    obtain ⟨rfl, q2, q3⟩ := q
    unfold ownL at h
    unfold Fld1 at q2
    by_cases z : Tabs.own c f = true
    · rw [if_pos z] at h q2
      obtain ⟨ds, l', ws, e1, rfl, e3, e4, e5⟩ := q2
      rcases List.mem_cons.mp h with rfl | h
      · exact ⟨e4, ws, e3⟩
      · exact Flds.own q3 h
    · rw [if_neg z] at h
      exact Flds.own q3 h
  | [], _ :: _, q, _ => q.elim
  | _ :: _, [], q, _ => q.elim
theorem Flds.keep {K : PySem.W.Frag} {F H F' H' : Hp} {c : Str} (hf : Same F F') : ∀ {fs : List (Str × D)} {vs : List (Str × V)}, Flds K F H c fs vs → (∀ l ws, l ∈ ownL c vs → H l = some (.lst ws) → F l = none → H' l = some (.lst ws) ∧ F' l = none) → Flds K F' H' c fs vs
  | [], [], _, _ => trivial
  | (f, d) :: r, (g, v) :: s, q, k => by
    obtain ⟨rfl, q2, q3⟩ := q
    refine ⟨rfl, ?_, Flds.keep hf q3 fun l ws hl => k l ws ?_⟩
    · unfold Fld1 at q2 ⊢
      by_cases z : Tabs.own c f = true
      · rw [if_pos z] at q2 ⊢
        obtain ⟨ds, l, ws, e1, rfl, e3, e4, e5⟩ := q2
        obtain ⟨k1, k2⟩ := k l ws (by unfold ownL; rw [if_pos z]; exact List.mem_cons_self) e3 e4
        exact ⟨ds, l, ws, e1, rfl, k1, k2, e5.mono hf⟩
      · rw [if_neg z] at q2 ⊢; exact q2.mono hf
    · unfold ownL
      by_cases z : Tabs.own c f = true
      · rw [if_pos z]
        cases v with
        | ref l' => exact List.mem_cons_of_mem _ hl
        | _ => exact hl
      · rw [if_neg z]; exact hl
  | [], _ :: _, q, _ => q.elim
  | _ :: _, [], q, _ => q.elim
def ObAt (K : PySem.W.Frag) (F H : Hp) (c : Str) (fs : List (Str × D)) (a : Addr) : Prop := ∃ C dx vs, H a = some (.ins C dx vs) ∧ F a = none ∧ PySem.W.nsIn K mainGlobals c = some (some (.ref C)) ∧ Flds K F H c fs vs ∧ H dx = some (.own a) ∧ (ownL c vs).Nodup
def ObS (s : Option (Option Sl)) (c : Str) : Prop := (∃ n fs, s = some (some (.obj n c fs))) ∨ ∃ fs, s = some (some (.obr c fs))
structure ObsOk (K : PySem.W.Frag) (F : Hp) (τ : DS) (σ : St) (H : Hp) : Prop where
  at_ : ∀ (i n : Nat) (c : Str) (fs : List (Str × D)), τ[i]? = some (some (.obj n c fs)) → ∃ a, σ[i]? = some (some (.ref a)) ∧ ObAt K F H c fs a
  dis : ∀ (i j n : Nat) (c c' : Str) (fs : List (Str × D)) (a : Addr), i ≠ j → τ[i]? = some (some (.obj n c fs)) → ObS τ[j]? c' → σ[i]? = some (some (.ref a)) → σ[j]? = some (some (.ref a)) → False
  rd : ∀ (i : Nat) (c : Str) (fs : List (Str × D)), τ[i]? = some (some (.obr c fs)) → ∃ a C dx vs, σ[i]? = some (some (.ref a)) ∧ H a = some (.ins C dx vs) ∧ PySem.W.nsIn K mainGlobals c = some (some (.ref C)) ∧ Flds K F H c fs vs
  ll : ∀ (i j n : Nat) (c c' : Str) (fs : List (Str × D)) (a a' l : Addr), i ≠ j → τ[i]? = some (some (.obj n c fs)) → ObS τ[j]? c' → σ[i]? = some (some (.ref a)) → σ[j]? = some (some (.ref a')) → l ∈ Lof H c a → l ∈ Lof H c' a' → False
  lo : ∀ (i j : Nat) (c : Str) (ds : List D) (a l : Addr), ObS τ[i]? c → τ[j]? = some (some (.own ds)) → σ[i]? = some (some (.ref a)) → σ[j]? = some (some (.ref l)) → l ∈ Lof H c a → False
def isOb : Option Sl → Bool
  | some (.obj _ _ _) => true
  | some (.obr _ _) => true
  | _ => false
def noObj (τ : DS) : Prop := ∀ (i : Nat) s, τ[i]? = some s → isOb s = false
omit [Tabs] in
theorem noObj.obs {τ : DS} (n : noObj τ) {i : Nat} {c : Str} (h : ObS τ[i]? c) : False := by
  rcases h with ⟨m, fs, h⟩ | ⟨fs, h⟩
  · have := n i _ h; cases this
  · have := n i _ h; cases this
theorem ObsOk.none {K : PySem.W.Frag} {F H : Hp} {τ : DS} {σ : St} (n : noObj τ) : ObsOk K F τ σ H :=
  ⟨fun i m c fs h => (by have := n i _ h; cases this), fun i j m c c' fs a _ h => (by have := n i _ h; cases this), fun i c fs h => (by have := n i _ h; cases this), fun i j m c c' fs a a' l _ h => (by have := n i _ h; cases this), fun i j c ds a l h => (n.obs h).elim⟩
theorem ObsOk.get {K : PySem.W.Frag} {F H : Hp} {τ : DS} {σ : St} {i : Nat} {c : Str} (o : ObsOk K F τ σ H) (h : ObS τ[i]? c) : ∃ a C dx vs fs, σ[i]? = some (some (.ref a)) ∧ H a = some (.ins C dx vs) ∧ Flds K F H c fs vs := by
  rcases h with ⟨m, fs, h⟩ | ⟨fs, h⟩
  · obtain ⟨a, h1, C, dx, vs, h2, _, _, h5, _⟩ := o.at_ i m c fs h
    exact ⟨a, C, dx, vs, fs, h1, h2, h5⟩
  · obtain ⟨a, C, dx, vs, h1, h2, _, h5⟩ := o.rd i c fs h
    exact ⟨a, C, dx, vs, fs, h1, h2, h5⟩
theorem ObsOk.keep {K : PySem.W.Frag} {F H F' H' : Hp} {τ : DS} {σ : St} (o : ObsOk K F τ σ H) (hf : Same F F') (hi : ∀ a C dx vs, H a = some (.ins C dx vs) → H' a = some (.ins C dx vs)) (hn : ∀ a C dx vs, H a = some (.ins C dx vs) → F a = Option.none → F' a = Option.none) (hd : ∀ d a, H d = some (.own a) → H' d = some (.own a))
    (hl : ∀ (i : Nat) (c : Str) (a l : Addr) (ws : List V), ObS τ[i]? c → σ[i]? = some (some (.ref a)) → l ∈ Lof H c a → H l = some (.lst ws) → F l = Option.none → H' l = some (.lst ws) ∧ F' l = Option.none) : ObsOk K F' τ σ H' := by
  have lof : ∀ {i : Nat} {c : Str} {a : Addr}, ObS τ[i]? c → σ[i]? = some (some (.ref a)) → Lof H' c a = Lof H c a := fun {i c a} h e => by
    obtain ⟨a', C, dx, vs, fs, h1, h2, _⟩ := o.get h
    rw [e] at h1; cases h1
    rw [Lof.ins h2, Lof.ins (hi _ _ _ _ h2)]
  refine ⟨fun i m c fs h => ?_, o.dis, fun i c fs h => ?_, fun i j m c c' fs a a' l hij h1 h2 h3 h4 h5 h6 => ?_, fun i j c ds a l h1 h2 h3 h4 h5 => ?_⟩
  · obtain ⟨a, h1, C, dx, vs, h2, h3, h4, h5, h6, h7⟩ := o.at_ i m c fs h
    exact ⟨a, h1, C, dx, vs, hi _ _ _ _ h2, hn _ _ _ _ h2 h3, h4, h5.keep hf fun l ws q => hl i c a l ws (.inl ⟨m, fs, h⟩) h1 (by rw [Lof.ins h2]; exact q), hd _ _ h6, h7⟩
  · obtain ⟨a, C, dx, vs, h1, h2, h4, h5⟩ := o.rd i c fs h
    exact ⟨a, C, dx, vs, h1, hi _ _ _ _ h2, h4, h5.keep hf fun l ws q => hl i c a l ws (.inr ⟨fs, h⟩) h1 (by rw [Lof.ins h2]; exact q)⟩
  · rw [lof (.inl ⟨m, fs, h1⟩) h3] at h5
    rw [lof h2 h4] at h6
    exact o.ll i j m c c' fs a a' l hij h1 h2 h3 h4 h5 h6
  · rw [lof h1 h3] at h5
    exact o.lo i j c ds a l h1 h2 h3 h4 h5
theorem ObsOk.ext {K : PySem.W.Frag} {F H F' H' : Hp} {τ : DS} {σ : St} (o : ObsOk K F τ σ H) (x : Ext F H F' H') : ObsOk K F' τ σ H' := by
  have nF : ∀ {a : Addr} {u : HO}, H a = some u → F a = Option.none → F' a = Option.none := fun {a u} h h3 => by
    cases q : F' a with
    | none => rfl
    | some w =>
      rcases x.nw a w q with z | z
      · rw [h3] at z; cases z
      · rw [h] at z; cases z
  exact o.keep x.ff (fun a C dx vs h => x.hh _ _ h) (fun a C dx vs h => nF h) (fun d a h => x.hh _ _ h) fun i c a l ws _ _ _ h h3 => ⟨x.hh _ _ h, nF h h3⟩
theorem ObsOk.updL {K : PySem.W.Frag} {F H : Hp} {τ : DS} {σ : St} {p : Addr} {u : HO} (o : ObsOk K F τ σ H) (hl : H p = .none ∨ ∃ vs, H p = some (.lst vs)) (hp : ∀ (i : Nat) (c : Str) (a : Addr), ObS τ[i]? c → σ[i]? = some (some (.ref a)) → p ∉ Lof H c a) : ObsOk K F τ σ (upd H p u) := by
  have ne : ∀ {a : Addr} {w : HO}, H a = some w → (∀ vs, w ≠ .lst vs) → a ≠ p := fun {a w} h n z => by
    subst z
    rcases hl with z | ⟨ws, z⟩
    · rw [z] at h; cases h
    · rw [z] at h; cases h; exact n _ rfl
  refine o.keep (Same.refl F) (fun a C dx vs h => ?_) (fun a C dx vs _ h => h) (fun d a h => ?_) fun i c a l ws h1 h2 h3 h4 h5 => ⟨?_, h5⟩
  · rw [upd_ne (ne h fun _ z => nomatch z)]; exact h
  · rw [upd_ne (ne h fun _ z => nomatch z)]; exact h
  · have : l ≠ p := fun z => by subst z; exact hp i c a h1 h2 h3
    rw [upd_ne this]; exact h4
omit [Tabs] in
theorem set_obj {τ : DS} {i j : Nat} {s u : Option Sl} (hs : isOb s = false) (hu : isOb u = true) (h : (τ.set i s)[j]? = some u) : i ≠ j ∧ τ[j]? = some u := by
  by_cases hij : i = j
  · subst hij
    rw [List.getElem?_set] at h
    simp only [if_true] at h
    split at h
    · cases h; rw [hs] at hu; cases hu
    · cases h
  · rw [List.getElem?_set_ne hij] at h; exact ⟨hij, h⟩
omit [Tabs] in
theorem set_obs {τ : DS} {i j : Nat} {s : Option Sl} {c : Str} (hs : isOb s = false) (h : ObS (τ.set i s)[j]? c) : i ≠ j ∧ ObS τ[j]? c := by
  rcases h with ⟨n, fs, h⟩ | ⟨fs, h⟩
  · obtain ⟨a, b⟩ := set_obj hs rfl h; exact ⟨a, .inl ⟨n, fs, b⟩⟩
  · obtain ⟨a, b⟩ := set_obj hs rfl h; exact ⟨a, .inr ⟨fs, b⟩⟩
theorem ObsOk.put {K : PySem.W.Frag} {F H : Hp} {τ : DS} {σ : St} {i : Nat} {s : Option Sl} {v : Option V} (o : ObsOk K F τ σ H) (hs : isOb s = false) (hw : ∀ ds l, s = some (.own ds) → v = some (.ref l) → ∀ (j : Nat) (c : Str) (a : Addr), ObS τ[j]? c → σ[j]? = some (some (.ref a)) → l ∉ Lof H c a) : ObsOk K F (τ.set i s) (σ.set i v) H :=
  ⟨fun j m c fs h => by
    obtain ⟨n, h⟩ := set_obj hs rfl h
    rw [List.getElem?_set_ne n]; exact o.at_ j m c fs h,
   fun j k m c c' fs a hjk h1 h2 h3 h4 => by
    obtain ⟨n1, h1⟩ := set_obj hs rfl h1
    obtain ⟨n2, h2⟩ := set_obs hs h2
    rw [List.getElem?_set_ne n1] at h3
    rw [List.getElem?_set_ne n2] at h4
    exact o.dis j k m c c' fs a hjk h1 h2 h3 h4,
   fun j c fs h => by
    obtain ⟨n, h⟩ := set_obj hs rfl h
    rw [List.getElem?_set_ne n]; exact o.rd j c fs h,
   fun j k m c c' fs a a' l hjk h1 h2 h3 h4 => by
    obtain ⟨n1, h1⟩ := set_obj hs rfl h1
    obtain ⟨n2, h2⟩ := set_obs hs h2
    rw [List.getElem?_set_ne n1] at h3
    rw [List.getElem?_set_ne n2] at h4
    exact o.ll j k m c c' fs a a' l hjk h1 h2 h3 h4,
   fun j k c ds a l h1 h2 h3 h4 h5 => by
    obtain ⟨n1, g1⟩ := set_obs hs h1
    rw [List.getElem?_set_ne n1] at h3
    by_cases e : i = k
    · subst e
      rw [List.getElem?_set] at h2 h4
      simp only [if_true] at h2 h4
      split at h2
      · split at h4
        · exact hw ds l (by simpa using h2) (by simpa using h4) j c a g1 h3 h5
        · cases h4
      · cases h2
    · rw [List.getElem?_set_ne e] at h2 h4
      exact o.lo j k c ds a l g1 h2 h3 h4 h5⟩
theorem ObsOk.putS {K : PySem.W.Frag} {F H : Hp} {τ : DS} {σ : St} {i : Nat} {ds es : List D} (o : ObsOk K F τ σ H) (hi : τ[i]? = some (some (.own ds))) : ObsOk K F (τ.set i (some (.own es))) σ H :=
  ⟨fun j m c fs h => o.at_ j m c fs (set_obj (s := some (.own es)) rfl rfl h).2, fun j k m c c' fs a hjk h1 h2 => o.dis j k m c c' fs a hjk (set_obj (s := some (.own es)) rfl rfl h1).2 (set_obs (s := some (.own es)) rfl h2).2, fun j c fs h => o.rd j c fs (set_obj (s := some (.own es)) rfl rfl h).2,
   fun j k m c c' fs a a' l hjk h1 h2 => o.ll j k m c c' fs a a' l hjk (set_obj (s := some (.own es)) rfl rfl h1).2 (set_obs (s := some (.own es)) rfl h2).2, fun j k c ds' a l h1 h2 h3 h4 h5 => by
    have h1 := (set_obs (s := some (.own es)) rfl h1).2
    by_cases e : i = k
    · subst e; exact o.lo j i c ds a l h1 hi h3 h4 h5
    · rw [List.getElem?_set_ne e] at h2; exact o.lo j k c ds' a l h1 h2 h3 h4 h5⟩
theorem ObsOk.fresh {K : PySem.W.Frag} {F H : Hp} {τ : DS} {σ : St} {p : Addr} (o : ObsOk K F τ σ H) (hp : H p = .none) : ∀ (i : Nat) (c : Str) (a : Addr), ObS τ[i]? c → σ[i]? = some (some (.ref a)) → p ∉ Lof H c a := fun i c a h e hl => by
  obtain ⟨a', C, dx, vs, fs, h1, h2, h3⟩ := o.get h
  rw [e] at h1; cases h1
  rw [Lof.ins h2] at hl
  obtain ⟨_, ws, q⟩ := h3.own hl
  rw [hp] at q; cases q
theorem ObsOk.lof {K : PySem.W.Frag} {F H : Hp} {τ : DS} {σ : St} {i : Nat} {c : Str} {a p : Addr} {u : HO} (o : ObsOk K F τ σ H) (h1 : ObS τ[i]? c) (h2 : σ[i]? = some (some (.ref a))) (hl : H p = .none ∨ ∃ vs, H p = some (.lst vs)) : Lof (upd H p u) c a = Lof H c a := by
  obtain ⟨a', C, dx, vs, fs, h3, h4, _⟩ := o.get h1
  rw [h2] at h3; cases h3
  have : a ≠ p := fun z => by
    subst z
    rcases hl with z | ⟨ws, z⟩
    · rw [z] at h4; cases h4
    · rw [z] at h4; cases h4
  rw [Lof.ins h4, Lof.ins (show upd H p u a = some (.ins C dx vs) by rw [upd_ne this]; exact h4)]
structure RV (K : PySem.W.Frag) (F : Hp) (τ : DS) (σ : St) (H : Hp) : Prop where
  fh : Same F H
  len : τ.length = σ.length
  val : ∀ (i : Nat) (d : D), τ[i]? = some (some (.val d)) → ∃ v, σ[i]? = some (some v) ∧ Rep K F d v
  own : ∀ (i : Nat) (ds : List D), τ[i]? = some (some (.own ds)) → ∃ a vs, σ[i]? = some (some (.ref a)) ∧ H a = some (.lst vs) ∧ F a = none ∧ Reps K F ds vs
  dis : ∀ (i j : Nat) (ds es : List D) (a : Addr), i ≠ j → τ[i]? = some (some (.own ds)) → τ[j]? = some (some (.own es)) → σ[i]? = some (some (.ref a)) → σ[j]? = some (some (.ref a)) → False
  tt : TbT F H
  ob : ObsOk K F τ σ H
theorem RV.ext {K : PySem.W.Frag} {F H F' H' : Hp} {τ : DS} {σ : St} (R : RV K F τ σ H) (x : Ext F H F' H') : RV K F' τ σ H' :=
  ⟨x.fh, R.len, fun i d e => by
    obtain ⟨v, h1, h2⟩ := R.val i d e
    exact ⟨v, h1, h2.mono x.ff⟩,
   fun i ds e => by
    obtain ⟨a, vs, h1, h2, h3, h4⟩ := R.own i ds e
    refine ⟨a, vs, h1, x.hh _ _ h2, ?_, h4.mono x.ff⟩
    cases q : F' a with
    | none => rfl
    | some o =>
      rcases x.nw a o q with z | z
      · rw [h3] at z; cases z
      · rw [h2] at z; exact absurd z (by simp),
   R.dis, x.tt R.tt, R.ob.ext x⟩
structure RS (K : PySem.W.Frag) (B Z F : Hp) (τ : DS) (σ : St) (H : Hp) : Prop where
  rv : RV K F τ σ H
  bh : Hh B H
  zf : Same Z F
  nb : ∀ a o, F a = some o → Z a = some o ∨ B a = none
  ob : ∀ (i : Nat) (ds : List D) (a : Addr), τ[i]? = some (some (.own ds)) → σ[i]? = some (some (.ref a)) → B a = none
  oo : ∀ (i n : Nat) (c : Str) (fs : List (Str × D)) (a : Addr), τ[i]? = some (some (.obj n c fs)) → σ[i]? = some (some (.ref a)) → B a = none ∧ ∀ l ∈ Lof H c a, B l = none
  sf : ∀ (a0 dx : Addr), B dx = some (.own a0) → B a0 = none → ∀ (i n : Nat) (c : Str) (fs : List (Str × D)), τ[i]? = some (some (.obj (n + 1) c fs)) → σ[i]? = some (some (.ref a0))
  ro : ∀ (i : Nat) (c : Str) (fs : List (Str × D)) (a : Addr), τ[i]? = some (some (.obr c fs)) → σ[i]? = some (some (.ref a)) → ∃ C dx vs, B a = some (.ins C dx vs) ∧ ∀ l ∈ ownL c vs, ∃ ws, B l = some (.lst ws)
theorem RS.ext {K : PySem.W.Frag} {B Z F H F' H' : Hp} {τ : DS} {σ : St} (R : RS K B Z F τ σ H) (x : Ext F H F' H') : RS K B Z F' τ σ H' :=
  ⟨R.rv.ext x, R.bh.trans x.hh, R.zf.trans x.ff, fun a o e => by
    rcases x.nw a o e with q | q
    · exact R.nb a o q
    · exact .inr (none_of_hh R.bh q), R.ob, fun i n c fs a h1 h2 => by
    obtain ⟨q1, q2⟩ := R.oo i n c fs a h1 h2
    refine ⟨q1, fun l hl => q2 l ?_⟩
    obtain ⟨a', h3, C, dx, vs, h4, _⟩ := R.rv.ob.at_ i n c fs h1
    rw [h2] at h3; cases h3
    rw [Lof.ins h4]
    rw [Lof.ins (x.hh _ _ h4 : H' a = some (.ins C dx vs))] at hl
    exact hl, R.sf, R.ro⟩
theorem RS.out {K : PySem.W.Frag} {B Z F H : Hp} {τ : DS} {σ : St} (R : RS K B Z F τ σ H) : Ext Z B F H := ⟨R.zf, R.bh, R.rv.fh, R.nb, fun _ => R.rv.tt⟩
def Xob (X : Cx) (c : Str) : Prop := ∀ e s', X.xe e s'
def Ok (X : Cx) {α : Type} (r : Rs α) (P : α → Prop) : Prop := match r with
  | .ok a => P a
  | .ex c => Xob X c
  | .no => False
theorem Ok.bind {X : Cx} {α β : Type} {r : Rs α} {k : α → Rs β} {P : β → Prop} (h : Ok X (r.bind k) P) : Ok X r fun a => Ok X (k a) P := by
  cases r <;> exact h
theorem Ok.imp {X : Cx} {α : Type} {r : Rs α} {P Q : α → Prop} (h : Ok X r P) (f : ∀ a, P a → Q a) : Ok X r Q := by
  cases r with
  | ok a => exact f a h
  | ex c => exact h
  | no => exact h
abbrev FE := DS → Rs D
abbrev FA := DS → Rs (List D)
abbrev FT := DS → Rs Bool
def Ev (K : PySem.W.Frag) (F H : Hp) (Q : VK) (d : D) : Prop := ∀ v F' H', Ext F H F' H' → Rep K F' d v → Q v H'
def Evs (K : PySem.W.Frag) (F H : Hp) (Q : List V → Hp → Prop) (ds : List D) : Prop := ∀ vs F' H', Ext F H F' H' → Reps K F' ds vs → Q vs H'
def Evb (F H : Hp) (Q : Bool → Hp → Prop) (b : Bool) : Prop := ∀ F' H', Ext F H F' H' → Q b H'
theorem Ev.ext {K : PySem.W.Frag} {F H F1 H1 : Hp} {Q : VK} {d : D} (h : Ev K F H Q d) (x : Ext F H F1 H1) : Ev K F1 H1 Q d := fun v F' H' y r => h v F' H' (x.trans y) r
theorem Evb.ext {F H F1 H1 : Hp} {Q : Bool → Hp → Prop} {d : Bool} (h : Evb F H Q d) (x : Ext F H F1 H1) : Evb F1 H1 Q d := fun F' H' y => h F' H' (x.trans y)
def tE (X : Cx) (f : FE) : TE := fun σ H Q => ∃ F τ, RV X.K F τ σ H ∧ Ok X (f τ) (Ev X.K F H Q)
def tAs (X : Cx) (f : FA) : TA := fun σ H Q => ∃ F τ, RV X.K F τ σ H ∧ Ok X (f τ) (Evs X.K F H Q)
def tTs (X : Cx) (f : FT) : TT := fun σ H Q => ∃ F τ, RV X.K F τ σ H ∧ Ok X (f τ) (Evb F H Q)
def PDE (X : Cx) (e : Expr) (f : FE) : Prop := PE X e (tE X f)
def PDA (X : Cx) (e : List Expr) (f : FA) : Prop := PA X e (tAs X f)
def PDT (X : Cx) (e : Expr) (f : FT) : Prop := PT X e (tTs X f)
def PDW (X : Cx) (e : Expr) (f : FT) : Prop := PW X e (tTs X f)
theorem _root_.L2.PE.imp {X : Cx} {e : Expr} {t t' : TE} (h : PE X e t) (f : ∀ σ H Q, t' σ H Q → t σ H Q) : PE X e t' := fun pins s σ H Q I q => h pins s σ H Q I (f _ _ _ q)
theorem _root_.L2.PT.imp {X : Cx} {e : Expr} {t t' : TT} (h : PT X e t) (f : ∀ σ H Q, t' σ H Q → t σ H Q) : PT X e t' := fun pins s σ H Q I q => h pins s σ H Q I (f _ _ _ q)
theorem _root_.L2.PW.imp {X : Cx} {e : Expr} {t t' : TT} (h : PW X e t) (f : ∀ σ H Q, t' σ H Q → t σ H Q) : PW X e t' := fun w pins s σ H Q I q => h w pins s σ H Q I (f _ _ _ q)
theorem _root_.L2.PA.imp {X : Cx} {e : List Expr} {t t' : TA} (h : PA X e t) (f : ∀ σ H Q, t' σ H Q → t σ H Q) : PA X e t' := fun p pins s σ H Q I q => h p pins s σ H Q I (f _ _ _ q)
theorem _root_.L2.PS.imp {X : Cx} {e : Stmt} {t t' : TS} (h : PS X e t) (f : ∀ E σ H, t' E σ H → t E σ H) : PS X e t' := fun pins s σ H Q I q => h pins s σ H Q I (f _ _ _ q)
theorem _root_.L2.PSs.imp {X : Cx} {e : List Stmt} {t t' : TS} (h : PSs X e t) (f : ∀ E σ H, t' E σ H → t E σ H) : PSs X e t' := fun pins s σ H Q I q => h pins s σ H Q I (f _ _ _ q)
theorem tE.of {X : Cx} {f : FE} {F H : Hp} {τ : DS} {σ : St} {Q : VK} {G : D → Prop} (R : RV X.K F τ σ H) (h : Ok X (f τ) G)
    (k : ∀ d v F1 H1, G d → Ext F H F1 H1 → RV X.K F1 τ σ H1 → Rep X.K F1 d v → Q v H1) : tE X f σ H Q :=
  ⟨F, τ, R, h.imp fun d g v F1 H1 x r => k d v F1 H1 g x (R.ext x) r⟩
theorem tAs.of {X : Cx} {f : FA} {F H : Hp} {τ : DS} {σ : St} {Q : List V → Hp → Prop} {G : List D → Prop} (R : RV X.K F τ σ H) (h : Ok X (f τ) G)
    (k : ∀ d v F1 H1, G d → Ext F H F1 H1 → RV X.K F1 τ σ H1 → Reps X.K F1 d v → Q v H1) : tAs X f σ H Q :=
  ⟨F, τ, R, h.imp fun d g v F1 H1 x r => k d v F1 H1 g x (R.ext x) r⟩
theorem tTs.of {X : Cx} {f : FT} {F H : Hp} {τ : DS} {σ : St} {Q : Bool → Hp → Prop} {G : Bool → Prop} (R : RV X.K F τ σ H) (h : Ok X (f τ) G)
    (k : ∀ b F1 H1, G b → Ext F H F1 H1 → RV X.K F1 τ σ H1 → Q b H1) : tTs X f σ H Q :=
  ⟨F, τ, R, h.imp fun d g F1 H1 x => k d F1 H1 g x (R.ext x)⟩
def eVar (i : Nat) : FE := fun τ => match τ[i]? with
  | some (some (.val d)) => .ok d
  | _ => .no
section
variable {X : Cx} {pos : Pos}
theorem pde_var {i : Nat} {x : Str} (h : PE X (.Name x pos) (tVar i)) : PDE X (.Name x pos) (eVar i) := h.imp fun σ H Q ⟨F, τ, R, q⟩ => by
  unfold eVar at q
  cases e : τ[i]? with
  | none => rw [e] at q; exact q.elim
  | some o =>
    cases o with
    | none => rw [e] at q; exact q.elim
    | some sl =>
      cases sl with
      | own ds => rw [e] at q; exact q.elim
      | obj n c fs => rw [e] at q; exact q.elim
      | obr c fs => rw [e] at q; exact q.elim
      | val d =>
        rw [e] at q
        obtain ⟨v, h1, h2⟩ := R.val i d e
        exact ⟨v, h1, q v F H (Ext.refl R.fh) h2⟩
def eC (d : D) : FE := fun _ => .ok d
theorem pde_c {e : Expr} {v : V} {d : D} (h : PE X e (tC v)) (r : ∀ F, Rep X.K F d v) : PDE X e (eC d) := h.imp fun σ H Q ⟨F, τ, R, q⟩ => q v F H (Ext.refl R.fh) (r F)
theorem pde_int {i j} : PDE X (.Constant (.int i) j pos) (eC (.int i)) := pde_c pe_int fun _ => by simp only [Rep]
theorem pde_bl {i j} : PDE X (.Constant (.bool i) j pos) (eC (.bl i)) := pde_c pe_bl fun _ => by simp only [Rep]
theorem pde_non {j} : PDE X (.Constant .none j pos) (eC .non) := pde_c pe_non fun _ => by simp only [Rep]
theorem pde_str {i j} : PDE X (.Constant (.str i) j pos) (eC (.str i)) := pde_c pe_str fun _ => by simp only [Rep]
end
end FD
set_option Elab.async false
set_option linter.all false
set_option maxRecDepth 100000
namespace FD
open PySem PySem.Spec PyProof.Rows L2
variable [Tabs]
def OpD (X : Cx) (g : Value → Value → Sem Value) (op : D → D → Rs D) : Prop := ∃ r : R2, OpR X g r ∧
  ∀ F H x y dx dy Q, Same F H → Rep X.K F dx x → Rep X.K F dy y → Ok X (op dx dy) (Ev X.K F H Q) → r x y H Q
def eOp (op : D → D → Rs D) (fa fb : FE) : FE := fun τ => (fa τ).bind fun x => (fb τ).bind fun y => op x y
section
variable {X : Cx} {pos : Pos} {a b c : Expr} {fa fb fc : FE}
theorem op_of {r : R2} {op : D → D → Rs D} (hl : ∀ F H x y dx dy Q, Same F H → Rep X.K F dx x → Rep X.K F dy y → Ok X (op dx dy) (Ev X.K F H Q) → r x y H Q)
    (σ : St) (H : Hp) (Q : VK) (h : tE X (eOp op fa fb) σ H Q) : tOp r (tE X fa) (tE X fb) σ H Q := by
  obtain ⟨F, τ, R, h⟩ := h
  refine tE.of R h.bind fun x u F1 H1 g x1 R1 r1 => ?_
  refine tE.of R1 g.bind fun y v F2 H2 g2 x2 R2 r2 => ?_
  exact hl F2 H2 u v x y Q R2.fh (r1.mono x2.ff) r2 (g2.imp fun d e => e.ext (x1.trans x2))
theorem pde_op {o : Operator} {op : D → D → Rs D} (ho : OpD X (binaryOp o) op) (ha : PDE X a fa) (hb : PDE X b fb) : PDE X (.BinOp a o b pos) (eOp op fa fb) := by
  obtain ⟨r, h1, h2⟩ := ho
  exact (pe_op h1 ha hb).imp (op_of h2)
theorem pde_cmp {o : CmpOp} {op : D → D → Rs D} (ho : OpD X (compareOp o) op) (ha : PDE X a fa) (hb : PDE X b fb) (hm : behindInMarks o b = false) : PDE X (.Compare a [o] [b] pos) (eOp op fa fb) := by
  obtain ⟨r, h1, h2⟩ := ho
  exact (pe_cmpR h1 ha hb hm).imp (op_of h2)
def tB (f : FE) : FT := fun τ => (f τ).bind fun d => match d with
  | .bl b => .ok b
  | _ => .no
theorem test_of {t : FE} {u : TE} (hi : ∀ σ H Q, tE X t σ H Q → u σ H Q) (σ : St) (H : Hp) (Q : Bool → Hp → Prop) (h : tTs X (tB t) σ H Q) : tTest u σ H Q := by
  obtain ⟨F, τ, R, h⟩ := h
  refine hi σ H _ (tE.of R h.bind fun d v F1 H1 g x R1 r => ?_)
  cases d with
  | bl k => simp only [Rep] at r; exact ⟨k, r, g F1 H1 x⟩
  | _ => exact g.elim
theorem pdt_cmp {o : CmpOp} {op : D → D → Rs D} (ho : OpD X (compareOp o) op) (ha : PDE X a fa) (hb : PDE X b fb) (hm : behindInMarks o b = false) : PDT X (.Compare a [o] [b] pos) (tB (eOp op fa fb)) := by
  obtain ⟨r, h1, h2⟩ := ho
  exact (pt_cmpR h1 ha hb hm).imp (test_of (op_of h2))
def eChain (op op' : D → D → Rs D) (fa fb fc : FE) : FE := fun τ => (fa τ).bind fun x => (fb τ).bind fun y => (op x y).bind fun z => match z with
  | .bl k => if k = true then (fc τ).bind fun w => op' y w else .ok (.bl false)
  | _ => .no
theorem chain_of {r r' : R2} {op op' : D → D → Rs D} (hl : ∀ F H x y dx dy Q, Same F H → Rep X.K F dx x → Rep X.K F dy y → Ok X (op dx dy) (Ev X.K F H Q) → r x y H Q)
    (hl' : ∀ F H x y dx dy Q, Same F H → Rep X.K F dx x → Rep X.K F dy y → Ok X (op' dx dy) (Ev X.K F H Q) → r' x y H Q)
    (σ : St) (H : Hp) (Q : VK) (h : tE X (eChain op op' fa fb fc) σ H Q) : tChain r r' (tE X fa) (tE X fb) (tE X fc) σ H Q := by
  obtain ⟨F, τ, R, h⟩ := h
  refine tE.of R h.bind fun x u F1 H1 g x1 R1 r1 => ?_
  refine tE.of R1 g.bind fun y v F2 H2 g2 x2 R2 r2 => ?_
  refine hl F2 H2 u v x y _ R2.fh (r1.mono x2.ff) r2 (g2.bind.imp fun z gz w F3 H3 x3 r3 => ?_)
  cases z with
  | bl k =>
    simp only [Rep] at r3
    refine ⟨k, r3, ?_⟩
    cases k with
    | false => rw [if_neg (by simp)]; exact gz (.bl false) F3 H3 ((x1.trans x2).trans x3) (by simp only [Rep])
    | true =>
      rw [if_pos rfl]
      have gz : Ok X ((fc τ).bind fun w => op' y w) (Ev X.K F H Q) := gz
      refine tE.of (R2.ext x3) gz.bind fun w' v' F4 H4 g4 x4 R4 r4 => ?_
      exact hl' F4 H4 v v' y w' Q R4.fh (r2.mono (x3.ff.trans x4.ff)) r4 (g4.imp fun d e => e.ext (((x1.trans x2).trans x3).trans x4))
  | _ => exact gz.elim
theorem pdt_chain {o o' : CmpOp} {op op' : D → D → Rs D} (ho : OpD X (compareOp o) op) (ho' : OpD X (compareOp o') op') (ha : PDE X a fa) (hb : PDE X b fb) (hc : PDE X c fc)
    (hm : lastMarks [o, o'] [b, c] = false := by with_unfolding_all rfl) : PDT X (.Compare a [o, o'] [b, c] pos) (tB (eChain op op' fa fb fc)) := by
  obtain ⟨r, h1, h2⟩ := ho
  obtain ⟨r', h1', h2'⟩ := ho'
  exact (pt_chain h1 h1' ha hb hc hm).imp (test_of (chain_of h2 h2'))
def truD : D → Rs Bool
  | .non => .ok false
  | .bl b => .ok b
  | .int i => .ok (i != 0)
  | .str x => if x.length ≤ sizeLine then .ok ((x.length : Int) != 0) else .no
  | .lst ds => .ok (!ds.isEmpty)
  | .tup ds => .ok (!ds.isEmpty)
  | .scr ns => .ok (!ns.isEmpty)
  | .raw _ => .no
  | .exc _ => .no
  | .dct _ _ => .no
theorem isEmpty_reps {K : PySem.W.Frag} {F : Hp} {ds : List D} {vs : List V} (h : Reps K F ds vs) : ds.isEmpty = vs.isEmpty := by
  have := h.length
  cases ds <;> cases vs <;> simp_all
theorem tru_of {F H : Hp} {d : D} {v : V} {Q : Bool → Hp → Prop} (fh : Same F H) (r : Rep X.K F d v) (h : Ok X (truD d) (fun b => Q b H)) : ∃ k, TruV X.K v H k ∧ Q k H := by
  cases d with
  | non => simp only [Rep] at r; subst r; exact ⟨_, rfl, h⟩
  | bl b => simp only [Rep] at r; subst r; exact ⟨_, rfl, h⟩
  | int i => simp only [Rep] at r; subst r; exact ⟨_, rfl, h⟩
  | str x =>
    simp only [Rep] at r; subst r
    (delta truD at h; dsimp only at h)
    by_cases z : x.length ≤ sizeLine
    · rw [if_pos z] at h; exact ⟨_, ⟨z, rfl⟩, h⟩
    · rw [if_neg z] at h; exact h.elim
  | lst ds =>
    simp only [Rep] at r; obtain ⟨a, vs, rfl, e, q⟩ := r
    refine ⟨!vs.isEmpty, .inl ⟨vs, SqL.of (fh _ _ e), rfl⟩, ?_⟩
    rw [← isEmpty_reps q]; exact h
  | tup ds =>
    simp only [Rep] at r; obtain ⟨a, vs, rfl, e, q⟩ := r
    refine ⟨!vs.isEmpty, .inr (.inl ⟨vs, Same.seqT fh e, rfl⟩), ?_⟩
    rw [← isEmpty_reps q]; exact h
  | scr ns =>
    simp only [Rep] at r; obtain ⟨a, rfl, e⟩ := r
    refine ⟨!(ns.map V.int).isEmpty, .inl ⟨_, fh.seq e, rfl⟩, ?_⟩
    have e2 : (ns.map V.int).isEmpty = ns.isEmpty := by cases ns <;> rfl
    rw [e2]; exact h
  | raw u => exact h.elim
  | exc c => exact h.elim
  | dct _ _ => exact h.elim
def tTru (f : FE) : FT := fun τ => (f τ).bind truD
theorem pdt_tru (ha : PDE X a fa) (he : ∀ whole, isTrue a X.env whole = (do let v ← whole; standAt a.pos; holding [v] (truthy v)) := by intro _; rfl) : PDT X a (tTru fa) :=
  (pt_truth ha he).imp fun σ H Q ⟨F, τ, R, h⟩ => tE.of R h.bind fun d v F1 H1 g x R1 r => tru_of R1.fh r (g.imp fun b e => e F1 H1 x)
def tAndD (f g : FT) : FT := fun τ => (f τ).bind fun b => if b = true then g τ else .ok false
def tOrD (f g : FT) : FT := fun τ => (f τ).bind fun b => if b = true then .ok true else g τ
def tNotD (f : FT) : FT := fun τ => (f τ).bind fun b => .ok (!b)
variable {ga gb : FT} {rest : List Expr}
theorem pdw_and1 (ha : PDT X a ga) : PDW X (.BoolOp .And [a] pos) ga := pw_and1 ha
theorem pdw_or1 (ha : PDT X a ga) : PDW X (.BoolOp .Or [a] pos) ga := pw_or1 ha
theorem pdw_and (ha : PDT X a ga) (hb : PDW X (.BoolOp .And (b :: rest) pos) gb) : PDW X (.BoolOp .And (a :: b :: rest) pos) (tAndD ga gb) :=
  PW.imp (pw_and ha hb) fun σ H Q ⟨F, τ, R, h⟩ => tTs.of R h.bind fun k F1 H1 g x R1 => by
    cases k with
    | true => rw [if_pos rfl]; rw [if_pos rfl] at g; exact ⟨F1, τ, R1, g.imp fun d e => e.ext x⟩
    | false => rw [if_neg (by simp)]; rw [if_neg (by simp)] at g; exact g F1 H1 x
theorem pdw_or (ha : PDT X a ga) (hb : PDW X (.BoolOp .Or (b :: rest) pos) gb) : PDW X (.BoolOp .Or (a :: b :: rest) pos) (tOrD ga gb) :=
  PW.imp (pw_or ha hb) fun σ H Q ⟨F, τ, R, h⟩ => tTs.of R h.bind fun k F1 H1 g x R1 => by
    cases k with
    | false => rw [if_neg (by simp)]; rw [if_neg (by simp)] at g; exact ⟨F1, τ, R1, g.imp fun d e => e.ext x⟩
    | true => rw [if_pos rfl]; rw [if_pos rfl] at g; exact g F1 H1 x
theorem pdt_w {e : Expr} (h : PDW X e ga) : PDT X e ga := PW.pt h
theorem pdt_not (ha : PDT X a ga) : PDT X (.UnaryOp .Not a pos) (tNotD ga) :=
  PT.imp (pt_not ha) fun σ H Q ⟨F, τ, R, h⟩ => tTs.of R h.bind fun k F1 H1 g x R1 => g F1 H1 x
def eAnd (fa fb : FE) : FE := fun τ => (fa τ).bind fun x => (truD x).bind fun b => if b = true then fb τ else .ok x
def eOr (fa fb : FE) : FE := fun τ => (fa τ).bind fun x => (truD x).bind fun b => if b = true then .ok x else fb τ
def eNot (fa : FE) : FE := fun τ => (fa τ).bind fun x => (truD x).bind fun b => .ok (.bl (!b))
theorem pde_one {op} (h : PDE X a fa) : PDE X (.BoolOp op [a] pos) fa := pe_one h
theorem pde_and (ha : PDE X a fa) (hb : PDE X (.BoolOp .And (b :: rest) pos) fb) : PDE X (.BoolOp .And (a :: b :: rest) pos) (eAnd fa fb) := by
  intro pins s σ H Q I ⟨F, τ, R, h⟩
  refine BoolOp_and (thn (ha pins s σ H _ I (tE.of R h.bind fun d v F1 H1 g x R1 r => (⟨d, F1, g, x, R1, r⟩ : ∃ d F1, Ok X ((truD d).bind fun b => if b = true then fb τ else .ok d) (Ev X.K F H Q) ∧ Ext F H F1 H1 ∧ RV X.K F1 τ σ H1 ∧ Rep X.K F1 d v))) fun v s1 ⟨x, H1, I1, r1, d, F1, g, x1, R1, r⟩ => ?_)
  refine thn (tru_ok pins s1 σ H1 x v (fun b H2 => H2 = H1 ∧ Ok X (if b = true then fb τ else .ok d) (Ev X.K F H Q)) I1 r1 (tru_of (Q := fun b H2 => H2 = H1 ∧ Ok X (if b = true then fb τ else .ok d) (Ev X.K F H Q)) R1.fh r (g.bind.imp fun b e => ⟨rfl, e⟩))) fun k s2 ⟨H2, I2, e2, q⟩ => ?_
  subst e2
  cases k with
  | true => rw [if_pos rfl] at q ⊢; exact hb pins s2 σ _ Q I2 ⟨F1, τ, R1, q.imp fun d e => e.ext x1⟩
  | false => rw [if_neg (by simp)] at q ⊢; exact ⟨x, _, I2, r1, q x F1 _ x1 r⟩
theorem pde_or (ha : PDE X a fa) (hb : PDE X (.BoolOp .Or (b :: rest) pos) fb) : PDE X (.BoolOp .Or (a :: b :: rest) pos) (eOr fa fb) := by
  intro pins s σ H Q I ⟨F, τ, R, h⟩
  refine BoolOp_or (thn (ha pins s σ H _ I (tE.of R h.bind fun d v F1 H1 g x R1 r => (⟨d, F1, g, x, R1, r⟩ : ∃ d F1, Ok X ((truD d).bind fun b => if b = true then .ok d else fb τ) (Ev X.K F H Q) ∧ Ext F H F1 H1 ∧ RV X.K F1 τ σ H1 ∧ Rep X.K F1 d v))) fun v s1 ⟨x, H1, I1, r1, d, F1, g, x1, R1, r⟩ => ?_)
  refine thn (tru_ok pins s1 σ H1 x v (fun b H2 => H2 = H1 ∧ Ok X (if b = true then .ok d else fb τ) (Ev X.K F H Q)) I1 r1 (tru_of (Q := fun b H2 => H2 = H1 ∧ Ok X (if b = true then .ok d else fb τ) (Ev X.K F H Q)) R1.fh r (g.bind.imp fun b e => ⟨rfl, e⟩))) fun k s2 ⟨H2, I2, e2, q⟩ => ?_
  subst e2
  cases k with
  | false => rw [if_neg (by simp)] at q ⊢; exact hb pins s2 σ _ Q I2 ⟨F1, τ, R1, q.imp fun d e => e.ext x1⟩
  | true => rw [if_pos rfl] at q ⊢; exact ⟨x, _, I2, r1, q x F1 _ x1 r⟩
theorem pde_not (ha : PDE X a fa) : PDE X (.UnaryOp .Not a pos) (eNot fa) := by
  intro pins s σ H Q I ⟨F, τ, R, h⟩
  refine UnaryOp_ (thn (ha pins s σ H _ I (tE.of R h.bind fun d v F1 H1 g x R1 r => (⟨d, F1, g, x, R1, r⟩ : ∃ d F1, Ok X ((truD d).bind fun b => .ok (.bl (!b))) (Ev X.K F H Q) ∧ Ext F H F1 H1 ∧ RV X.K F1 τ σ H1 ∧ Rep X.K F1 d v))) fun v s1 ⟨x, H1, I1, r1, d, F1, g, x1, R1, r⟩ => ?_)
  refine not_of (thn (tru_ok pins s1 σ H1 x v (fun b H2 => H2 = H1 ∧ Ok X (.ok (.bl (!b))) (Ev X.K F H Q)) I1 r1 (tru_of (Q := fun b H2 => H2 = H1 ∧ Ok X (.ok (.bl (!b))) (Ev X.K F H Q)) R1.fh r (g.bind.imp fun b e => ⟨rfl, e⟩))) fun k s2 ⟨H2, I2, e2, q⟩ => ?_)
  subst e2
  exact ⟨.bl (!k), _, I2, rfl, q (.bl (!k)) F1 _ x1 (by simp only [Rep])⟩
end
end FD
set_option Elab.async false
set_option linter.all false
set_option maxRecDepth 100000
namespace FD
open PySem PySem.Spec PyProof.Rows L2
variable [Tabs]
section
variable {X : Cx} {pos : Pos} {e : Expr} {es : List Expr} {fe : FE} {fs : FA}
def aNil : FA := fun _ => .ok []
def aCons (f : FE) (g : FA) : FA := fun τ => (f τ).bind fun x => (g τ).bind fun r => .ok (x :: r)
theorem pda_nil : PDA X [] aNil := PA.imp pa_nil fun σ H Q ⟨F, τ, R, h⟩ => h [] F H (Ext.refl R.fh) Reps.nil
theorem pda_cons (ha : PDE X e fe) (hr : PDA X es fs) (hs : starEach (e :: es) X.env = (false, eval e X.env) :: starEach es X.env := by rfl) : PDA X (e :: es) (aCons fe fs) :=
  PA.imp (pa_cons ha hr hs) fun σ H Q ⟨F, τ, R, h⟩ => tE.of R h.bind fun x v F1 H1 g x1 R1 r1 => tAs.of R1 g.bind fun ys vs F2 H2 g2 x2 R2 r2 =>
    g2 (v :: vs) F2 H2 (x1.trans x2) (Reps.cons (r1.mono x2.ff) r2)
def eTup (f : FA) : FE := fun τ => (f τ).bind fun ds => if ds.length ≤ sizeLine then .ok (.tup ds) else .no
def eLst (f : FA) : FE := fun τ => (f τ).bind fun ds => if ds.length ≤ sizeLine then .ok (.lst ds) else .no
theorem ok_ite {X : Cx} {α : Type} {c : Prop} [Decidable c] {a : α} {P : α → Prop} (h : Ok X (if c then .ok a else .no) P) : c ∧ P a := by
  by_cases z : c
  · rw [if_pos z] at h; exact ⟨z, h⟩
  · rw [if_neg z] at h; exact h.elim
theorem pde_tup {x1} (h : PDA X es fs) : PDE X (.Tuple es x1 pos) (eTup fs) :=
  PE.imp (pe_tup h) fun σ H Q ⟨F, τ, R, hq⟩ => tAs.of R hq.bind fun ds vs F1 H1 g x R1 r => by
    obtain ⟨z, g⟩ := ok_ite g
    refine ⟨by rw [← r.length]; exact z, fun p hp => g (.ref p) _ _ (x.trans (Ext.new R1.fh hp)) ?_⟩
    simp only [Rep]
    exact ⟨p, vs, rfl, SqT.of upd_same, r.mono (same_upd (none_of_same R1.fh hp))⟩
theorem pde_lst (h : PDA X es fs) : PDE X (.List es pos) (eLst fs) :=
  PE.imp (pe_lst h) fun σ H Q ⟨F, τ, R, hq⟩ => tAs.of R hq.bind fun ds vs F1 H1 g x R1 r => by
    obtain ⟨z, g⟩ := ok_ite g
    refine ⟨by rw [← r.length]; exact z, fun p hp => g (.ref p) _ _ (x.trans (Ext.new R1.fh hp)) ?_⟩
    simp only [Rep]
    exact ⟨p, vs, rfl, upd_same, r.mono (same_upd (none_of_same R1.fh hp))⟩
end
inductive Fl where
  | nx (τ : DS) | rt (d : D) | bk (τ : DS) | ct (τ : DS) | ex (c : Str) | no
  | rs (c : Str) (τ : DS)
  | ro (d : D) (τ : DS)
  | rb (i : Nat) (τ : DS)
def Nw (X : Cx) (H : Hp) (b : Addr) : Prop := H b = none ∧ X.s₀.heap.get? b = none ∧ ∀ p ∈ X.pn, p.1 ≠ b
def ExcAt (X : Cx) (H : Hp) (h : Heap) (a : Addr) (cls : Value) : Prop := Nw X H a ∧ ∃ oe vs, h.get? a = some oe ∧ oe.cls = cls ∧ oe.dict = none ∧ oe.data = .fields vs ∧
  (vs[1]? = some .none ∨ ∃ T oT ts, vs[1]? = some (.ref T) ∧ Nw X H T ∧ T ≠ a ∧ h.get? T = some oT ∧ oT.data = .fields ts ∧ ts[3]? = some .none) ∧ vs[2]? = some .none
def XA (X : Cx) (c : Str) (σ : St) (H : Hp) : Prop := ∀ s a cls, PySem.W.nsIn X.K mainGlobals c = some (some cls) → Inv X [] σ H s → ExcAt X H s.heap a cls → X.xe (.ref a) s
abbrev FS := DS → Fl
def Post (X : Cx) (B Z F : Hp) (E : Ends) : Fl → Prop
  | .nx τ => ∀ σ F' H', Same F F' → RS X.K B Z F' τ σ H' → E.nx σ H'
  | .bk τ => ∀ σ F' H', Same F F' → RS X.K B Z F' τ σ H' → E.bk σ H'
  | .ct τ => ∀ σ F' H', Same F F' → RS X.K B Z F' τ σ H' → E.ct σ H'
  | .rt d => ∀ v F' H', Ext Z B F' H' → Rep X.K F' d v → E.rt v H'
  | .ex c => Xob X c
  | .no => False
  | .rs c τ => ∀ σ F' H', Same F F' → RS X.K B Z F' τ σ H' → XA X c σ H'
  | .ro d τ => ∀ v σ F' H', Same F F' → RS X.K B Z F' τ σ H' → Rep X.K F' d v → E.rt v H'
  | .rb i τ => ∀ v σ F' H', Same F F' → RS X.K B Z F' τ σ H' → σ[i]? = some (some v) → E.rt v H'
theorem Post.same {X : Cx} {B Z F F1 : Hp} {E : Ends} {r : Fl} (h : Post X B Z F E r) (f : Same F F1) : Post X B Z F1 E r := by
  cases r with
  | nx τ => exact fun σ F' H' g R => h σ F' H' (f.trans g) R
  | bk τ => exact fun σ F' H' g R => h σ F' H' (f.trans g) R
  | ct τ => exact fun σ F' H' g R => h σ F' H' (f.trans g) R
  | rt d => exact h
  | ex c => exact h
  | no => exact h
  | rs c τ => exact fun σ F' H' g R => h σ F' H' (f.trans g) R
  | ro d τ => exact fun v σ F' H' g R r => h v σ F' H' (f.trans g) R r
  | rb i τ => exact fun v σ F' H' g R r => h v σ F' H' (f.trans g) R r
def tS (X : Cx) (f : FS) : TS := fun E σ H => ∃ B Z F τ, RS X.K B Z F τ σ H ∧ Post X B Z F E (f τ)
def PDS (X : Cx) (st : Stmt) (f : FS) : Prop := PS X st (tS X f)
def PDSs (X : Cx) (st : List Stmt) (f : FS) : Prop := PSs X st (tS X f)
def Fl.of {α : Type} (r : Rs α) (k : α → Fl) : Fl := match r with
  | .ok a => k a
  | .ex c => .ex c
  | .no => .no
@[simp] theorem Fl.of_ok {α : Type} (a : α) (k : α → Fl) : Fl.of (.ok a) k = k a := rfl
theorem Post.of {X : Cx} {B Z F : Hp} {E : Ends} {α : Type} {r : Rs α} {k : α → Fl} (h : Post X B Z F E (Fl.of r k)) : Ok X r fun a => Post X B Z F E (k a) := by
  cases r <;> exact h
section
variable {X : Cx} {pos : Pos} {e : Expr} {es : List Expr} {fe : FE} {fs : FA} {st : Stmt} {rest : List Stmt} {f g : FS} {c : Expr} {gc : FT}
def sNext : FS := fun τ => .nx τ
def sSeq (f g : FS) : FS := fun τ => match f τ with
  | .nx τ' => g τ'
  | r => r
theorem pdss_nil : PDSs X [] sNext := PSs.imp pss_nil fun E σ H ⟨B, Z, F, τ, R, h⟩ => h σ F H (Same.refl F) R
theorem pdss_one (h : PDS X st f) : PDSs X [st] f := pss_one h
theorem pdss_cons (h1 : PDS X st f) (h2 : PDSs X rest g) : PDSs X (st :: rest) (sSeq f g) :=
  PSs.imp (pss_cons h1 h2) fun E σ H ⟨B, Z, F, τ, R, h⟩ => by
    refine ⟨B, Z, F, τ, R, ?_⟩
    unfold sSeq at h
    cases q : f τ with
    | nx τ' => rw [q] at h; exact fun σ' F' H' ff R' => ⟨B, Z, F', τ', R', Post.same h ff⟩
    | rt d => rw [q] at h; exact h
    | bk d => rw [q] at h; exact h
    | ct d => rw [q] at h; exact h
    | ex d => rw [q] at h; exact h
    | no => rw [q] at h; exact h
    | rs c d => rw [q] at h; exact h
    | ro c d => rw [q] at h; exact h
    | rb c d => rw [q] at h; exact h
def sNo : FS := fun _ => .no
theorem pds_never : PDS X st sNo := PS.imp ps_never fun E σ H ⟨B, Z, F, τ, R, h⟩ => h
def sRet (fe : FE) : FS := fun τ => Fl.of (fe τ) fun d => .rt d
theorem tE.at {B Z F H : Hp} {τ : DS} {σ : St} {Q : VK} {G : D → Prop} (R : RS X.K B Z F τ σ H) (h : Ok X (fe τ) G)
    (k : ∀ d v F1 H1, G d → Ext F H F1 H1 → RS X.K B Z F1 τ σ H1 → Rep X.K F1 d v → Q v H1) : tE X fe σ H Q :=
  tE.of R.rv h fun d v F1 H1 g x _ r => k d v F1 H1 g x (R.ext x) r
theorem pds_ret (he : PDE X e fe) : PDS X (.Return (some e) pos) (sRet fe) :=
  PS.imp (ps_ret he) fun E σ H ⟨B, Z, F, τ, R, h⟩ => tE.at R h.of fun d v F1 H1 g x R1 r => g v F1 H1 R1.out r
def sIf (gc : FT) (f g : FS) : FS := fun τ => Fl.of (gc τ) fun b => if b = true then f τ else g τ
theorem pds_if {a b : List Stmt} (hc : PDT X c gc) (ha : PDSs X a f) (hb : PDSs X b g) : PDS X (.If c a b pos) (sIf gc f g) :=
  PS.imp (ps_if hc ha hb) fun E σ H ⟨B, Z, F, τ, R, h⟩ => tTs.of R.rv h.of fun k F1 H1 q x _ => by
    cases k with
    | true => rw [if_pos rfl] at q ⊢; exact ⟨B, Z, F1, τ, R.ext x, q.same x.ff⟩
    | false => rw [if_neg (by simp)] at q ⊢; exact ⟨B, Z, F1, τ, R.ext x, q.same x.ff⟩
theorem RV.set {K : PySem.W.Frag} {F H : Hp} {τ : DS} {σ : St} {i : Nat} {d : D} {v : V} (R : RV K F τ σ H) (r : Rep K F d v) : RV K F (τ.set i (some (.val d))) (σ.set i (some v)) H := by
  refine ⟨R.fh, by simp [R.len], fun j e h => ?_, fun j es h => ?_, fun j k ds es a hjk h1 h2 h3 h4 => ?_, ?_, ?_⟩
  · by_cases hij : i = j
    · subst hij
      have hlt : i < τ.length := by
        rcases Nat.lt_or_ge i τ.length with z | z
        · exact z
        · rw [List.getElem?_eq_none_iff.mpr (by simpa using z)] at h; cases h
      rw [List.getElem?_set_self hlt] at h
      cases h
      exact ⟨v, by rw [List.getElem?_set_self (by rw [← R.len]; exact hlt)], r⟩
    · rw [List.getElem?_set_ne hij] at h ⊢
      exact R.val j e h
  · by_cases hij : i = j
    · subst hij
      rw [List.getElem?_set] at h
      simp only [if_true] at h
      split at h <;> cases h
    · rw [List.getElem?_set_ne hij] at h ⊢
      exact R.own j es h
  · have n1 : i ≠ j := fun z => by
      subst z
      rw [List.getElem?_set] at h1
      simp only [if_true] at h1
      split at h1 <;> cases h1
    have n2 : i ≠ k := fun z => by
      subst z
      rw [List.getElem?_set] at h2
      simp only [if_true] at h2
      split at h2 <;> cases h2
    rw [List.getElem?_set_ne n1] at h1 h3
    rw [List.getElem?_set_ne n2] at h2 h4
    exact R.dis j k ds es a hjk h1 h2 h3 h4
  · exact R.tt
  · exact R.ob.put rfl fun _ _ z => by cases z
theorem RS.set {K : PySem.W.Frag} {B Z F H : Hp} {τ : DS} {σ : St} {i : Nat} {d : D} {v : V} (R : RS K B Z F τ σ H) (r : Rep K F d v) : RS K B Z F (τ.set i (some (.val d))) (σ.set i (some v)) H :=
  ⟨R.rv.set r, R.bh, R.zf, R.nb, fun j ds a h1 h2 => by
    have n1 : i ≠ j := fun z => by
      subst z
      rw [List.getElem?_set] at h1
      simp only [if_true] at h1
      split at h1 <;> cases h1
    rw [List.getElem?_set_ne n1] at h1 h2
    exact R.ob j ds a h1 h2, fun j m c fs a h1 h2 => by
    obtain ⟨n, h1⟩ := set_obj (s := some (.val d)) rfl rfl h1
    rw [List.getElem?_set_ne n] at h2
    exact R.oo j m c fs a h1 h2, fun a0 dx b1 b2 j m c fs h => by
    obtain ⟨n, h⟩ := set_obj (s := some (.val d)) rfl rfl h
    rw [List.getElem?_set_ne n]
    exact R.sf a0 dx b1 b2 j m c fs h, fun j c fs a h1 h2 => by
    obtain ⟨n, h1⟩ := set_obj (s := some (.val d)) rfl rfl h1
    rw [List.getElem?_set_ne n] at h2
    exact R.ro j c fs a h1 h2⟩
def sSet (i : Nat) (fe : FE) : FS := fun τ => Fl.of (fe τ) fun d => .nx (τ.set i (some (.val d)))
theorem pds_set {i : Nat} {x : Str} {pos' : Pos} (hN : X.N.Nodup) (hi : X.N[i]? = some x) (hx : Loc X.env.scope x) (he : PDE X e fe) (hs : swapsWith e (some (.Name x pos')) pos.line X.env = pure false := by rfl) (hf : X.fn x = true ∨ X.env.scope.names.lookup x = some .local := by first | exact .inl rfl | exact .inr rfl | assumption) :
    PDS X (.Assign [.Name x pos'] e pos) (sSet i fe) :=
  PS.imp (ps_set hN hi hx he hs hf) fun E σ H ⟨B, Z, F, τ, R, h⟩ => tE.at R h.of fun d v F1 H1 g x R1 r => g _ F1 H1 x.ff (R1.set r)
def tFr (X : Cx) (f : FA) : TE := fun σ H Q => ∃ F τ, RV X.K F τ σ H ∧ Ok X (f τ) fun ds => ∀ p vs F' H', Ext F H F' H' → H' p = none → Reps X.K F' ds vs → Q (.ref p) (upd H' p (.lst vs))
def PDF (X : Cx) (e : Expr) (f : FA) : Prop := PE X e (tFr X f)
theorem pdf_lst (h : PDA X es fs) : PDF X (.List es pos) (fun τ => (fs τ).bind fun ds => if ds.length ≤ sizeLine then .ok ds else .no) :=
  PE.imp (pe_lst h) fun σ H Q ⟨F, τ, R, hq⟩ => tAs.of R hq.bind fun ds vs F1 H1 g x R1 r => by
    obtain ⟨z, g⟩ := ok_ite g
    exact ⟨by rw [← r.length]; exact z, fun p hp => g p vs F1 H1 x hp r⟩
theorem pde_fr {ff : FA} (h : PDF X e ff) : PDE X e (fun τ => (ff τ).bind fun ds => .ok (.lst ds)) :=
  PE.imp h fun σ H Q ⟨F, τ, R, hq⟩ => ⟨F, τ, R, hq.bind.imp fun ds g p vs F1 H1 x hp r => by
    refine g (.ref p) _ _ (x.trans (Ext.new x.fh hp)) ?_
    simp only [Rep]
    exact ⟨p, vs, rfl, upd_same, r.mono (same_upd (none_of_same x.fh hp))⟩⟩
def sSetO (i : Nat) (ff : FA) : FS := fun τ => Fl.of (ff τ) fun ds => .nx (τ.set i (some (.own ds)))
theorem RV.setO {K : PySem.W.Frag} {F H : Hp} {τ : DS} {σ : St} {i : Nat} {p : Addr} {ds : List D} {vs : List V} (R : RV K F τ σ H) (hp : H p = none) (r : Reps K F ds vs) : RV K F (τ.set i (some (.own ds))) (σ.set i (some (.ref p))) (upd H p (.lst vs)) := by
  have nofr := none_of_same R.fh hp
  have hlt : ∀ {o : Sl}, (τ.set i (some (.own ds)))[i]? = some (some o) → i < τ.length := fun {o} h => by
    rcases Nat.lt_or_ge i τ.length with z | z
    · exact z
    · rw [List.getElem?_eq_none_iff.mpr (by simpa using z)] at h; cases h
  refine ⟨R.fh.trans (same_upd hp), by simp [R.len], fun j e h => ?_, fun j es h => ?_, fun j k es es' a hjk h1 h2 h3 h4 => ?_, ?_, ?_⟩
  · by_cases hij : i = j
    · subst hij
      rw [List.getElem?_set_self (hlt h)] at h; cases h
    · rw [List.getElem?_set_ne hij] at h ⊢
      exact R.val j e h
  · by_cases hij : i = j
    · subst hij
      have l := hlt h
      rw [List.getElem?_set_self l] at h
      cases h
      exact ⟨p, vs, by rw [List.getElem?_set_self (by rw [← R.len]; exact l)], upd_same, nofr, r⟩
    · rw [List.getElem?_set_ne hij] at h ⊢
      obtain ⟨a, ws, q1, q2, q3, q4⟩ := R.own j es h
      exact ⟨a, ws, q1, by rw [upd_ne (ne_of_none q2 hp)]; exact q2, q3, q4⟩
  · by_cases n1 : i = j
    · subst n1
      rw [List.getElem?_set_ne hjk] at h2 h4
      obtain ⟨a', ws, q1, q2, q3, q4⟩ := R.own k es' h2
      rw [q1] at h4; cases h4
      have l := hlt h1
      rw [List.getElem?_set_self (by rw [← R.len]; exact l)] at h3
      cases h3
      rw [hp] at q2; cases q2
    · by_cases n2 : i = k
      · subst n2
        rw [List.getElem?_set_ne (Ne.symm hjk)] at h1 h3
        obtain ⟨a', ws, q1, q2, q3, q4⟩ := R.own j es h1
        rw [q1] at h3; cases h3
        have l := hlt h2
        rw [List.getElem?_set_self (by rw [← R.len]; exact l)] at h4
        cases h4
        rw [hp] at q2; cases q2
      · rw [List.getElem?_set_ne n1] at h1 h3
        rw [List.getElem?_set_ne n2] at h2 h4
        exact R.dis j k es es' a hjk h1 h2 h3 h4
  · exact R.tt.step (fun _ _ e => .inl e) (fun b o e _ => by rw [upd_ne (ne_of_none e hp)]; exact e) (no_upd fun _ z => nomatch z)
  · have o1 : ObsOk K F (τ.set i (some (.own ds))) (σ.set i (some (.ref p))) H := R.ob.put rfl fun _ l _ z => by
      cases z; exact R.ob.fresh hp
    exact o1.updL (.inl hp) (o1.fresh hp)
theorem RS.setO {K : PySem.W.Frag} {B Z F H : Hp} {τ : DS} {σ : St} {i : Nat} {p : Addr} {ds : List D} {vs : List V} (R : RS K B Z F τ σ H) (hp : H p = none) (r : Reps K F ds vs) : RS K B Z F (τ.set i (some (.own ds))) (σ.set i (some (.ref p))) (upd H p (.lst vs)) :=
  ⟨R.rv.setO hp r, R.bh.trans (.of (same_upd hp)), R.zf, R.nb, fun j es a h1 h2 => by
    by_cases n1 : i = j
    · subst n1
      have l : i < τ.length := by
        rcases Nat.lt_or_ge i τ.length with z | z
        · exact z
        · rw [List.getElem?_eq_none_iff.mpr (by simpa using z)] at h1; cases h1
      rw [List.getElem?_set_self (by rw [← R.rv.len]; exact l)] at h2
      cases h2
      exact none_of_hh R.bh hp
    · rw [List.getElem?_set_ne n1] at h1 h2
      exact R.ob j es a h1 h2, fun j m c fs a h1 h2 => by
    obtain ⟨n, h1⟩ := set_obj (s := some (.own ds)) rfl rfl h1
    rw [List.getElem?_set_ne n] at h2
    rw [R.rv.ob.lof (.inl ⟨m, fs, h1⟩) h2 (.inl hp)]
    exact R.oo j m c fs a h1 h2, fun a0 dx b1 b2 j m c fs h => by
    obtain ⟨n, h⟩ := set_obj (s := some (.own ds)) rfl rfl h
    rw [List.getElem?_set_ne n]
    exact R.sf a0 dx b1 b2 j m c fs h, fun j c fs a h1 h2 => by
    obtain ⟨n, h1⟩ := set_obj (s := some (.own ds)) rfl rfl h1
    rw [List.getElem?_set_ne n] at h2
    exact R.ro j c fs a h1 h2⟩
theorem pds_setO {i : Nat} {x : Str} {pos' : Pos} {ff : FA} (hN : X.N.Nodup) (hi : X.N[i]? = some x) (hx : Loc X.env.scope x) (he : PDF X e ff) (hs : swapsWith e (some (.Name x pos')) pos.line X.env = pure false := by rfl) (hf : X.fn x = true ∨ X.env.scope.names.lookup x = some .local := by first | exact .inl rfl | exact .inr rfl | assumption) :
    PDS X (.Assign [.Name x pos'] e pos) (sSetO i ff) :=
  PS.imp (ps_set hN hi hx he hs hf) fun E σ H ⟨B, Z, F, τ, R, h⟩ => ⟨F, τ, R.rv, h.of.imp fun ds g p vs F1 H1 x hp r => g _ F1 _ x.ff ((R.ext x).setO hp r)⟩
theorem RV.own_upd {K : PySem.W.Frag} {F H : Hp} {τ : DS} {σ : St} {i : Nat} {p : Addr} {ds es : List D} {ws : List V} (R : RV K F τ σ H) (h : τ[i]? = some (some (.own ds))) (hp : σ[i]? = some (some (.ref p))) (r : Reps K F es ws) :
    RV K F (τ.set i (some (.own es))) σ (upd H p (.lst ws)) := by
  obtain ⟨a, vs, q1, q2, q3, q4⟩ := R.own i ds h
  rw [q1] at hp; cases hp
  have l : i < τ.length := (List.getElem?_eq_some_iff.mp h).1
  refine ⟨fun b o e => ?_, by simp [R.len], fun j e h' => ?_, fun j es' h' => ?_, fun j k e1 e2 b hjk h1 h2 h3 h4 => ?_, ?_, ?_⟩
  · have n : b ≠ p := fun z => by subst z; rw [q3] at e; cases e
    rw [upd_ne n]; exact R.fh b o e
  · by_cases hij : i = j
    · subst hij; rw [List.getElem?_set_self l] at h'; cases h'
    · rw [List.getElem?_set_ne hij] at h'; exact R.val j e h'
  · by_cases hij : i = j
    · subst hij
      rw [List.getElem?_set_self l] at h'; cases h'
      exact ⟨p, ws, q1, upd_same, q3, r⟩
    · rw [List.getElem?_set_ne hij] at h'
      obtain ⟨a', vs', z1, z2, z3, z4⟩ := R.own j es' h'
      have n : a' ≠ p := fun z => by subst z; exact R.dis i j ds es' a' hij h h' q1 z1
      exact ⟨a', vs', z1, by rw [upd_ne n]; exact z2, z3, z4⟩
  · have : ∀ {m : Nat} {e : List D}, (τ.set i (some (.own es)))[m]? = some (some (.own e)) → ∃ e', τ[m]? = some (some (.own e')) := fun {m e} z => by
      by_cases him : i = m
      · subst him; exact ⟨ds, h⟩
      · rw [List.getElem?_set_ne him] at z; exact ⟨e, z⟩
    obtain ⟨x1, y1⟩ := this h1
    obtain ⟨x2, y2⟩ := this h2
    exact R.dis j k x1 x2 b hjk y1 y2 h3 h4
  · exact R.tt.step (fun _ _ e => .inl e) (fun b o e n => by
      have : b ≠ p := fun z => by subst z; rw [q2] at e; cases e; exact n _ rfl
      rw [upd_ne this]; exact e) (no_upd fun _ z => nomatch z)
  · exact (R.ob.updL (.inr ⟨vs, q2⟩) fun j c a g1 g2 hl => R.ob.lo j i c ds a p g1 h g2 q1 hl).putS h
theorem RS.own_upd {K : PySem.W.Frag} {B Z F H : Hp} {τ : DS} {σ : St} {i : Nat} {p : Addr} {ds es : List D} {ws : List V} (R : RS K B Z F τ σ H) (h : τ[i]? = some (some (.own ds))) (hp : σ[i]? = some (some (.ref p))) (r : Reps K F es ws) :
    RS K B Z F (τ.set i (some (.own es))) σ (upd H p (.lst ws)) := by
  have hb := R.ob i ds p h hp
  refine ⟨R.rv.own_upd h hp r, fun b o e => ?_, R.zf, R.nb, fun j e a h1 h2 => ?_, fun j m c fs a h1 h2 => ?_, fun a0 dx b1 b2 j m c fs h => R.sf a0 dx b1 b2 j m c fs (set_obj (s := some (.own es)) rfl rfl h).2, fun j c fs a h1 h2 => R.ro j c fs a (set_obj (s := some (.own es)) rfl rfl h1).2 h2⟩
  · have n : b ≠ p := fun z => by subst z; rw [hb] at e; cases e
    rw [upd_ne n]; exact R.bh b o e
  · by_cases him : i = j
    · subst him; exact R.ob i ds a h h2
    · rw [List.getElem?_set_ne him] at h1; exact R.ob j e a h1 h2
  · have h1 := (set_obj (s := some (.own es)) rfl rfl h1).2
    obtain ⟨p', vs, q1, q2, _⟩ := R.rv.own i ds h
    rw [q1] at hp; cases hp
    rw [R.rv.ob.lof (.inl ⟨m, fs, h1⟩) h2 (.inr ⟨vs, q2⟩)]
    exact R.oo j m c fs a h1 h2
def ownAt (τ : DS) (i : Nat) : Rs (List D) := match τ[i]? with
  | some (some (.own ds)) => .ok ds
  | _ => .no
theorem ownAt_ok {τ : DS} {i : Nat} {P : List D → Prop} (h : Ok X (ownAt τ i) P) : ∃ ds, τ[i]? = some (some (.own ds)) ∧ P ds := by
  unfold ownAt at h
  cases q : τ[i]? with
  | none => rw [q] at h; exact h.elim
  | some o =>
    cases o with
    | none => rw [q] at h; exact h.elim
    | some sl =>
      cases sl with
      | val d => rw [q] at h; exact h.elim
      | obj n c fs => rw [q] at h; exact h.elim
      | obr c fs => rw [q] at h; exact h.elim
      | own ds => rw [q] at h; exact ⟨ds, rfl, h⟩
def sApp (i : Nat) (fe : FE) : FS := fun τ => Fl.of (ownAt τ i) fun ds => Fl.of (fe τ) fun d => if ds.length < sizeLine then .nx (τ.set i (some (.own (ds ++ [d])))) else .no
theorem pds_app {i : Nat} {x : Str} {p1 apos cpos : Pos} (hx : PE X (.Name x p1) (tVar i)) (he : PDE X e fe)
    (hfew : ((backTo cpos (starEach [e] X.env)).all (fun x => !x.1) && (backToKw cpos (keywordEach [] X.env)).all (fun x => x.1.isSome)
      && decide ([e].length + ([] : List Keyword).length + (if ([] : List Keyword).isEmpty then 0 else 1) < 30)) = true := by rfl)
    (hline : (apos.endLine == cpos.line) = true := by rfl) (hs : starEach [e] X.env = [(false, eval e X.env)] := by rfl) (hplain : (backTo cpos (starEach [] X.env)).any (·.1) = false := by rfl)
    (hbase : attributeBase (.Name x p1) "append" X.env (eval (.Name x p1) X.env) = eval (.Name x p1) X.env := by rfl)
    (hsw : swapsWith (.Call (.Attribute (.Name x p1) "append" apos) [e] [] cpos) none pos.line X.env = pure false := by rfl) :
    PDS X (.Expr (.Call (.Attribute (.Name x p1) "append" apos) [e] [] cpos) pos) (sApp i fe) :=
  PS.imp (ps_expr (pe_bm PySem.F.plainAttrs_list PySem.F.slot_list_append PySem.F.type_list_append mt_append hx (pa_cons he pa_nil (by rw [hs]; rfl)) hbase hfew hline (by rw [hs]; rfl) hplain) hsw) fun E σ H ⟨B, Z, F, τ, R, h⟩ => by
    obtain ⟨ds, h1, h2⟩ := ownAt_ok (X := X) (Post.of h)
    obtain ⟨a, vs, q1, q2, q3, q4⟩ := R.rv.own i ds h1
    refine ⟨_, q1, .inl ⟨rfl, vs, SqL.of q2⟩, ?_⟩
    refine tE.at R h2.of fun d v F1 H1 g x R1 r => ?_
    by_cases z : ds.length < sizeLine
    · rw [if_pos z] at g
      refine ⟨a, vs, v, rfl, rfl, x.hh _ _ q2, by rw [← q4.length]; exact z, ?_⟩
      exact g _ F1 _ x.ff (R1.own_upd h1 q1 ((q4.mono x.ff).append (Reps.cons r Reps.nil)))
    · rw [if_neg z] at g; exact g.elim
def sPut (i : Nat) (fi fe : FE) : FS := fun τ => Fl.of (fe τ) fun d => Fl.of (ownAt τ i) fun ds => Fl.of (fi τ) fun k => match k with
  | .int k => match ixN ds.length k with
    | some j => .nx (τ.set i (some (.own (ds.set j d))))
    | none => .no
  | _ => .no
theorem pds_put {i : Nat} {x : Str} {p1 spos : Pos} {ix : Expr} {fi : FE} (hx : PE X (.Name x p1) (tVar i)) (hi : PDE X ix fi) (he : PDE X e fe)
    (ha : ∀ v, assign (.Subscript (.Name x p1) ix spos) X.env v = (do
      let ov ← holding [v] (eval (.Name x p1) X.env)
      let iv ← holding [v, ov] (eval ix X.env)
      standAt spos
      holding [v, ov, iv] (setItem ov iv v)
      release [v, ov, iv] []) := by intro _; rfl)
    (hs : swapsWithSole [.Subscript (.Name x p1) ix spos] e pos.line X.env = pure false := by rfl) (hw : swappedStores [.Subscript (.Name x p1) ix spos] e X.env = pure none := by rfl)
    (h1 : (assignEach [.Subscript (.Name x p1) ix spos] X.env).map (·.2) = [assign (.Subscript (.Name x p1) ix spos) X.env] := by rfl) :
    PDS X (.Assign [.Subscript (.Name x p1) ix spos] e pos) (sPut i fi fe) :=
  PS.imp (ps_asg he (pg_sub hx hi set_list ha) hs hw h1) fun E σ H ⟨B, Z, F, τ, R, h⟩ => by
    refine tE.at R h.of fun d v F1 H1 g x R1 r => ?_
    obtain ⟨ds, h1, h2⟩ := ownAt_ok (X := X) (Post.of g)
    obtain ⟨a, vs, q1, q2, q3, q4⟩ := R1.rv.own i ds h1
    refine ⟨_, q1, ?_⟩
    refine tE.at R1 h2.of fun k w F2 H2 g2 x2 R2 r2 => ?_
    cases k with
    | int k =>
      simp only [Rep] at r2
      simp only at g2
      cases q : ixN ds.length k with
      | none => rw [q] at g2; exact g2.elim
      | some j =>
        rw [q] at g2
        refine ⟨a, vs, k, j, rfl, r2, x2.hh _ _ q2, by rw [← q4.length]; exact q, ?_⟩
        exact g2 _ F2 _ (x.ff.trans x2.ff) (R2.own_upd h1 q1 (Reps.set (r.mono x2.ff) j (q4.mono x2.ff)))
    | _ => exact g2.elim
def sRetO (i : Nat) : FS := fun τ => Fl.of (ownAt τ i) fun ds => .rt (.lst ds)
theorem pds_retO {i : Nat} {x : Str} {p1 : Pos} (hx : PE X (.Name x p1) (tVar i)) : PDS X (.Return (some (.Name x p1)) pos) (sRetO i) :=
  PS.imp (ps_ret hx) fun E σ H ⟨B, Z, F, τ, R, h⟩ => by
    obtain ⟨ds, h1, h2⟩ := ownAt_ok (X := X) (Post.of h)
    obtain ⟨a, vs, q1, q2, q3, q4⟩ := R.rv.own i ds h1
    have hb := R.ob i ds a h1 q1
    refine ⟨_, q1, h2 (.ref a) (upd F a (.lst vs)) H ⟨?_, R.bh, fun b o e => ?_, fun b o e => ?_, fun _ => R.rv.tt.freeze q2⟩ ?_⟩
    · exact R.zf.trans (same_upd q3)
    · by_cases z : b = a
      · subst z; rw [upd_same] at e; cases e; exact q2
      · rw [upd_ne z] at e; exact R.rv.fh b o e
    · by_cases z : b = a
      · subst z; exact .inr hb
      · rw [upd_ne z] at e; exact R.nb b o e
    · simp only [Rep]
      exact ⟨a, vs, rfl, upd_same, q4.mono (same_upd q3)⟩
def eIxO (i : Nat) (fi : FE) : FE := fun τ => (ownAt τ i).bind fun ds => (fi τ).bind fun k => match k with
  | .int k => match atI ds k with
    | some d => .ok d
    | none => .no
  | _ => .no
theorem atI_reps {K : PySem.W.Frag} {F : Hp} {ds : List D} {vs : List V} {k : Int} {d : D} (r : Reps K F ds vs) (h : atI ds k = some d) : ∃ v, atI vs k = some v ∧ Rep K F d v := by
  unfold atI at h ⊢
  rw [← r.length]
  cases q : ixN ds.length k with
  | none => rw [q] at h; cases h
  | some j =>
    rw [q] at h
    exact r.get h
theorem pde_ixO {i : Nat} {x : Str} {p1 : Pos} {ix : Expr} {fi : FE} (hx : PE X (.Name x p1) (tVar i)) (hi : PDE X ix fi) (hs : PlainIx ix := by intro _ _; rfl) : PDE X (.Subscript (.Name x p1) ix pos) (eIxO i fi) :=
  PE.imp (pe_ix ix_list hx hi hs) fun σ H Q ⟨F, τ, R, h⟩ => by
    obtain ⟨ds, h1, h2⟩ := ownAt_ok (X := X) (Ok.bind h)
    obtain ⟨a, vs, q1, q2, q3, q4⟩ := R.own i ds h1
    refine ⟨_, q1, ?_⟩
    refine tE.of R h2.bind fun k w F2 H2 g2 x2 R2 r2 => ?_
    cases k with
    | int k =>
      simp only [Rep] at r2
      simp only at g2
      cases q : atI ds k with
      | none => rw [q] at g2; exact g2.elim
      | some d =>
        rw [q] at g2
        obtain ⟨v, z1, z2⟩ := atI_reps q4 q
        exact ⟨a, vs, k, v, rfl, r2, SqL.of (x2.hh _ _ q2), z1, g2 v F2 H2 x2 (z2.mono x2.ff)⟩
    | _ => exact g2.elim
def eLenO (i : Nat) : FE := fun τ => (ownAt τ i).bind fun ds => .ok (.int ds.length)
theorem pde_lenO {i : Nat} {x : Str} {p1 p : Pos} (hx : PE X (.Name x p1) (tVar i)) (hg : Gl X "len") (hm : X.mg "len" = none)
    (he : starEach [.Name x p1] X.env = [(false, eval (.Name x p1) X.env)] := by rfl) (hpl : (backTo pos (starEach [] X.env)).any (·.1) = false := by rfl) : PDE X (.Call (.Name "len" p) [.Name x p1] [] pos) (eLenO i) :=
  PE.imp (pe_callB call_len_seq hg hm PySem.boot_len (pa_cons hx pa_nil (by rw [he]; rfl)) (he := by rw [he]; rfl) (hpl := hpl)) fun σ H Q ⟨F, τ, R, h⟩ => by
    obtain ⟨ds, h1, h2⟩ := ownAt_ok (X := X) (Ok.bind h)
    obtain ⟨a, vs, q1, q2, q3, q4⟩ := R.own i ds h1
    refine ⟨_, q1, a, vs, rfl, .inl (SqL.of q2), ?_⟩
    rw [← q4.length]
    exact h2 (.int ds.length) F H (Ext.refl R.fh) (by simp only [Rep])
def sAug (i : Nat) (op : D → D → Rs D) (fe : FE) : FS := fun τ => Fl.of (eVar i τ) fun x => Fl.of (fe τ) fun y => Fl.of (op x y) fun z => .nx (τ.set i (some (.val z)))
theorem eVar_ok {τ : DS} {i : Nat} {P : D → Prop} (h : Ok X (eVar i τ) P) : ∃ d, τ[i]? = some (some (.val d)) ∧ P d := by
  unfold eVar at h
  cases q : τ[i]? with
  | none => rw [q] at h; exact h.elim
  | some o =>
    cases o with
    | none => rw [q] at h; exact h.elim
    | some sl =>
      cases sl with
      | own d => rw [q] at h; exact h.elim
      | obj n c fs => rw [q] at h; exact h.elim
      | obr c fs => rw [q] at h; exact h.elim
      | val ds => rw [q] at h; exact ⟨ds, rfl, h⟩
theorem pds_aug {i : Nat} {x : Str} {op : Operator} {od : D → D → Rs D} {r : TIp} {pos' : Pos} (hN : X.N.Nodup) (hi : X.N[i]? = some x) (hx : Loc X.env.scope x) (he : PDE X e fe) (ho : PIp X op r)
    (hl : ∀ F H x y dx dy Q, Same F H → Rep X.K F dx x → Rep X.K F dy y → Ok X (od dx dy) (Ev X.K F H Q) → r x y H Q)
    (hf : X.fn x = true ∨ X.env.scope.names.lookup x = some .local := by first | exact .inl rfl | exact .inr rfl | assumption) : PDS X (.AugAssign (.Name x pos') op e pos) (sAug i od fe) :=
  PS.imp (ps_aug hN hi hx he ho hf) fun E σ H ⟨B, Z, F, τ, R, h⟩ => by
    obtain ⟨d, h1, h2⟩ := eVar_ok (X := X) (Post.of h)
    obtain ⟨v, q1, q2⟩ := R.rv.val i d h1
    refine ⟨v, q1, tE.at R h2.of fun y w F1 H1 g x1 R1 r1 => ?_⟩
    refine hl F1 H1 v w d y _ R1.rv.fh (q2.mono x1.ff) r1 (g.of.imp fun z gz u F2 H2 x2 r2 => ?_)
    exact gz _ F2 H2 (x1.ff.trans x2.ff) ((R1.ext x2).set r2)
end
end FD
set_option Elab.async false
set_option linter.all false
set_option maxRecDepth 100000
namespace FD
open PySem PySem.Spec PyProof.Rows L2
variable [Tabs]
def ItOk (K : PySem.W.Frag) (J : It) (F1 : Hp) (ds : List D) : Prop := ∀ (i : Nat) (F H : Hp), Same F1 F → Same F H →
  (ds.length ≤ i → J.stop i H) ∧ ∀ d, ds[i]? = some d → J.go i H ∧ ∀ x H', J.yld i H x H' → ∃ F', Ext F H F' H' ∧ Rep K F' d x
def tI (X : Cx) (f : FA) : TI := fun σ H R => ∃ F τ, RV X.K F τ σ H ∧ Ok X (f τ) fun ds => ∀ J F1 H1, Ext F H F1 H1 → ItOk X.K J F1 ds → R J H1
def PDI (X : Cx) (tg iter : Expr) (f : FA) : Prop := PI X tg iter (tI X f)
theorem _root_.L2.PI.imp {X : Cx} {tg e : Expr} {t t' : TI} (h : PI X tg e t) (f : ∀ σ H Q, t' σ H Q → t σ H Q) : PI X tg e t' := fun pins s σ H Q I q => h pins s σ H Q I (f _ _ _ q)
section
variable {X : Cx} {pos : Pos} {e tg : Expr} {es : List Expr} {fe : FE} {fs : FA}
theorem it_list {K : PySem.W.Frag} {a : Addr} {F1 : Hp} {ds : List D} {vs : List V} (e : SqL K F1 a vs) (r : Reps K F1 ds vs) : ItOk K (Itl K a) F1 ds := fun i F H f1 f2 => by
  have q : SqL K H a vs := (f1.trans f2).seq e
  refine ⟨fun h => ⟨vs, q, by rw [← r.length]; exact h⟩, fun d hd => ?_⟩
  obtain ⟨v, h1, h2⟩ := r.get hd
  refine ⟨⟨vs, v, q, h1⟩, fun x H' y => ?_⟩
  obtain ⟨e1, y⟩ := y
  subst e1
  have h3 := y vs q
  rw [h1] at h3; cases h3
  exact ⟨F, Ext.refl f2, h2.mono f1⟩
theorem it_tup {K : PySem.W.Frag} {a : Addr} {F1 : Hp} {ds : List D} {vs : List V} (e : SqT K F1 a vs) (r : Reps K F1 ds vs) : ItOk K (Itt K a) F1 ds := fun i F H f1 f2 => by
  have q : SqT K H a vs := Same.seqT (f1.trans f2) e
  refine ⟨fun h => ⟨vs, q, by rw [← r.length]; exact h⟩, fun d hd => ?_⟩
  obtain ⟨v, h1, h2⟩ := r.get hd
  refine ⟨⟨vs, v, q, h1⟩, fun x H' y => ?_⟩
  obtain ⟨e1, y⟩ := y
  subst e1
  have h3 := y vs q
  rw [h1] at h3; cases h3
  exact ⟨F, Ext.refl f2, h2.mono f1⟩
def rngD (lo : Int) (n : Nat) : List D := (List.range n).map fun (k : Nat) => D.int (lo + k)
theorem it_rng {K : PySem.W.Frag} {F1 : Hp} {lo : Int} {n : Nat} : ItOk K (Itr lo n) F1 (rngD lo n) := fun i F H f1 f2 => by
  have hl : (rngD lo n).length = n := by simp [rngD]
  refine ⟨fun h => by rw [hl] at h; exact h, fun d hd => ?_⟩
  have hi : i < n := by have := (List.getElem?_eq_some_iff.mp hd).1; rw [hl] at this; exact this
  refine ⟨hi, fun x H' y => ?_⟩
  obtain ⟨e1, y⟩ := y
  subst e1
  refine ⟨F, Ext.refl f2, ?_⟩
  simp [rngD, hi] at hd
  subst hd
  simp only [Rep]; exact y
def int1 : List D → Option Int
  | [.int j] => some j
  | _ => none
def int2 : List D → Option (Int × Int)
  | [.int i, .int j] => some (i, j)
  | _ => none
def pair2 : D → Option (D × D)
  | .tup [x, y] => some (x, y)
  | _ => none
theorem int1_eq {ds : List D} {j : Int} (h : int1 ds = some j) : ds = [.int j] := by
  unfold int1 at h; split at h <;> cases h; rfl
theorem int2_eq {ds : List D} {i j : Int} (h : int2 ds = some (i, j)) : ds = [.int i, .int j] := by
  unfold int2 at h; split at h <;> cases h; rfl
theorem pair2_eq {d x y : D} (h : pair2 d = some (x, y)) : d = .tup [x, y] := by
  unfold pair2 at h; split at h <;> cases h; rfl
def iRg1 (fs : FA) : FA := fun τ => (fs τ).bind fun ds => match int1 ds with
  | some j => if -(2 ^ 62) ≤ j ∧ j < 2 ^ 62 then .ok (rngD 0 j.toNat) else .no
  | none => .no
theorem pdi_range1 {a : Expr} {p : Pos} (hg : Gl X "range") (hm : X.mg "range" = none) (ha : PDA X [a] fs) (hs : starEach [a] X.env = [(false, eval a X.env)] := by rfl) : PDI X tg (.Call (.Name "range" p) [a] [] pos) (iRg1 fs) :=
  PI.imp (pi_range1 hg hm ha hs) fun σ H R ⟨F, τ, Rv, h⟩ => tAs.of Rv h.bind fun ds vs F1 H1 g x R1 r => by
    cases q1 : int1 ds with
    | none => rw [q1] at g; exact g.elim
    | some j =>
      rw [q1] at g
      have e := int1_eq q1
      subst e
      obtain ⟨v, rfl, q⟩ := r.one
      simp only [Rep] at q; subst q
      obtain ⟨z, g⟩ := ok_ite g
      exact ⟨j, rfl, z.1, z.2, g _ F1 H1 x it_rng⟩
def iRg2 (fs : FA) : FA := fun τ => (fs τ).bind fun ds => match int2 ds with
  | some (i, j) => if (-(2 ^ 62) ≤ i ∧ i < 2 ^ 62) ∧ -(2 ^ 62) ≤ j ∧ j < 2 ^ 62 then .ok (rngD i (j - i).toNat) else .no
  | none => .no
abbrev FG := D → DS → Rs DS
def tG (X : Cx) (set : FG) : TG := fun v σ H Q => ∃ F τ d, RV X.K F τ σ H ∧ Rep X.K F d v ∧ Ok X (set d τ) fun τ' => ∀ σ', RV X.K F τ' σ' H → (∀ B Z, RS X.K B Z F τ σ H → RS X.K B Z F τ' σ' H) → σ'.length = σ.length → Q σ' H
def PDG (X : Cx) (tg : Expr) (set : FG) : Prop := PG X tg (tG X set)
theorem _root_.L2.PG.imp {X : Cx} {e : Expr} {t t' : TG} (h : PG X e t) (f : ∀ v σ H Q, t' v σ H Q → t v σ H Q) : PG X e t' := fun pins s σ H v u Q I r q => h pins s σ H v u Q I r (f _ _ _ _ q)
def gNm (i : Nat) : FG := fun d τ => .ok (τ.set i (some (.val d)))
theorem pdg_name {i : Nat} {x : Str} (hN : X.N.Nodup) (hi : X.N[i]? = some x) (hx : Loc X.env.scope x) (hf : X.fn x = true ∨ X.env.scope.names.lookup x = some .local := by first | exact .inl rfl | exact .inr rfl | assumption) : PDG X (.Name x pos) (gNm i) :=
  PG.imp (pg_name hN hi hx hf) fun v σ H Q ⟨F, τ, d, R, r, h⟩ => h _ (R.set r) (fun B Z R' => R'.set r) (by simp)
def gPr (i j : Nat) : FG := fun d τ => match pair2 d with
  | some (x, y) => .ok ((τ.set i (some (.val x))).set j (some (.val y)))
  | none => .no
theorem pdg_pair {i j k : Nat} {x y : Str} {px py : Pos} (hc : X.calm = true) (hN : X.N.Nodup) (hi : X.N[i]? = some x) (hx : Loc X.env.scope x) (hj : X.N[j]? = some y) (hy : Loc X.env.scope y)
    (hf : X.fn x = true ∨ X.env.scope.names.lookup x = some .local := by first | exact .inl rfl | exact .inr rfl | assumption) (hf' : X.fn y = true ∨ X.env.scope.names.lookup y = some .local := by first | exact .inl rfl | exact .inr rfl | assumption) :
    PDG X (.Tuple [.Name x px, .Name y py] k pos) (gPr i j) :=
  PG.imp (pg_tup (n := 2) hc (pgs_cons (pg_name hN hi hx hf) (pgs_cons (pg_name hN hj hy hf') pgs_nil))) fun v σ H Q ⟨F, τ, d, R, r, h⟩ => by
    unfold gPr at h
    cases q1 : pair2 d with
    | none => rw [q1] at h; exact h.elim
    | some xy =>
      obtain ⟨x, y⟩ := xy
      rw [q1] at h
      have e := pair2_eq q1
      subst e
      simp only [Rep] at r
      obtain ⟨a, vs, rfl, q, t⟩ := r
      obtain ⟨v1, v2, rfl, r1, r2⟩ := t.two
      exact ⟨a, _, rfl, Same.seqT R.fh q, rfl, v1, [v2], rfl, v2, [], rfl, rfl, h _ ((R.set r1).set r2) (fun B Z R' => (R'.set r1).set r2) (by simp)⟩
def loopD (set : FG) (body : FS) : List D → DS → Fl
  | [], τ => .nx τ
  | d :: r, τ => Fl.of (set d τ) fun τ1 => match body τ1 with
    | .nx τ' => loopD set body r τ'
    | .ct τ' => loopD set body r τ'
    | .bk τ' => .nx τ'
    | .rt d => .rt d
    | .ro d τ' => .ro d τ'
    | .rb d τ' => .rb d τ'
    | .ex c => .ex c
    | .no => .no
    | .rs c τ' => .rs c τ'
def sFor (fi : FA) (set : FG) (body : FS) : FS := fun τ => Fl.of (fi τ) fun ds => loopD set body ds τ
theorem pds_for {iter : Expr} {body : List Stmt} {fi : FA} {set : FG} {fb : FS} (hp : PassesOwn (model X.prog X.w) X.A X.env X.xe) (hc : X.calm = true) (hi : PDI X tg iter fi) (hg : PDG X tg set) (hb : PDSs X body fb)
    (hs : ∀ x, foldedSetIterable iter X.env x = pure x := by intro _; rfl) : PDS X (.For tg iter body [] pos) (sFor fi set fb) :=
  PS.imp (ps_for hp hc hi hg hb hs) fun E σ H ⟨B, Z, F, τ, R, h⟩ => by
    refine ⟨F, τ, R.rv, h.of.imp fun ds g J F1 H1 x io => ?_⟩
    refine ⟨fun i m σ H => m = ds.length - i ∧ i ≤ ds.length ∧ ∃ F' τ', Same F1 F' ∧ RS X.K B Z F' τ' σ H ∧ Post X B Z F' E (loopD set fb (ds.drop i) τ'), ⟨ds.length, by simp, Nat.zero_le _, F1, τ, Same.refl _, R.ext x, g.same x.ff⟩, ?_⟩
    rintro i m σ2 H2 ⟨rfl, hi, F2, τ2, f2, R2, p2⟩
    obtain ⟨i1, i2⟩ := io i F2 H2 f2 R2.rv.fh
    by_cases hlt : i < ds.length
    · have hd : ds.drop i = ds[i] :: ds.drop (i + 1) := List.drop_eq_getElem_cons hlt
      rw [hd] at p2
      obtain ⟨go, yl⟩ := i2 ds[i] (by simp [hlt])
      refine .inr ⟨go, fun σ' H' => ∃ F' τ', Same F2 F' ∧ RS X.K B Z F' τ' σ' H' ∧ Post X B Z F' E (loopD set fb (ds.drop (i + 1)) τ'), fun σ' H' ⟨F', τ', a, b, c⟩ => ⟨ds.length - (i + 1), by omega, rfl, hlt, F', τ', f2.trans a, b, c⟩, fun y H' yy => ?_⟩
      obtain ⟨F3, x3, r3⟩ := yl y H' yy
      have R3 := R2.ext x3
      refine ⟨F3, τ2, ds[i], R3.rv, r3, (Post.of p2).imp fun τ4 p4 σ4 _ R4 _ => ⟨B, Z, F3, τ4, R4 B Z R3, ?_⟩⟩
      cases q : fb τ4 with
      | nx τ5 => rw [q] at p4; exact fun σ' F' H' ff RR => ⟨F', τ5, x3.ff.trans ff, RR, Post.same p4 (x3.ff.trans ff)⟩
      | ct τ5 => rw [q] at p4; exact fun σ' F' H' ff RR => ⟨F', τ5, x3.ff.trans ff, RR, Post.same p4 (x3.ff.trans ff)⟩
      | bk τ5 => rw [q] at p4; exact fun σ' F' H' ff RR => p4 σ' F' H' (x3.ff.trans ff) RR
      | rt d => rw [q] at p4; exact p4
      | ro d τ' => rw [q] at p4; exact fun v σ' F' H' ff RR rr => p4 v σ' F' H' (x3.ff.trans ff) RR rr
      | rb d τ' => rw [q] at p4; exact fun v σ' F' H' ff RR rr => p4 v σ' F' H' (x3.ff.trans ff) RR rr
      | ex c => rw [q] at p4; exact p4
      | no => rw [q] at p4; exact p4
      | rs c τ5 => rw [q] at p4; exact fun σ' F' H' ff RR => p4 σ' F' H' (x3.ff.trans ff) RR
    · have e : i = ds.length := by omega
      subst e
      rw [List.drop_length] at p2
      exact .inl ⟨i1 (Nat.le_refl _), p2 σ2 F2 H2 (Same.refl _) R2⟩
end
def noEx (r : Rs D) : Rs D := match r with
  | .ok d => .ok d
  | _ => .no
def spD (K : PySem.W.Frag) (n : Nat) (g : List D → Rs D) : Sp := fun vs H Q E => vs.length = n ∧ ∃ ds F, Same F H ∧ TbT F H ∧ Reps K F ds vs ∧ match g ds with
  | .ok d => Ev K F H Q d
  | _ => False
def startD (N : Nat) (ds : List D) : DS := ds.map (fun d => some (.val d)) ++ List.replicate (N - ds.length) none
def flRes : Fl → Rs D
  | .rt d => .ok d
  | .ro d _ => .ok d
  | .nx _ => .ok .non
  | .rs c _ => .ex c
  | _ => .no
def runF (N : Nat) (fb : FS) (ds : List D) : Rs D := flRes (fb (startD N ds))
theorem rv_start {K : PySem.W.Frag} {F H : Hp} {N : List Str} {ds : List D} {vs : List V} (fh : Same F H) (tt : TbT F H) (r : Reps K F ds vs) : RS K H F F (startD N.length ds) (L2.start N vs) H := by
  have hl := r.length
  have hval : ∀ (i : Nat) (o : Sl), (startD N.length ds)[i]? = some (some o) → ∃ d, ds[i]? = some d ∧ o = .val d := fun i o h => by
    unfold startD at h
    by_cases hi : i < ds.length
    · rw [List.getElem?_append_left (by simpa using hi), List.getElem?_map] at h
      cases e : ds[i]? with
      | none => rw [e] at h; cases h
      | some d => rw [e] at h; cases h; exact ⟨d, rfl, rfl⟩
    · rw [List.getElem?_append_right (by simpa using hi), List.getElem?_replicate] at h
      split at h <;> cases h
  refine ⟨⟨fh, ?_, fun i d h => ?_, fun i es h => ?_, fun i j es es' a _ h1 _ _ _ => ?_, tt, ObsOk.none fun i s h => ?_⟩, Hh.refl H, Same.refl F, fun a o e => .inl e, fun i es a h1 _ => ?_, fun i m c fs a h1 _ => ?_, fun a0 dx _ _ j m c fs h1 => ?_, fun j c fs a h1 _ => ?_⟩
  · simp [startD, L2.start, hl]
  · obtain ⟨d', h1, h2⟩ := hval i _ h
    cases h2
    obtain ⟨v, q1, q2⟩ := r.get h1
    refine ⟨v, ?_, q2⟩
    have hi : i < vs.length := (List.getElem?_eq_some_iff.mp q1).1
    unfold L2.start
    rw [List.getElem?_append_left (by simpa using hi), List.getElem?_map, q1]; rfl
  · obtain ⟨_, _, h2⟩ := hval i _ h; cases h2
  · obtain ⟨_, _, h2⟩ := hval i _ h1; cases h2
  · cases s with
    | none => rfl
    | some o => obtain ⟨_, _, h2⟩ := hval i _ h; rw [h2]; rfl
  · obtain ⟨_, _, h2⟩ := hval i _ h1; cases h2
  · obtain ⟨_, _, h2⟩ := hval i _ h1; cases h2
  · obtain ⟨_, _, h2⟩ := hval j _ h1; cases h2
  · obtain ⟨_, _, h2⟩ := hval j _ h1; cases h2
section
variable {P : Program} {w : World} {K : PySem.W.Frag} {mg : Str → Option Value} {base : Heap}
theorem fnD {x qual : Str} {st : Stmt} {f : Addr} {fd : FuncData} {N ps : List Str} {k n : Nat} {fb : FS} (F : Fun K x qual st f fd) (S : FnScope N ps (defScope st)) (hn : ps.length = n)
    (hbody : ∀ (cdv : Value) (A : Around) (outer : List Env) (s : Shared) (H : Hp) (E : XK), Room k (A.deeper (envOfC qual (defScope st) s.heap.objs.size f cdv)) →
      PDSs (cxOf CX0 P w K mg base N qual (defScope st) f cdv A outer s H E).nox (defBody st) fb) : FnOk P w K mg base CX0 (k + 1) f fd ps (spD K n (runF N.length fb)) := by
  refine F.ok S (fun vs H Q E h => by rw [hn]; exact h.1) fun cdv A outer s H vs Q E hr h => ⟨_, hbody cdv A outer s H E hr, ?_⟩
  obtain ⟨hl, ds, Fz, fh, tt, r, h⟩ := h
  refine ⟨H, Fz, Fz, startD N.length ds, rv_start fh tt r, ?_⟩
  unfold runF at h
  cases q : fb (startD N.length ds) with
  | nx τ => rw [q] at h; exact fun σ F' H' ff RR => h .non F' H' RR.out (by simp only [Rep])
  | rt d => rw [q] at h; exact fun v F' H' x rr => h v F' H' x rr
  | ro d τ => rw [q] at h; exact fun v σ F' H' ff RR rr => h v F' H' RR.out rr
  | rb d τ => rw [q] at h; exact h.elim
  | bk τ => rw [q] at h; exact h.elim
  | ct τ => rw [q] at h; exact h.elim
  | ex c => rw [q] at h; exact h.elim
  | no => rw [q] at h; exact h.elim
  | rs c τ => rw [q] at h; exact h.elim
theorem FnD.to {CX : CXT} {f : Addr} {fd : FuncData} {ps : List Str} {k n : Nat} {g g' : List D → Rs D} (F : FnOk P w K mg base CX k f fd ps (spD K n g)) (h : ∀ ds d, ds.length = n → g' ds = .ok d → g ds = .ok d) : FnOk P w K mg base CX k f fd ps (spD K n g') :=
  F.imp fun vs H Q E ⟨hl, ds, Fz, fh, tt, r, q⟩ => ⟨hl, ds, Fz, fh, tt, r, by
    cases e : g' ds with
    | ok d => rw [e] at q; rw [h ds d (by rw [r.length]; exact hl) e]; exact q
    | ex c => rw [e] at q; exact q.elim
    | no => rw [e] at q; exact q.elim⟩
end
section
variable {X : Cx} {pos : Pos} {e tg : Expr} {es : List Expr} {fe : FE} {fs : FA}
def eCall (g : List D → Rs D) (fs : FA) : FE := fun τ => (fs τ).bind fun ds => noEx (g ds)
theorem pde_call {k n : Nat} {f : Addr} {fd : FuncData} {ps : List Str} {g : List D → Rs D} {x : Str} {p : Pos} (F : FnOk X.prog X.w X.K X.mg X.base CX0 k f fd ps (spD X.K n g)) (hr : Room k X.A) (hg : Gl X x) (hm : X.mg x = some (.ref f)) (hk : PySem.W.keepIn X.K (.ref f) = true) (hb : Binds X.K fd ps [])
    (ha : PDA X (e :: es) fs) (hn : (e :: es).length = n) (hfs : ∀ τ ds, fs τ = .ok ds → ds.length = (e :: es).length) (hdb : (x == ("__debug__" : Str)) = false := by decide) (he : starEach (e :: es) X.env = (false, eval e X.env) :: starEach es X.env := by rfl) (hpl : (backTo pos (starEach es X.env)).any (·.1) = false := by rfl) :
    PDE X (.Call (.Name x p) (e :: es) [] pos) (eCall g fs) :=
  PE.imp (pe_call F hr hg hm hk hb .nil (E := E0) pass0 ha hdb he hpl) fun σ H Q ⟨Fz, τ, R, h⟩ => by
    have hb := h.bind
    refine ⟨Fz, τ, R, ?_⟩
    cases q : fs τ with
    | no => rw [q] at hb; exact hb
    | ex c => rw [q] at hb; exact hb
    | ok ds =>
      rw [q] at hb
      intro vs F1 H1 x r
      rw [List.append_nil]
      refine ⟨by rw [← r.length, hfs τ ds q, hn], ds, F1, x.fh, x.tt R.tt, r, ?_⟩
      have hb : Ok X (noEx (g ds)) (Ev X.K Fz H Q) := hb
      cases z : g ds with
      | ok d => rw [z] at hb; exact Ev.ext hb x
      | ex c => rw [z] at hb; exact hb.elim
      | no => rw [z] at hb; exact hb.elim
theorem aNil_len (τ : DS) (ds : List D) (h : aNil τ = .ok ds) : ds.length = 0 := by cases h; rfl
theorem aCons_len {f : FE} {g : FA} {n : Nat} (hg : ∀ τ ds, g τ = .ok ds → ds.length = n) (τ : DS) (ds : List D) (h : aCons f g τ = .ok ds) : ds.length = n + 1 := by
  unfold aCons at h
  cases q : f τ with
  | no => rw [q] at h; cases h
  | ex c => rw [q] at h; cases h
  | ok d =>
    rw [q] at h
    cases q2 : g τ with
    | no => rw [q2] at h; cases h
    | ex c => rw [q2] at h; cases h
    | ok r => rw [q2] at h; cases h; simp [hg τ r q2]
def CallD (X : Cx) (f : Value) (g : List D → Rs D) : Prop := ∃ r, CallR X f r ∧ ∀ F H vs ds Q, Same F H → Reps X.K F ds vs → Ok X (g ds) (Ev X.K F H Q) → r vs H Q
def eBlt (g : List D → Rs D) (fs : FA) : FE := fun τ => (fs τ).bind g
theorem pde_callB {id : String} {x : Str} {p : Pos} {g : List D → Rs D} (hc : CallD X (.builtin id) g) (hg : Gl X x) (hm : X.mg x = none) (hv : bootBuiltins x = some (.builtin id)) (ha : PDA X (e :: es) fs) (hn : x ≠ "__name__" := by decide) (hdb : (x == ("__debug__" : Str)) = false := by decide)
    (he : starEach (e :: es) X.env = (false, eval e X.env) :: starEach es X.env := by rfl) (hpl : (backTo pos (starEach es X.env)).any (·.1) = false := by rfl) : PDE X (.Call (.Name x p) (e :: es) [] pos) (eBlt g fs) := by
  obtain ⟨r, h1, h2⟩ := hc
  exact PE.imp (L2.pe_callB h1 hg hm hv ha hn hdb he hpl) fun σ H Q ⟨Fz, τ, R, h⟩ => tAs.of R h.bind fun ds vs F1 H1 q x R1 rr => h2 F1 H1 vs ds Q R1.fh rr (q.imp fun d e => e.ext x)
def IxD (X : Cx) (op : D → D → Rs D) : Prop := ∃ r : R2, IxR X r ∧ ∀ F H x y dx dy Q, Same F H → Rep X.K F dx x → Rep X.K F dy y → Ok X (op dx dy) (Ev X.K F H Q) → r x y H Q
theorem pde_ix {a b : Expr} {fa fb : FE} {op : D → D → Rs D} (hr : IxD X op) (ha : PDE X a fa) (hb : PDE X b fb) (hs : PlainIx b := by intro _ _; rfl) : PDE X (.Subscript a b pos) (eOp op fa fb) := by
  obtain ⟨r, h1, h2⟩ := hr
  exact PE.imp (pe_ix h1 ha hb hs) (op_of h2)
def ixD : D → D → Rs D
  | .lst ds, .int k => match atI ds k with
    | some d => .ok d
    | none => .no
  | .tup ds, .int k => match atI ds k with
    | some d => .ok d
    | none => .no
  | .scr ns, .int k => match atI ns k with
    | some d => .ok (.int d)
    | none => .no
  | .str x, .int k => match atI x.cps.toList k with
    | some c => if x.length ≤ sizeLine then .ok (.str ⟨#[c]⟩) else .no
    | none => .no
  | _, _ => .no
theorem atI_map {α β : Type} {f : α → β} {xs : List α} {k : Int} {a : α} (h : atI xs k = some a) : atI (xs.map f) k = some (f a) := by
  unfold atI at h ⊢
  rw [List.length_map]
  cases q : ixN xs.length k with
  | none => rw [q] at h; cases h
  | some j =>
    rw [q] at h
    have h : xs[j]? = some a := h
    show (xs.map f)[j]? = _
    rw [List.getElem?_map, h]; rfl
theorem ix_ok : IxD X ixD := ⟨_, ix_seq, fun F H x y dx dy Q fh r1 r2 h => by
  cases dx with
  | lst ds =>
    cases dy with
    | int k =>
      simp only [Rep] at r1 r2; obtain ⟨a, vs, rfl, q, t⟩ := r1; subst r2
      (delta ixD at h; dsimp only at h)
      cases z : atI ds k with
      | none => rw [z] at h; exact h.elim
      | some d =>
        rw [z] at h
        obtain ⟨v, z1, z2⟩ := atI_reps t z
        exact .inl ⟨a, vs, k, v, rfl, rfl, SqL.of (fh _ _ q), z1, h v F H (Ext.refl fh) z2⟩
    | _ => exact h.elim
  | tup ds =>
    cases dy with
    | int k =>
      simp only [Rep] at r1 r2; obtain ⟨a, vs, rfl, q, t⟩ := r1; subst r2
      (delta ixD at h; dsimp only at h)
      cases z : atI ds k with
      | none => rw [z] at h; exact h.elim
      | some d =>
        rw [z] at h
        obtain ⟨v, z1, z2⟩ := atI_reps t z
        exact .inr (.inl ⟨a, vs, k, v, rfl, rfl, Same.seqT fh q, z1, h v F H (Ext.refl fh) z2⟩)
    | _ => exact h.elim
  | scr ns =>
    cases dy with
    | int k =>
      simp only [Rep] at r1 r2; obtain ⟨a, rfl, q⟩ := r1; subst r2
      (delta ixD at h; dsimp only at h)
      cases z : atI ns k with
      | none => rw [z] at h; exact h.elim
      | some d =>
        rw [z] at h
        exact .inl ⟨a, _, k, .int d, rfl, rfl, fh.seq q, atI_map z, h (.int d) F H (Ext.refl fh) (by simp only [Rep])⟩
    | _ => exact h.elim
  | str x =>
    cases dy with
    | int k =>
      simp only [Rep] at r1 r2; subst r1; subst r2
      (delta ixD at h; dsimp only at h)
      cases z : atI x.cps.toList k with
      | none => rw [z] at h; exact h.elim
      | some c =>
        rw [z] at h
        obtain ⟨z2, h⟩ := ok_ite h
        exact .inr (.inr ⟨x, k, c, rfl, rfl, z2, z, h _ F H (Ext.refl fh) (by simp only [Rep])⟩)
    | _ => exact h.elim
  | _ => cases dy <;> exact h.elim⟩
end
end FD
set_option Elab.async false
set_option linter.all false
set_option maxRecDepth 100000
namespace FD
open PySem PySem.Spec PyProof.Rows L2
variable [Tabs]
mutual
def toPy : D → PyData
  | .non => .none
  | .bl b => .bool b
  | .int i => .int i
  | .str x => .str x
  | .lst ds => .list (toPys ds)
  | .tup ds => .tuple (toPys ds)
  | .scr ns => .list (ns.map .int)
  | .raw _ => .none
  | .exc _ => .none
  | .dct _ _ => .none
def toPys : List D → List PyData
  | [] => []
  | d :: r => toPy d :: toPys r
end
mutual
def plainD : D → Bool
  | .lst ds => plainDs ds
  | .tup ds => plainDs ds
  | .raw _ => false
  | .exc _ => false
  | .dct _ _ => false
  | _ => true
def plainDs : List D → Bool
  | [] => true
  | d :: r => plainD d && plainDs r
end
theorem readsAll_ints {h : Heap} : ∀ {ns : List Int} {us : List Value}, Vals (ns.map V.int) us → ReadsAll h us (ns.map .int) []
  | [], _, .nil => .nil
  | n :: ns, _, .cons r t => by
    obtain ⟨tk, rfl⟩ := r
    exact .cons (as := []) (bs := []) (.int n tk) (readsAll_ints t)
section
variable {X : Cx} {pins : List (Addr × Obj)} {σ : St} {F H : Hp} {s : Shared}
mutual
theorem reads_of (I : Inv X pins σ H s) (fh : Same F H) : ∀ (d : D) {v : V} {u : Value}, Rep X.K F d v → RelV v u → plainD d = true → ∃ as, Reads s.heap u (toPy d) as
  | .non, v, u, r, rv, _ => by simp only [Rep] at r; subst r; cases rv; exact ⟨[], .none⟩
  | .bl b, v, u, r, rv, _ => by simp only [Rep] at r; subst r; cases rv; exact ⟨[], .bool b⟩
  | .int i, v, u, r, rv, _ => by simp only [Rep] at r; subst r; obtain ⟨t, rfl⟩ := rv; exact ⟨[], .int i t⟩
  | .str x, v, u, r, rv, _ => by simp only [Rep] at r; subst r; obtain ⟨t, rfl⟩ := rv; exact ⟨[], .str x t⟩
  | .lst ds, v, u, r, rv, hp => by
    simp only [Rep] at r; obtain ⟨a, vs, rfl, q, t⟩ := r
    cases rv
    obtain ⟨its, rr, ⟨o, n, e, c, _, dd⟩, _⟩ := I.list (SqL.of (K := X.K) (fh _ _ q))
    obtain ⟨as, ra⟩ := readss_of I fh ds t rr (by simpa only [plainD] using hp)
    exact ⟨a :: as, by rw [toPy]; exact .list e c dd (by simpa using ra)⟩
  | .tup ds, v, u, r, rv, hp => by
    simp only [Rep] at r; obtain ⟨a, vs, rfl, q, t⟩ := r
    cases rv
    obtain ⟨its, rr, ⟨o, e, c, n, dd⟩, _⟩ := I.tuple (Same.seqT fh q)
    obtain ⟨as, ra⟩ := readss_of I fh ds t rr (by simpa only [plainD] using hp)
    exact ⟨as, by rw [toPy]; exact .tuple e c dd (by simpa using ra)⟩
  | .scr ns, v, u, r, rv, hp => by
    simp only [Rep] at r; obtain ⟨a, rfl, q⟩ := r
    cases rv
    obtain ⟨its, rr, ⟨o, n, e, c, _, dd⟩, _⟩ := I.list (fh.seq q)
    exact ⟨[a], by rw [toPy]; exact .list e c dd (by simpa using readsAll_ints rr)⟩
  | .raw w, v, u, r, rv, hp => by simp [plainD] at hp
  | .exc w, v, u, r, rv, hp => by simp [plainD] at hp
  | .dct _ _, v, u, r, rv, hp => by simp [plainD] at hp
theorem readss_of (I : Inv X pins σ H s) (fh : Same F H) : ∀ (ds : List D) {vs : List V} {us : List Value}, Reps X.K F ds vs → Vals vs us → plainDs ds = true → ∃ as, ReadsAll s.heap us (toPys ds) as
  | [], vs, us, r, rv, _ => by simp only [Reps] at r; subst r; cases rv; exact ⟨[], by rw [toPys]; exact .nil⟩
  | d :: ds, vs, us, r, rv, hp => by
    simp only [Reps] at r
    obtain ⟨v, r', rfl, q, t⟩ := r
    simp only [plainDs, Bool.and_eq_true] at hp
    cases rv with
    | cons r1 r2 =>
      obtain ⟨as, h1⟩ := reads_of I fh d q r1 hp.1
      obtain ⟨bs, h2⟩ := readss_of I fh ds t r2 hp.2
      exact ⟨as ++ bs, by rw [toPys]; exact .cons h1 h2⟩
end
end
def okD (d : D) : Bool := plainD d && (toPy d).canLay0 && decide ((toPy d).depth ≤ 60)
theorem okD_iff {d : D} (h : okD d = true) : plainD d = true ∧ (toPy d).canLay0 = true ∧ (toPy d).depth ≤ 60 := by
  simpa [okD, and_assoc] using h
def eqvD (d e : D) : Bool := PyData.eqv (toPy d) (toPy e)
def eqD : D → D → Rs D
  | .str x, .str y => .ok (.bl (x == y))
  | .int x, .int y => .ok (.bl (x == y))
  | d, e => if okD d = true ∧ okD e = true then .ok (.bl (eqvD d e)) else .no
def neD : D → D → Rs D
  | .str x, .str y => .ok (.bl (!(x == y)))
  | .int x, .int y => .ok (.bl (!(x == y)))
  | d, e => if okD d = true ∧ okD e = true then .ok (.bl (!eqvD d e)) else .no
section
variable {X : Cx}
def rDeep (K : PySem.W.Frag) (b : D → D → Bool) : R2 := fun x y H Q => ∃ F d e, Same F H ∧ Rep K F d x ∧ Rep K F e y ∧ okD d = true ∧ okD e = true ∧ Q (.bl (b d e)) H
theorem op_eqDeep (hu : X.A.units + 64 < cLine) : OpR X (compareOp .Eq) (rDeep X.K eqvD) := by
  intro pins s σ H x y v u Q I rx ry h
  obtain ⟨F, d, e, fh, r1, r2, o1, o2, q⟩ := h
  obtain ⟨p1, c1, e1⟩ := okD_iff o1
  obtain ⟨p2, c2, e2⟩ := okD_iff o2
  obtain ⟨as, h1⟩ := reads_of I fh d r1 rx p1
  obtain ⟨bs, h2⟩ := reads_of I fh e r2 ry p2
  exact SeqAt.compareEq_reads h1 h2 c1 c2 (by omega) ⟨.bl _, H, I, rfl, q⟩
theorem op_neDeep (hu : X.A.units + 64 < cLine) : OpR X (compareOp .NotEq) (rDeep X.K fun d e => !eqvD d e) := by
  intro pins s σ H x y v u Q I rx ry h
  obtain ⟨F, d, e, fh, r1, r2, o1, o2, q⟩ := h
  obtain ⟨p1, c1, e1⟩ := okD_iff o1
  obtain ⟨p2, c2, e2⟩ := okD_iff o2
  obtain ⟨as, h1⟩ := reads_of I fh d r1 rx p1
  obtain ⟨bs, h2⟩ := reads_of I fh e r2 ry p2
  exact SeqAt.compareNe_reads h1 h2 c1 c2 (by omega) ⟨.bl _, H, I, rfl, q⟩
theorem opd_eq (hu : X.A.units + 64 < cLine) : OpD X (compareOp .Eq) eqD := ⟨_, op_eq.or (op_eqDeep hu), fun F H x y dx dy Q fh r1 r2 h => by
  have gen : (Ok X (if okD dx = true ∧ okD dy = true then .ok (.bl (eqvD dx dy)) else .no) (Ev X.K F H Q)) → rEq x y H Q ∨ rDeep X.K eqvD x y H Q := fun h => by
    obtain ⟨z, h⟩ := ok_ite h
    exact .inr ⟨F, dx, dy, fh, r1, r2, z.1, z.2, h _ F H (Ext.refl fh) (by simp only [Rep])⟩
  cases dx with
  | str a =>
    cases dy with
    | str b =>
      simp only [Rep] at r1 r2; subst r1; subst r2
      exact .inl ⟨rfl, by rw [dec_str]; exact h _ F H (Ext.refl fh) (by simp only [Rep])⟩
    | _ => exact gen h
  | int a =>
    cases dy with
    | int b =>
      simp only [Rep] at r1 r2; subst r1; subst r2
      exact .inl ⟨rfl, by rw [dec_int]; exact h _ F H (Ext.refl fh) (by simp only [Rep])⟩
    | _ => exact gen h
  | _ => exact gen h⟩
theorem opd_ne (hu : X.A.units + 64 < cLine) : OpD X (compareOp .NotEq) neD := ⟨_, op_ne.or (op_neDeep hu), fun F H x y dx dy Q fh r1 r2 h => by
  have gen : (Ok X (if okD dx = true ∧ okD dy = true then .ok (.bl (!eqvD dx dy)) else .no) (Ev X.K F H Q)) → rNe x y H Q ∨ rDeep X.K (fun d e => !eqvD d e) x y H Q := fun h => by
    obtain ⟨z, h⟩ := ok_ite h
    exact .inr ⟨F, dx, dy, fh, r1, r2, z.1, z.2, h _ F H (Ext.refl fh) (by simp only [Rep])⟩
  cases dx with
  | str a =>
    cases dy with
    | str b =>
      simp only [Rep] at r1 r2; subst r1; subst r2
      exact .inl ⟨rfl, by rw [dec_str]; exact h _ F H (Ext.refl fh) (by simp only [Rep])⟩
    | _ => exact gen h
  | int a =>
    cases dy with
    | int b =>
      simp only [Rep] at r1 r2; subst r1; subst r2
      exact .inl ⟨rfl, by rw [dec_int]; exact h _ F H (Ext.refl fh) (by simp only [Rep])⟩
    | _ => exact gen h
  | _ => exact gen h⟩
def intOp (C : Int → Int → Bool) (g : Int → Int → D) : D → D → Rs D
  | .int i, .int j => if C i j = true then .ok (g i j) else .no
  | _, _ => .no
theorem opd_int {f : Value → Value → Sem Value} {C' : Int → Int → Prop} {C : Int → Int → Bool} {gv : Int → Int → V} {g : Int → Int → D} (h : OpR X f (rI C' gv)) (hc : ∀ i j, C i j = true → C' i j) (hg : ∀ F i j, Rep X.K F (g i j) (gv i j)) : OpD X f (intOp C g) :=
  ⟨_, h, fun F H x y dx dy Q fh r1 r2 q => by
    cases dx with
    | int i =>
      cases dy with
      | int j =>
        simp only [Rep] at r1 r2; subst r1; subst r2
        obtain ⟨z, q⟩ := ok_ite q
        exact ⟨i, j, rfl, rfl, hc i j z, q _ F H (Ext.refl fh) (hg F i j)⟩
      | _ => exact q.elim
    | _ => cases dy <;> exact q.elim⟩
def intOp0 (g : Int → Int → D) : D → D → Rs D
  | .int i, .int j => .ok (g i j)
  | _, _ => .no
theorem opd_int0 {f : Value → Value → Sem Value} {gv : Int → Int → V} {g : Int → Int → D} (h : OpR X f (rI0 gv)) (hg : ∀ F i j, Rep X.K F (g i j) (gv i j)) : OpD X f (intOp0 g) :=
  ⟨_, h, fun F H x y dx dy Q fh r1 r2 q => by
    cases dx with
    | int i =>
      cases dy with
      | int j =>
        simp only [Rep] at r1 r2; subst r1; subst r2
        exact ⟨i, j, rfl, rfl, q _ F H (Ext.refl fh) (hg F i j)⟩
      | _ => exact q.elim
    | _ => cases dy <;> exact q.elim⟩
def subD := intOp0 fun i j => .int (i - j)
theorem opd_sub : OpD X (binaryOp .Sub) subD := opd_int0 op_sub fun _ _ _ => by simp only [Rep]
def modD := intOp (fun _ j => decide (0 < j)) fun i j => .int (i % j)
theorem opd_mod : OpD X (binaryOp .Mod) modD := opd_int op_mod (fun i j h => by simpa using h) fun _ _ _ => by simp only [Rep]
def fdivD := intOp (fun _ j => decide (0 < j ∧ j < 1073741824)) fun i j => .int (i / j)
theorem opd_fdiv : OpD X (binaryOp .FloorDiv) fdivD := opd_int op_fdiv (fun i j h => by have h' : 0 < j ∧ j < 1073741824 := of_decide_eq_true h; exact h') fun _ _ _ => by simp only [Rep]
def ltI := intOp0 fun i j => .bl (decide (i < j))
def leD := intOp0 fun i j => .bl (decide (i ≤ j))
def gtD := intOp0 fun i j => .bl (decide (j < i))
def geD := intOp0 fun i j => .bl (decide (j ≤ i))
theorem opd_lt : OpD X (compareOp .Lt) ltI := opd_int0 op_lt fun _ _ _ => by simp only [Rep]
theorem opd_le : OpD X (compareOp .LtE) leD := opd_int0 op_le fun _ _ _ => by simp only [Rep]
theorem opd_gt : OpD X (compareOp .Gt) gtD := opd_int0 op_gt fun _ _ _ => by simp only [Rep]
theorem opd_ge : OpD X (compareOp .GtE) geD := opd_int0 op_ge fun _ _ _ => by simp only [Rep]
def addD : D → D → Rs D
  | .int i, .int j => .ok (.int (i + j))
  | .str i, .str j => if i.length + j.length ≤ sizeLine then .ok (.str (i ++ j)) else .no
  | .lst i, .lst j => if i.length + j.length ≤ sizeLine then .ok (.lst (i ++ j)) else .no
  | _, _ => .no
theorem opd_add : OpD X (binaryOp .Add) addD := ⟨_, op_add.or (op_add_str.or op_cat), fun F H x y dx dy Q fh r1 r2 q => by
  cases dx with
  | int i =>
    cases dy with
    | int j =>
      simp only [Rep] at r1 r2; subst r1; subst r2
      exact .inl ⟨i, j, rfl, rfl, q _ F H (Ext.refl fh) (by simp only [Rep])⟩
    | _ => exact q.elim
  | str i =>
    cases dy with
    | str j =>
      simp only [Rep] at r1 r2; subst r1; subst r2
      obtain ⟨z, q⟩ := ok_ite q
      exact .inr (.inl ⟨i, j, rfl, rfl, z, q _ F H (Ext.refl fh) (by simp only [Rep])⟩)
    | _ => exact q.elim
  | lst i =>
    cases dy with
    | lst j =>
      simp only [Rep] at r1 r2
      obtain ⟨a, vs, rfl, e1, t1⟩ := r1
      obtain ⟨b, ws, rfl, e2, t2⟩ := r2
      obtain ⟨z, q⟩ := ok_ite q
      refine .inr (.inr ⟨a, b, vs, ws, rfl, rfl, fh _ _ e1, fh _ _ e2, by rw [← t1.length, ← t2.length]; exact z, fun p hp => q _ _ _ (Ext.new fh hp) ?_⟩)
      simp only [Rep]
      exact ⟨p, vs ++ ws, rfl, upd_same, (t1.append t2).mono (same_upd (none_of_same fh hp))⟩
    | _ => exact q.elim
  | _ => cases dy <;> exact q.elim⟩
def mulD : D → D → Rs D
  | .int i, .int j => if (-(18446744073709551616) < i ∧ i < 18446744073709551616) ∨ (-(18446744073709551616) < j ∧ j < 18446744073709551616) then .ok (.int (i * j)) else .no
  | .lst i, .int k => if k < 16777216 ∧ -16777216 < k ∧ i.length * k.toNat ≤ sizeLine then .ok (.lst (List.replicate k.toNat i).flatten) else .no
  | _, _ => .no
theorem opd_mul : OpD X (binaryOp .Mult) mulD := ⟨_, op_mul.or op_rep, fun F H x y dx dy Q fh r1 r2 q => by
  cases dx with
  | int i =>
    cases dy with
    | int j =>
      simp only [Rep] at r1 r2; subst r1; subst r2
      obtain ⟨z, q⟩ := ok_ite q
      refine .inl ⟨i, j, rfl, rfl, ?_, q _ F H (Ext.refl fh) (by simp only [Rep])⟩
      unfold CMul
      rcases z with z | z
      · exact .inl (by omega)
      · exact .inr (by omega)
    | _ => exact q.elim
  | lst i =>
    cases dy with
    | int k =>
      simp only [Rep] at r1 r2
      obtain ⟨a, vs, rfl, e1, t1⟩ := r1
      subst r2
      obtain ⟨z, q⟩ := ok_ite q
      refine .inr ⟨a, k, vs, rfl, rfl, fh _ _ e1, by omega, by omega, by rw [← t1.length]; exact z.2.2, fun p hp => q _ _ _ (Ext.new fh hp) ?_⟩
      simp only [Rep]
      exact ⟨p, _, rfl, upd_same, (t1.rep k.toNat).mono (same_upd (none_of_same fh hp))⟩
    | _ => exact q.elim
  | _ => cases dy <;> exact q.elim⟩
def strIn (i j : Str) : Bool := !(Builtin.Str.occurrences j i 0 j.length 1).isEmpty
def inD : D → D → Rs D
  | .str i, .str j => .ok (.bl (strIn i j))
  | d, .lst xs => if okD d = true ∧ okD (.lst xs) = true then .ok (.bl (xs.any fun y => eqvD y d)) else .no
  | d, .tup xs => if okD d = true ∧ okD (.tup xs) = true then .ok (.bl (xs.any fun y => eqvD y d)) else .no
  | _, _ => .no
def negD (r : D) : Rs D := match r with
  | .bl b => .ok (.bl (!b))
  | _ => .no
def notInD (d e : D) : Rs D := (inD d e).bind negD
theorem toPys_map : ∀ xs : List D, toPys xs = xs.map toPy
  | [] => rfl
  | d :: r => by rw [toPys, toPys_map r, List.map_cons]
theorem any_toPys (xs : List D) (d : D) : ((toPys xs).any fun y => PyData.eqv y (toPy d)) = xs.any fun y => eqvD y d := by
  rw [toPys_map, List.any_map]; rfl
def rInD (K : PySem.W.Frag) (neg : Bool) : R2 := fun x y H Q => ∃ F d e xs, Same F H ∧ Rep K F d x ∧ Rep K F e y ∧ okD d = true ∧ okD e = true ∧ (e = .lst xs ∨ e = .tup xs) ∧ Q (.bl (if neg then !(xs.any fun y => eqvD y d) else xs.any fun y => eqvD y d)) H
theorem op_inDeep (hu : X.A.units + 128 < cLine) : OpR X (compareOp .In) (rInD X.K false) := by
  intro pins s σ H x y v u Q I rx ry h
  obtain ⟨F, d, e, xs, fh, r1, r2, o1, o2, he, q⟩ := h
  obtain ⟨p1, c1, e1⟩ := okD_iff o1
  obtain ⟨p2, c2, e2⟩ := okD_iff o2
  obtain ⟨as, h1⟩ := reads_of I fh d r1 rx p1
  obtain ⟨bs, h2⟩ := reads_of I fh e r2 ry p2
  rcases he with rfl | rfl
  · rw [toPy] at h2 c2 e2
    refine SeqAt.in_list_reads h2 h1 (by simpa only [PyData.canLay0] using c2) c1 (by omega) ⟨.bl _, H, I, rfl, ?_⟩
    rw [any_toPys]; exact q
  · rw [toPy] at h2 c2 e2
    refine SeqAt.in_tuple_reads h2 h1 (by simpa only [PyData.canLay0] using c2) c1 (by omega) ⟨.bl _, H, I, rfl, ?_⟩
    rw [any_toPys]; exact q
theorem op_notInDeep (hu : X.A.units + 128 < cLine) : OpR X (compareOp .NotIn) (rInD X.K true) := by
  intro pins s σ H x y v u Q I rx ry h
  obtain ⟨F, d, e, xs, fh, r1, r2, o1, o2, he, q⟩ := h
  obtain ⟨p1, c1, e1⟩ := okD_iff o1
  obtain ⟨p2, c2, e2⟩ := okD_iff o2
  obtain ⟨as, h1⟩ := reads_of I fh d r1 rx p1
  obtain ⟨bs, h2⟩ := reads_of I fh e r2 ry p2
  rcases he with rfl | rfl
  · rw [toPy] at h2 c2 e2
    refine SeqAt.notIn_list_reads h2 h1 (by simpa only [PyData.canLay0] using c2) c1 (by omega) ⟨.bl _, H, I, rfl, ?_⟩
    rw [any_toPys]; exact q
  · rw [toPy] at h2 c2 e2
    refine SeqAt.notIn_tuple_reads h2 h1 (by simpa only [PyData.canLay0] using c2) c1 (by omega) ⟨.bl _, H, I, rfl, ?_⟩
    rw [any_toPys]; exact q
theorem opd_in (hu : X.A.units + 128 < cLine) : OpD X (compareOp .In) inD := ⟨_, op_in_str.or (op_inDeep hu), fun F H x y dx dy Q fh r1 r2 q => by
  cases dy with
  | lst xs =>
    have q' : Ok X (if okD dx = true ∧ okD (.lst xs) = true then .ok (.bl (xs.any fun y => eqvD y dx)) else .no) (Ev X.K F H Q) := by cases dx <;> exact q
    obtain ⟨z, q⟩ := ok_ite q'
    exact .inr ⟨F, dx, _, xs, fh, r1, r2, z.1, z.2, .inl rfl, q _ F H (Ext.refl fh) (by simp only [Rep]; rfl)⟩
  | tup xs =>
    have q' : Ok X (if okD dx = true ∧ okD (.tup xs) = true then .ok (.bl (xs.any fun y => eqvD y dx)) else .no) (Ev X.K F H Q) := by cases dx <;> exact q
    obtain ⟨z, q⟩ := ok_ite q'
    exact .inr ⟨F, dx, _, xs, fh, r1, r2, z.1, z.2, .inr rfl, q _ F H (Ext.refl fh) (by simp only [Rep]; rfl)⟩
  | str j =>
    cases dx with
    | str i =>
      simp only [Rep] at r1 r2; subst r1; subst r2
      exact .inl ⟨i, j, rfl, rfl, q _ F H (Ext.refl fh) (by simp only [Rep, strIn])⟩
    | _ => exact q.elim
  | _ => cases dx <;> exact q.elim⟩
theorem opd_notIn (hu : X.A.units + 128 < cLine) : OpD X (compareOp .NotIn) notInD := ⟨_, op_notin_str.or (op_notInDeep hu), fun F H x y dx dy Q fh r1 r2 q => by
  have q := Ok.bind q
  cases dy with
  | lst xs =>
    have q' : Ok X (if okD dx = true ∧ okD (.lst xs) = true then .ok (.bl (xs.any fun y => eqvD y dx)) else .no) (fun r => Ok X (negD r) (Ev X.K F H Q)) := by cases dx <;> exact q
    obtain ⟨z, q⟩ := ok_ite q'
    exact .inr ⟨F, dx, _, xs, fh, r1, r2, z.1, z.2, .inl rfl, q _ F H (Ext.refl fh) (by simp only [Rep]; rfl)⟩
  | tup xs =>
    have q' : Ok X (if okD dx = true ∧ okD (.tup xs) = true then .ok (.bl (xs.any fun y => eqvD y dx)) else .no) (fun r => Ok X (negD r) (Ev X.K F H Q)) := by cases dx <;> exact q
    obtain ⟨z, q⟩ := ok_ite q'
    exact .inr ⟨F, dx, _, xs, fh, r1, r2, z.1, z.2, .inr rfl, q _ F H (Ext.refl fh) (by simp only [Rep]; rfl)⟩
  | str j =>
    cases dx with
    | str i =>
      simp only [Rep] at r1 r2; subst r1; subst r2
      exact .inl ⟨i, j, rfl, rfl, q _ F H (Ext.refl fh) (by simp only [Rep, strIn])⟩
    | _ => exact q.elim
  | _ => cases dx <;> exact q.elim⟩
def eNeg (fa : FE) : FE := fun τ => (fa τ).bind fun d => match d with
  | .int i => .ok (.int (-i))
  | _ => .no
theorem pde_neg {a : Expr} {pos : Pos} {fa : FE} (ha : PDE X a fa) : PDE X (.UnaryOp .USub a pos) (eNeg fa) :=
  PE.imp (pe_un un_neg ha) fun σ H Q ⟨F, τ, R, h⟩ => tE.of R h.bind fun d v F1 H1 g x R1 r => by
    cases d with
    | int i => simp only [Rep] at r; exact ⟨i, r, g _ F1 H1 x (by simp only [Rep])⟩
    | _ => exact g.elim
end
end FD
set_option Elab.async false
set_option linter.all false
set_option maxRecDepth 100000
namespace FD
open PySem PySem.Spec PyProof.Rows L2
variable [Tabs]
def closStep (env : Env) (cs : List (Str × Addr)) (y : Str × NameKind) : List (Str × Addr) := if y.2 == NameKind.free then (y.1, (env.cells.lookup y.1).getD 0) :: cs else cs
def closOf (scope : Scope) (env : Env) : List (Str × Addr) := scope.names.foldl (closStep env) []
theorem closureFor_eq {scope : Scope} {env : Env} (h : ∀ y ∈ scope.names, y.2 = .free → (env.cells.lookup y.1).isSome = true) : closureFor scope env = pure (closOf scope env) := by
  unfold closureFor closOf
  generalize scope.names = names at h
  have gen : ∀ (cs : List (Str × Addr)), (forIn names cs fun x r => (do
      if (x.2 == NameKind.free) = true then do
        let c ← cellOf env x.1
        pure PUnit.unit
        pure (ForInStep.yield ((x.1, c) :: r))
      else do
        pure PUnit.unit
        pure (ForInStep.yield r)) : Sem (List (Str × Addr))) = pure (names.foldl (closStep env) cs) := by
    induction names with
    | nil => intro cs; rfl
    | cons y r ih =>
      intro cs
      rw [List.forIn_cons, List.foldl_cons]
      by_cases hk : y.2 = .free
      · obtain ⟨c, hc⟩ := Option.isSome_iff_exists.mp (h y List.mem_cons_self hk)
        have e : closStep env cs y = (y.1, c) :: cs := by simp [closStep, hk, hc]
        rw [e, ← ih (fun z hz => h z (List.mem_cons_of_mem _ hz))]
        simp only [hk, beq_self_eq_true, if_true, cellOf, hc]
        rfl
      · have hb : (y.2 == NameKind.free) = false := by simpa using hk
        have e : closStep env cs y = cs := by simp [closStep, hb]
        rw [e, ← ih (fun z hz => h z (List.mem_cons_of_mem _ hz))]
        simp only [hb, Bool.false_eq_true, if_false]
        rfl
  show ((forIn names ([] : List (Str × Addr)) fun x r => (do
      if (x.2 == NameKind.free) = true then do
        let c ← cellOf env x.1
        pure PUnit.unit
        pure (ForInStep.yield ((x.1, c) :: r))
      else do
        pure PUnit.unit
        pure (ForInStep.yield r)) : Sem (List (Str × Addr))) >>= fun s => pure s) = _
  rw [gen []]
  rfl
theorem clos_lookup {env : Env} {x : Str} : ∀ {names : List (Str × NameKind)} {cs : List (Str × Addr)} {c : Addr}, (names.foldl (closStep env) cs).lookup x = some c → cs.lookup x = some c ∨ (∃ y ∈ names, y.1 = x ∧ y.2 = .free ∧ c = (env.cells.lookup x).getD 0)
  | [], cs, c, h => .inl h
  | y :: r, cs, c, h => by
    rw [List.foldl_cons] at h
    rcases clos_lookup h with q | ⟨z, hz, e⟩
    · by_cases hk : y.2 = .free
      · have e : closStep env cs y = (y.1, (env.cells.lookup y.1).getD 0) :: cs := by simp [closStep, hk]
        rw [e, List.lookup_cons] at q
        by_cases hx : x = y.1
        · subst hx
          simp at q
          exact .inr ⟨y, List.mem_cons_self, rfl, hk, q.symm⟩
        · have hb : (x == y.1) = false := by simpa using hx
          rw [hb] at q
          exact .inl q
      · have hb : (y.2 == NameKind.free) = false := by simpa using hk
        have e : closStep env cs y = cs := by simp [closStep, hb]
        rw [e] at q
        exact .inl q
    · exact .inr ⟨z, List.mem_cons_of_mem _ hz, e⟩
theorem clos_has {env : Env} {x : Str} : ∀ {names : List (Str × NameKind)} {cs : List (Str × Addr)}, ((∃ y ∈ names, y.1 = x ∧ y.2 = .free) ∨ ∃ c, cs.lookup x = some c) → ∃ c, (names.foldl (closStep env) cs).lookup x = some c
  | [], cs, h => by
    rcases h with ⟨y, hy, _⟩ | h
    · cases hy
    · exact h
  | y :: r, cs, h => by
    rw [List.foldl_cons]
    refine clos_has ?_
    by_cases hk : y.2 = .free
    · have e : closStep env cs y = (y.1, (env.cells.lookup y.1).getD 0) :: cs := by simp [closStep, hk]
      rw [e]
      by_cases hx : x = y.1
      · subst hx; exact .inr ⟨(env.cells.lookup y.1).getD 0, by rw [List.lookup_cons]; simp⟩
      · have hb : (x == y.1) = false := by simpa using hx
        rcases h with ⟨z, hz, e1, e2⟩ | ⟨c, hc⟩
        · rcases List.mem_cons.mp hz with rfl | hz
          · exact absurd e1.symm hx
          · exact .inl ⟨z, hz, e1, e2⟩
        · exact .inr ⟨c, by rw [List.lookup_cons, hb]; exact hc⟩
    · have hb : (y.2 == NameKind.free) = false := by simpa using hk
      have e : closStep env cs y = cs := by simp [closStep, hb]
      rw [e]
      rcases h with ⟨z, hz, e1, e2⟩ | h
      · rcases List.mem_cons.mp hz with rfl | hz
        · exact absurd e2 hk
        · exact .inl ⟨z, hz, e1, e2⟩
      · exact .inr h
def _root_.L2.Cx.comp (X : Cx) (scope : Scope) (N : List Str) (s : Shared) (H : Hp) (C : Addr) (fp : List Addr) : Cx :=
  { prog := X.prog, w := X.w, K := X.K, mg := X.mg, base := X.base, A := X.A, N := N, s₀ := s, H₀ := H, env := compEnvC scope (closOf scope X.env) C X.env, outer := X.stack, stack := X.stack, ex := fp, fn := fun _ => false, calm := X.calm, pn := [], xe := fun _ _ => False }
structure CompScope (X : Cx) (scope : Scope) : Prop where
  kind : scope.kind = .function
  nocell : ∀ y ∈ scope.names, y.2 ≠ .cell
  locs : ∀ y ∈ scope.names, y.2 = .local → scope.names.lookup y.1 = some .local
  free : ∀ y ∈ scope.names, y.2 = .free → X.env.kindOf y.1 = some .cell ∨ X.env.kindOf y.1 = some .free
theorem lookup_relabel_free {env : Env} : ∀ {names : List (Str × NameKind)} {x : Str}, ((names.map fun (n, k) => if (k == NameKind.free && env.scope.kind == .function && env.kindOf n == some .cell) then (n, NameKind.cell) else (n, k)).lookup x = some .cell ∨
      (names.map fun (n, k) => if (k == NameKind.free && env.scope.kind == .function && env.kindOf n == some .cell) then (n, NameKind.cell) else (n, k)).lookup x = some .free) → (∀ y ∈ names, y.2 ≠ .cell) → ∃ y ∈ names, y.1 = x ∧ y.2 = .free
  | [], _, h, _ => by rcases h with h | h <;> simp at h
  | (n, k) :: r, x, h, hc => by
    have hr : ∀ y ∈ r, y.2 ≠ .cell := fun y hy => hc y (List.mem_cons_of_mem _ hy)
    rw [List.map_cons] at h
    by_cases hx : x = n
    · subst hx
      by_cases hk : k = .free
      · exact ⟨_, List.mem_cons_self, rfl, hk⟩
      · have hb : (k == NameKind.free) = false := by simpa using hk
        have hck : k ≠ .cell := hc (x, k) List.mem_cons_self
        simp only [hb, Bool.false_and, Bool.false_eq_true, if_false, List.lookup_cons, beq_self_eq_true] at h
        rcases h with h | h
        · exact absurd (Option.some.inj h) hck
        · exact absurd (Option.some.inj h) hk
    · have hb : (x == n) = false := by simpa using hx
      have step : ∀ q : Str × NameKind, q.1 = n → ((q :: (r.map fun (n, k) => if (k == NameKind.free && env.scope.kind == .function && env.kindOf n == some .cell) then (n, NameKind.cell) else (n, k))).lookup x) = ((r.map fun (n, k) => if (k == NameKind.free && env.scope.kind == .function && env.kindOf n == some .cell) then (n, NameKind.cell) else (n, k)).lookup x) := fun q hq => by
        obtain ⟨q1, q2⟩ := q
        simp only at hq
        subst hq
        rw [List.lookup_cons, hb]
      have h' : ((r.map fun (n, k) => if (k == NameKind.free && env.scope.kind == .function && env.kindOf n == some .cell) then (n, NameKind.cell) else (n, k)).lookup x = some .cell ∨ (r.map fun (n, k) => if (k == NameKind.free && env.scope.kind == .function && env.kindOf n == some .cell) then (n, NameKind.cell) else (n, k)).lookup x = some .free) := by
        rcases h with h | h
        · left; exact (step _ (by show (if (k == NameKind.free && env.scope.kind == .function && env.kindOf n == some .cell) = true then (n, NameKind.cell) else (n, k)).1 = n; split <;> rfl)).symm.trans h
        · right; exact (step _ (by show (if (k == NameKind.free && env.scope.kind == .function && env.kindOf n == some .cell) = true then (n, NameKind.cell) else (n, k)).1 = n; split <;> rfl)).symm.trans h
      obtain ⟨y, hy, e⟩ := lookup_relabel_free h' hr
      exact ⟨y, List.mem_cons_of_mem _ hy, e⟩
theorem relabel_free {env : Env} : ∀ {names : List (Str × NameKind)} {x : Str}, names.lookup x = some .free → ¬ (names.map fun (n, k) => if (k == NameKind.free && env.scope.kind == .function && env.kindOf n == some .cell) then (n, NameKind.cell) else (n, k)).lookup x = some .local
  | [], _, h => by simp at h
  | (n, k) :: r, x, h => by
    rw [List.map_cons]
    show ¬ List.lookup x ((if (k == NameKind.free && env.scope.kind == .function && env.kindOf n == some .cell) = true then (n, NameKind.cell) else (n, k)) :: _) = _
    rw [List.lookup_cons] at h
    by_cases hx : x = n
    · subst hx
      simp only [beq_self_eq_true] at h
      have hk : k = .free := Option.some.inj h
      subst hk
      split <;> simp [List.lookup_cons]
    · have hb : (x == n) = false := by simpa using hx
      rw [hb] at h
      split
      · rw [List.lookup_cons, hb]; exact relabel_free h
      · rw [List.lookup_cons, hb]; exact relabel_free h
section
variable {X : Cx} {scope : Scope} {N' : List Str}
theorem comp_cell (S : CompScope X scope) (ok : X.Ok) {x : Str} {c : Addr} (h : (closOf scope X.env).lookup x = some c) : X.env.cells.lookup x = some c := by
  rcases clos_lookup h with q | ⟨y, hy, e1, e2, e3⟩
  · simp at q
  · subst e1
    obtain ⟨c', hc'⟩ := ok.has y.1 (S.free y hy e2)
    rw [hc'] at e3 ⊢
    rw [e3]; rfl
theorem comp_inv {pins : List (Addr × Obj)} {σ σ' : St} {H : Hp} {s : Shared} {h1 : Heap} {fp : List Addr} {t : Nat} (S : CompScope X scope) (I : Inv X pins σ H s) (hfp : ∀ b ∈ fp, FpOk X pins H b) (hlt : ∀ b ∈ fp, b < s.heap.objs.size)
    (hn : h1.Ns s.heap.objs.size fun _ => none) (hsb : ∀ b o, s.heap.get? b = some o → h1.get? b = some o) (hl : σ'.length = N'.length)
    (hσ : ∀ (i : Nat) (v : V), σ'[i]? = some (some v) → ∃ (x : Str) (j : Nat), N'[i]? = some x ∧ X.N[j]? = some x ∧ σ[j]? = some (some v) ∧ scope.names.lookup x = some .free) :
    Inv (X.comp scope N' s H s.heap.objs.size fp) [] σ' H { s with heap := h1, toks := t } := by
  have hH : H s.heap.objs.size = none := I.hok.fresh (Nat.le_refl _)
  have cl : ∀ {x c}, (closOf scope X.env).lookup x = some c → X.env.cells.lookup x = some c := fun h => comp_cell S I.ok h
  have kept : ∀ {c v}, s.heap.IsCell c v → h1.IsCell c v := fun ⟨o, e, d⟩ => ⟨o, hsb _ o e, d⟩
  refine ⟨⟨I.ok.mod, S.kind, I.ok.glob, I.ok.blt, Nat.le_refl _, fun x y c e1 e2 => I.ok.inj x y c (cl e1) (cl e2), fun x hx => ?_, fun x c hf _ => absurd hf (by simp [Cx.comp]), I.ok.hd, I.ok.frames, .inl rfl, fun b hb => ?_, I.bs, Nat.le_trans I.ok.bsz I.sz, fun b o e hb => ?_, fun b hb hs => ?_, I.stack, I.stkFree⟩,
    I.os.symm ▸ rfl, I.bare, Un.kept hsb, ⟨_, hn, fun i x v e1 e2 e3 => ?_⟩, fun x c e => ?_, hH, fun x c e => I.freeC x c (cl e), fun p hp => absurd (show p ∈ ([] : List (Addr × Obj)) from hp) (by simp), I.hok.kept hsb, hl⟩
  · have hx : (relabel scope X.env).names.lookup x = some .cell ∨ (relabel scope X.env).names.lookup x = some .free := hx
    exact clos_has (.inl (lookup_relabel_free hx S.nocell))
  · have hb : b ∈ fp := hb
    refine ⟨Nat.ne_of_lt (hlt b hb), fun x c e => (hfp b hb).2.2.2.2.1 x c (cl e)⟩
  · have hb : b ∈ fp := hb
    rcases (hfp b hb).2.2.2.1 with z | z
    · exact I.ok.noex b o e z
    · exact absurd (Nat.lt_of_lt_of_le (Heap.lt_size e) (Nat.le_trans I.ok.bsz z)) (Nat.lt_irrefl _)
  · have hb : b ∈ fp := hb
    obtain ⟨_, f1, f2, _⟩ := hfp b hb
    rcases List.mem_cons.mp (I.stkSub b hs) with z | z
    · exact f1 z
    · exact f2 z
  · obtain ⟨x', j, e4, e5, e6, e9⟩ := hσ i v e2
    have hy := PySem.mem_of_lookup e9
    have e1' : N'[i]? = some x := e1
    rw [e1'] at e4; cases e4
    have kd := S.free _ hy rfl
    obtain ⟨m, hm, hl⟩ := I.loc
    obtain ⟨u, ru, lk⟩ := hl j x v e5 e6 (kd.elim (fun z => .inr (.inl z)) fun z => .inr (.inr z))
    refine ⟨u, ru, ?_⟩
    rcases lk with ⟨z, _⟩ | ⟨z, c, hc, hcell⟩
    · rcases kd with k | k <;> rw [k] at z <;> cases z
    · obtain ⟨c', hc'⟩ := clos_has (env := X.env) (names := scope.names) (cs := []) (x := x) (.inl ⟨_, hy, rfl, rfl⟩)
      have := cl hc'
      rw [hc] at this; cases this
      have e3' : (relabel scope X.env).names.lookup x = some .local ∨ (relabel scope X.env).names.lookup x = some .cell ∨ (relabel scope X.env).names.lookup x = some .free := e3
      rcases e3' with q | q | q
      · exact absurd q (relabel_free e9)
      · exact .inr ⟨.inl q, c, hc', kept hcell⟩
      · exact .inr ⟨.inr q, c, hc', kept hcell⟩
  · obtain ⟨v, z⟩ := I.cell x c (cl e)
    exact ⟨v, kept z⟩
end
end FD
set_option Elab.async false
set_option linter.all false
set_option maxRecDepth 100000
namespace FD
open PySem PySem.Spec PyProof.Rows L2
variable [Tabs]
theorem comp_loop {prog : Program} {w : World} {A : Around} {R : Result → Shared → Prop} {s : Shared} {elt target iter : Expr} {ifs : List Expr} {scope : Scope} {pos : Pos} {it acc : Value} {env : Env} (I : Nat → Shared → Prop)
    (turn : ∀ n s, I n s → wpAny (model prog w) A (pyNext it) (fun r s₁ => match r with
      | none => R (.ok .next) s₁
      | some v => wpAny (model prog w) A (letOwnedTupleGo target it v) (fun _ s0 => wpAny (model prog w) A (assign target env v) (fun _ s₂ =>
          wpAny (model prog w) A (forIn ifs true fun c r => if r = true then do let ok ← isTrue c env (eval c env); pure (ForInStep.yield ok) else pure (ForInStep.yield r)) (fun ok s₃ =>
            if ok = true then wpAny (model prog w) A (eval elt env) (fun x s₄ =>
              wpAny (model prog w) A (call (.builtin "list.append") [acc, x]) (fun _ s₅ => ∃ m, m < n ∧ I m s₅) (fun _ _ => False) s₄) (fun _ _ => False) s₃
            else ∃ m, m < n ∧ I m s₃) (fun _ _ => False) s₂) (fun _ _ => False) s0) (fun _ _ => False) s₁) (fun _ _ => False) s)
    (n : Nat) (h : I n s) :
    codeAny (model prog w) A (.compLoop (.ListComp elt [⟨target, iter, ifs, 0⟩] scope pos) 0 it acc env) R s := by
  refine codeAny_loop rfl I (fun n s hI => ?_) n h
  show wpAny _ A ((compTurn (.ListComp elt [⟨target, iter, ifs, 0⟩] scope pos) 0 it acc env).onRaise (fun x => do noteFrame x env; theTreesLotGoes x)) _ _ s
  refine wpAny_noted ?_
  rw [compTurn_list]
  refine wpAny_bind (wpAny_standAt (wpAny_bind (wpAny_mono (turn n s hI) (fun r s₁ h₁ => ?_) fun _ _ h' => h'.elim)))
  cases r with
  | none => exact wpAny_pure h₁
  | some v =>
    refine wpAny_bind (wpAny_mono h₁ (fun _ s0 h0 => ?_) fun _ _ h' => h'.elim)
    refine wpAny_bind (wpAny_mono h0 (fun _ s₂ h₂ => wpAny_bind (wpAny_mono h₂ (fun ok s₃ h₃ => ?_) fun _ _ h' => h'.elim)) fun _ _ h' => h'.elim)
    cases ok with
    | false => exact wpAny_pure ⟨rfl, h₃⟩
    | true =>
      exact wpAny_bind (wpAny_bind (wpAny_mono h₃ (fun x s₄ h₄ => wpAny_bind (wpAny_mono h₄ (fun _ s₅ h₅ => wpAny_pure (wpAny_pure ⟨rfl, h₅⟩)) fun _ _ h' => h'.elim)) fun _ _ h' => h'.elim))
theorem no_tests {M : Model} {A : Around} {env : Env} {Q : Bool → Shared → Prop} {E : Value → Shared → Prop} {s : Shared} (h : Q true s) :
    wpAny M A (forIn ([] : List Expr) true fun c r => if r = true then do let ok ← isTrue c env (eval c env); pure (ForInStep.yield ok) else pure (ForInStep.yield r)) Q E s := wpAny_pure h
theorem one_test {M : Model} {A : Around} {env : Env} {Q : Bool → Shared → Prop} {E : Value → Shared → Prop} {s : Shared} {c : Expr} (h : wpAny M A (isTrue c env (eval c env)) Q E s) :
    wpAny M A (forIn [c] true fun c r => if r = true then do let ok ← isTrue c env (eval c env); pure (ForInStep.yield ok) else pure (ForInStep.yield r)) Q E s := by
  rw [List.forIn_cons]
  simp only [if_true]
  refine wpAny_bind (wpAny_bind (wpAny_mono h (fun b s' q => wpAny_pure ?_) fun _ _ e => e))
  exact wpAny_pure q
def PTs (Y : Cx) (ifs : List Expr) (t : TT) : Prop := ∀ (pins : List (Addr × Obj)) (s : Shared) (σ : St) (H : Hp) (Q : Bool → Hp → Prop), Inv Y pins σ H s → t σ H Q →
  wpAny (model Y.prog Y.w) Y.A (forIn ifs true fun c r => if r = true then do let ok ← isTrue c Y.env (eval c Y.env); pure (ForInStep.yield ok) else pure (ForInStep.yield r)) (TP Y pins σ Q) Y.xe s
theorem pts_nil {Y : Cx} : PTs Y [] (fun _ H Q => Q true H) := fun pins s σ H Q I h => no_tests ⟨H, I, h⟩
theorem pts_one {Y : Cx} {c : Expr} {t : TT} (h : PT Y c t) : PTs Y [c] t := fun pins s σ H Q I q => one_test (h pins s σ H Q I q)
def tComp (s0 : St → St) (wi : TI) (g : TG) (ti : TT) (te : TE) : TE := fun σ H Q => wi σ H fun J H1 => ∀ acc, H1 acc = none → ∃ W : Nat → Nat → St → Hp → Prop, (∃ m, W 0 m (s0 σ) (upd H1 acc (.lst []))) ∧ ∀ i m σ1 H, W i m σ1 H →
  (J.stop i H ∧ Q (.ref acc) H) ∨ (J.go i H ∧ ∀ x H', J.yld i H x H' → g x σ1 H' fun σ2 H2 => ti σ2 H2 fun b H3 =>
    if b = true then te σ2 H3 fun y H4 => ∃ ys, H4 acc = some (.lst ys) ∧ ys.length < sizeLine ∧ ∃ m', m' < m ∧ W (i + 1) m' σ2 (upd H4 acc (.lst (ys ++ [y]))) else ∃ m', m' < m ∧ W (i + 1) m' σ2 H3)
section
variable {X : Cx} {scope : Scope} {N' : List Str} {tg iter elt : Expr} {ifs : List Expr} {pos : Pos} {wi : TI} {g : TG} {ti : TT} {te : TE} {s0 : St → St}
theorem hok_but {P : Program} {w : World} {H : Hp} {h h' : Heap} {C : Addr} (ok : HOk P w H h) (hC : H C = none) (k : ∀ b o, b ≠ C → h.get? b = some o → h'.get? b = some o) : HOk P w H h' := fun b u e => by
  refine (ok b u e).stay (fun c v hc q => k c v ?_ q) (fun _ q => q) fun _ _ q => q
  rintro rfl
  rcases hc with z | z
  · subst z; rw [hC] at e; cases e
  · rw [hC] at z; cases z
theorem comp_block {pins : List (Addr × Obj)} {σ : St} {H : Hp} {s : Shared} {QQ : V → Hp → Prop} {J : It} {fp : List Addr} {it acc : Addr} {tn : Nat → Heap → Prop} {RR : Addr → Result → Shared → Prop} {E : Value → Shared → Prop} {W : Nat → Nat → St → Hp → Prop} {m0 : Nat}
    (S : CompScope X scope) (hc : X.calm = true) (hl : (s0 σ).length = N'.length)
    (hσ : ∀ (i : Nat) (v : V), (s0 σ)[i]? = some (some v) → ∃ (x : Str) (j : Nat), N'[i]? = some x ∧ X.N[j]? = some x ∧ σ[j]? = some (some v) ∧ scope.names.lookup x = some .free)
    (hg : ∀ s H C fp, PG (X.comp scope N' s H C fp) tg g) (ht : ∀ s H C fp, PTs (X.comp scope N' s H C fp) ifs ti) (he : ∀ s H C fp, PE (X.comp scope N' s H C fp) elt te)
    (I : Inv X pins σ H s) (T : Turn X.prog X.w X.K tg J fp it tn) (st : tn 0 s.heap) (hfp : ∀ b ∈ fp, FpOk X pins H b) (hlt : ∀ b ∈ fp, b < s.heap.objs.size) (hacc : acc < s.heap.objs.size)
    (w0 : W 0 m0 (s0 σ) H) (turn : ∀ i m σ1 H, W i m σ1 H → (J.stop i H ∧ QQ (.ref acc) H) ∨ (J.go i H ∧ ∀ x H', J.yld i H x H' → g x σ1 H' fun σ2 H2 => ti σ2 H2 fun b H3 =>
        if b = true then te σ2 H3 fun y H4 => ∃ ys, H4 acc = some (.lst ys) ∧ ys.length < sizeLine ∧ ∃ m', m' < m ∧ W (i + 1) m' σ2 (upd H4 acc (.lst (ys ++ [y]))) else ∃ m', m' < m ∧ W (i + 1) m' σ2 H3))
    (hRR : ∀ s', (∃ m, s'.heap.Ns s.heap.objs.size m) → (∀ h', Heap.SameBut s.heap.objs.size s'.heap h' → EP X pins σ (fun v H' => QQ v H' ∧ H' s.heap.objs.size = none) (.ref acc) { s' with heap := h' }) → RR s.heap.objs.size (.ok .next) s') :
    wpAny (model X.prog X.w) X.A (newFunctionEnv scope X.env.globals (closOf scope X.env) [] X.env.qual none .none (some X.env)) (fun cenv s₄ =>
      codeAny (model X.prog X.w) X.A (.compStart (.ListComp elt [⟨tg, iter, ifs, 0⟩] scope pos) 0 (.ref it) (.ref acc) { cenv with scope := relabel scope X.env }) (RR cenv.locals) s₄) E s := by
  refine wpAny_newFunctionEnv S.nocell (by intro y hy; simp at hy) (fun h1 hns hsb => ?_) S.kind
  have keep3 : ∀ b o, s.heap.get? b = some o → h1.get? b = some o := fun b o e => hsb.extBut b o (Nat.ne_of_lt (Heap.lt_size e)) (Heap.get?_push_of_some _ e)
  have Y0 : Inv (X.comp scope N' s H s.heap.objs.size fp) [] (s0 σ) H { s with heap := h1, toks := s.toks + ([] : List (Str × Value)).length } := comp_inv S I hfp hlt hns keep3 hl hσ
  have fpY : ∀ {H' : Hp}, (∀ b ∈ fp, H' b = none) → ∀ b ∈ fp, FpOk (X.comp scope N' s H s.heap.objs.size fp) [] H' b := fun {H'} hn b hb => by
    obtain ⟨f0, f1, f2, f3, f4, f5⟩ := hfp b hb
    refine ⟨hn b hb, Nat.ne_of_lt (hlt b hb), fun z => ?_, .inl hb, fun x c e => f4 x c (comp_cell S I.ok e), fun p hp => absurd (show p ∈ ([] : List (Addr × Obj)) from hp) (by simp)⟩
    rcases List.mem_cons.mp (I.stkSub b z) with q | q
    · exact f1 q
    · exact f2 q
  have st1 : tn 0 h1 := T.keep _ _ _ st fun b hb o e => keep3 b o e
  have loop : ∀ s3 : Shared, s3 = { s with heap := h1, toks := s.toks + ([] : List (Str × Value)).length } →
      codeAny (model X.prog X.w) X.A (.compLoop (.ListComp elt [⟨tg, iter, ifs, 0⟩] scope pos) 0 (.ref it) (.ref acc) (X.comp scope N' s H s.heap.objs.size fp).env) (RR s.heap.objs.size) s3 := by
    rintro s3 rfl
    refine comp_loop (fun n s' => ∃ i σ' H', Inv (X.comp scope N' s H s.heap.objs.size fp) [] σ' H' s' ∧ tn i s'.heap ∧ (∀ b ∈ fp, H' b = none) ∧ W i n σ' H') ?_ m0 ⟨0, s0 σ, H, Y0, st1, fun b hb => (hfp b hb).1, w0⟩
    rintro n s4 ⟨i, σ4, H4, I4, st4, fr4, w4⟩
    rcases turn i n σ4 H4 w4 with ⟨stop, qn⟩ | ⟨go, step⟩
    · refine thn (T.done (X.comp scope N' s H s.heap.objs.size fp) rfl rfl rfl hc i [] s4 σ4 H4 _ I4 (fpY fr4) st4 stop) fun r s5 ⟨hr, I5⟩ => ?_
      subst hr
      obtain ⟨m5, n5, _⟩ := id I5.loc
      have hC : H4 s.heap.objs.size = none := I5.free
      refine hRR s5 ⟨m5, n5⟩ fun h' sb => ⟨.ref acc, H4, ?_, rfl, qn, hC⟩
      refine I.call' (s' := { s5 with heap := h' }) (ch := fp) I5.os ⟨fun b o e n hb hx => ?_, fun b o e n hb hx => ?_, fun b o e n hx => I5.base.free b o e n hx, fun b o e hx => ?_, I5.base.tups, I5.base.frzs, I5.base.tbls⟩ (hok_but I5.hok hC fun b o hb e => (sb.2 b hb).trans e) I5.bare fun b hb => ?_
      · exact (sb.2 b (Nat.ne_of_lt (Heap.lt_size e))).trans (I5.base.keep b o e n hb hx)
      · obtain ⟨sl, q⟩ := I5.base.slot b o e n hb hx
        exact ⟨sl, (sb.2 b (Nat.ne_of_lt (Heap.lt_size e))).trans q⟩
      · obtain ⟨o', q⟩ := I5.base.there b o e hx
        exact ⟨o', (sb.2 b (Nat.ne_of_lt (Heap.lt_size e))).trans q⟩
      · obtain ⟨f0, f1, f2, f3, f4, f5⟩ := hfp b hb
        exact ⟨f3, f1, f4, f5⟩
    · refine thn (T.item (X.comp scope N' s H s.heap.objs.size fp) rfl rfl rfl hc i [] s4 σ4 H4 _ I4 (fpY fr4) st4 go) fun r s5 ⟨u, hr, h5⟩ => ?_
      subst hr
      refine thn h5 fun _ s6 ⟨x, H6, I6, r6, y6, st6, fr6⟩ => ?_
      have I6' := I6.pinned (fpY fr6) (T.obj _ _ st6)
      refine thn (hg _ _ _ _ _ s6 σ4 H6 x u _ I6' r6 (step x H6 y6)) fun _ s7 ⟨σ7, H7, I7, q7⟩ => ?_
      refine thn (ht _ _ _ _ _ s7 σ7 H7 _ I7 q7) fun ok s8 ⟨H8, I8, q8⟩ => ?_
      have again : ∀ {s9 : Shared} {H9 : Hp} {m' : Nat}, Inv (X.comp scope N' s H s.heap.objs.size fp) ([] ++ pinsAt fp s6.heap) σ7 H9 s9 → m' < n → W (i + 1) m' σ7 H9 → ∃ m, m < n ∧ ∃ i σ' H', Inv (X.comp scope N' s H s.heap.objs.size fp) [] σ' H' s9 ∧ tn i s9.heap ∧ (∀ b ∈ fp, H' b = none) ∧ W i m σ' H' := fun {s9 H9 m'} I9 hm w9 => by
        refine ⟨m', hm, i + 1, σ7, H9, I9.unpinned, T.keep _ _ _ st6 fun b hb o e => (I9.pin (b, o) (List.mem_append_right _ (List.mem_append_right _ (mem_pinsAt hb e)))).1, fun b hb => ?_, w9⟩
        obtain ⟨o, e, d⟩ := T.obj _ _ st6 b hb
        exact (I9.pin (b, o) (List.mem_append_right _ (List.mem_append_right _ (mem_pinsAt hb e)))).2.1
      cases ok with
      | false =>
        rw [if_neg (by simp)] at q8
        obtain ⟨m', hm, w8⟩ := q8
        exact again I8 hm w8
      | true =>
        rw [if_pos rfl] at q8
        refine thn (he _ _ _ _ _ s8 σ7 H8 _ I8 q8) fun y s9 ⟨z, H9, I9, r9, ys, e9, l9, m', hm, w9⟩ => ?_
        refine thn (mt_append _ s9 σ7 H9 (.ref acc) [z] (.ref acc) [y] (fun _ H' => H' = upd H9 acc (.lst (ys ++ [z]))) I9 rfl (.cons r9 .nil) ⟨acc, ys, z, rfl, rfl, e9, l9, rfl⟩) fun _ s10 ⟨_, H10, I10, _, e10⟩ => ?_
        subst e10
        exact again I10 hm w9
  exact codeAny_compStart_list (loop _ rfl) (T.self _ 0 _ _ _ st1 (loop _ rfl))
end
end FD
set_option Elab.async false
set_option linter.all false
set_option maxRecDepth 100000
namespace FD
open PySem PySem.Spec PyProof.Rows L2
variable [Tabs]
section
variable {X : Cx} {scope : Scope} {N' : List Str} {tg iter elt : Expr} {ifs : List Expr} {pos : Pos} {wi : TI} {g : TG} {ti : TT} {te : TE} {s0 : St → St}
theorem fp_lt {pins : List (Addr × Obj)} {σ : St} {H : Hp} {s : Shared} {J : It} {fp : List Addr} {it : Addr} {tn : Nat → Heap → Prop} (T : Turn X.prog X.w X.K tg J fp it tn) (st : tn 0 s.heap) : ∀ b ∈ fp, b < s.heap.objs.size := fun b hb => by
  obtain ⟨o, e, _⟩ := T.obj 0 _ st b hb
  exact Heap.lt_size e
theorem pe_comp (S : CompScope X scope) (hc : X.calm = true) (hl : ∀ σ : St, σ.length = X.N.length → (s0 σ).length = N'.length)
    (hσ : ∀ (σ : St) (i : Nat) (v : V), (s0 σ)[i]? = some (some v) → ∃ (x : Str) (j : Nat), N'[i]? = some x ∧ X.N[j]? = some x ∧ σ[j]? = some (some v) ∧ scope.names.lookup x = some .free)
    (hi : PI X tg iter wi) (hg : ∀ s H C fp, PG (X.comp scope N' s H C fp) tg g) (ht : ∀ s H C fp, PTs (X.comp scope N' s H C fp) ifs ti) (he : ∀ s H C fp, PE (X.comp scope N' s H C fp) elt te)
    (hs : ∀ x, foldedSetIterable iter X.env x = pure x := by intro _; rfl) : PE X (.ListComp elt [⟨tg, iter, ifs, 0⟩] scope pos) (tComp s0 wi g ti te) := by
  intro pins s σ H Q I h
  rw [eval_ListComp]
  have hclos := closureFor_eq (scope := scope) (env := X.env) fun y hy hk => Option.isSome_iff_exists.mpr (I.ok.has y.1 (S.free y hy hk))
  refine wpAny_comprehension_free (use := none) rfl hs hclos S.kind S.locs (thn (hi pins s σ H _ I h) fun x s1 h1 => thn h1 fun itv s2 h2 => ?_)
  obtain ⟨it, fp, tn, J, H2, e, I2, T, st2, f2, hw⟩ := h2
  subst e
  have hf : H2 s2.heap.objs.size = none := I2.hok.fresh (Nat.le_refl _)
  obtain ⟨W, ⟨m0, w0⟩, turn⟩ := hw _ hf
  have hlt := fp_lt (pins := pins) (σ := σ) (H := H2) T st2
  refine wpAny_newObj_type ?_
  have I3 : Inv X pins σ (upd H2 s2.heap.objs.size (.lst [])) { s2 with heap := s2.heap.push { cls := .type "list", dict := none, data := .seq ([] : List Value).toArray } } :=
    I2.laid (t' := s2.toks) (o := .lst []) (fun b u e => Heap.get?_push_of_some _ e) (Nat.le_refl _) ⟨Nat.zero_le _, [], 0, .nil, Heap.get?_push_size _ rfl⟩
  have hsz : s2.heap.objs.size < (s2.heap.push { cls := .type "list", dict := none, data := .seq ([] : List Value).toArray }).objs.size := by rw [Heap.size_push]; exact Nat.lt_succ_self _
  refine comp_block (s0 := s0) (QQ := Q) (W := W) (m0 := m0) S hc (hl σ I2.len) (hσ σ) hg ht he I3 T (T.keep _ _ _ st2 fun b hb o e => Heap.get?_push_of_some _ e) (fun b hb => ?_) (fun b hb => Nat.lt_trans (hlt b hb) hsz) hsz w0 turn fun s' ⟨m, hn⟩ hq => ⟨m, hn, fun h' sb => let ⟨v, H', I', r', q', _⟩ := hq h' sb; ⟨v, H', I', r', q'⟩⟩
  obtain ⟨f0, f1, f2, f3⟩ := f2 b hb
  exact ⟨by rw [upd_ne (Nat.ne_of_lt (hlt b hb))]; exact f0, f1, f2, f3⟩
theorem ps_comp {i : Nat} {y : Str} {py spos : Pos} (hN : X.N.Nodup) (hiN : X.N[i]? = some y) (hy : X.env.scope.names.lookup y = some .local)
    (hsw : swapsWith (.ListComp elt [⟨tg, iter, ifs, 0⟩] scope pos) (some (.Name y py)) spos.line X.env = pure true)
    (S : CompScope X scope) (hc : X.calm = true) (hl : ∀ σ : St, σ.length = X.N.length → (s0 σ).length = N'.length)
    (hσ : ∀ (σ : St) (i : Nat) (v : V), (s0 σ)[i]? = some (some v) → ∃ (x : Str) (j : Nat), N'[i]? = some x ∧ X.N[j]? = some x ∧ σ[j]? = some (some v) ∧ scope.names.lookup x = some .free)
    (hi : PI X tg iter wi) (hg : ∀ s H C fp, PG (X.comp scope N' s H C fp) tg g) (ht : ∀ s H C fp, PTs (X.comp scope N' s H C fp) ifs ti) (he : ∀ s H C fp, PE (X.comp scope N' s H C fp) elt te)
    (hs : ∀ x, foldedSetIterable iter X.env x = pure x := by intro _; rfl) : PS X (.Assign [.Name y py] (.ListComp elt [⟨tg, iter, ifs, 0⟩] scope pos) spos) (tAsg (tComp s0 wi g ti te) (gName i)) := by
  intro pins s σ H D I h
  rw [exec_Assign_Name_used _ _ _ _ hsw]
  refine wpAny_bind (wpAny_standAt (wpAny_bind ?_))
  show wpAny _ X.A (do let _ ← comprehension (.ListComp elt [⟨tg, iter, ifs, 0⟩] scope pos) scope X.env _ (newList []) false (eval iter X.env) (some (assign (.Name y py) X.env))) _ _ s
  have hclos := closureFor_eq (scope := scope) (env := X.env) fun y hy hk => Option.isSome_iff_exists.mpr (I.ok.has y.1 (S.free y hy hk))
  refine wpAny_bind (wpAny_mono (wpAny_comprehension_free (use := some (assign (.Name y py) X.env)) (Q := fun _ s' => SP X pins D .next s') rfl hs hclos S.kind S.locs
    (thn (hi pins s σ H _ I h) fun x s1 h1 => thn h1 fun itv s2 h2 => ?_)) (fun _ s' hq => wpAny_pure (wpAny_pure hq)) fun _ _ e => e)
  obtain ⟨it, fp, tn, J, H2, e, I2, T, st2, f2, hw⟩ := h2
  subst e
  have hf : H2 s2.heap.objs.size = none := I2.hok.fresh (Nat.le_refl _)
  obtain ⟨W, ⟨m0, w0⟩, turn⟩ := hw _ hf
  have hlt := fp_lt (pins := pins) (σ := σ) (H := H2) T st2
  refine wpAny_newObj_type ?_
  have I3 : Inv X pins σ (upd H2 s2.heap.objs.size (.lst [])) { s2 with heap := s2.heap.push { cls := .type "list", dict := none, data := .seq ([] : List Value).toArray } } :=
    I2.laid (t' := s2.toks) (o := .lst []) (fun b u e => Heap.get?_push_of_some _ e) (Nat.le_refl _) ⟨Nat.zero_le _, [], 0, .nil, Heap.get?_push_size _ rfl⟩
  have hsz : s2.heap.objs.size < (s2.heap.push { cls := .type "list", dict := none, data := .seq ([] : List Value).toArray }).objs.size := by rw [Heap.size_push]; exact Nat.lt_succ_self _
  refine comp_block (s0 := s0) (QQ := fun x H1 => gName i x σ H1 D.nx) (W := W) (m0 := m0) S hc (hl σ I2.len) (hσ σ) hg ht he I3 T (T.keep _ _ _ st2 fun b hb o e => Heap.get?_push_of_some _ e) (fun b hb => ?_) (fun b hb => Nat.lt_trans (hlt b hb) hsz) hsz w0 turn fun s' ⟨m, hn⟩ hq => ?_
  · obtain ⟨f0, f1, f2, f3⟩ := f2 b hb
    exact ⟨by rw [upd_ne (Nat.ne_of_lt (hlt b hb))]; exact f0, f1, f2, f3⟩
  · obtain ⟨v, H5, I5, r5, q5, hC⟩ := hq s'.heap (.refl ..)
    have I5 : Inv X pins σ H5 s' := I5
    show wpAny _ X.A (assign (.Name y py) X.env _) _ _ s'
    refine wpAny_assign_Name (store_ok2 I5 hN hiN (.inl hy) r5 (fun s6 I6 ⟨a, sb, ha⟩ => ?_) (.inr hy))
    have lt3 := I3.lt
    have ca : ∀ x c, X.env.cells.lookup x = some c → c < (s2.heap.push { cls := .type "list", dict := none, data := .seq ([] : List Value).toArray }).objs.size := fun x c e => by
      obtain ⟨v, z⟩ := I3.cell x c e
      exact z.lt
    have hne : (s2.heap.push { cls := .type "list", dict := none, data := .seq ([] : List Value).toArray }).objs.size ≠ a := by
      rcases ha with rfl | ha
      · exact Nat.ne_of_gt lt3
      · exact Nat.ne_of_gt (ca _ _ ha)
    refine ⟨m, hn.sameBut sb hne, fun h' sb' => ⟨_, H5, ?_, q5⟩⟩
    refine I6.turned (t' := s6.toks) (it := (s2.heap.push { cls := .type "list", dict := none, data := .seq ([] : List Value).toArray }).objs.size) (fun b o hb e => (sb'.2 b hb).trans e) hC (Nat.ne_of_gt lt3) (.inr I3.sz) (fun x c e => Nat.ne_of_lt (ca x c e)) fun p hp => ?_
    exact Nat.ne_of_lt (Heap.lt_size (I3.pin p hp).1)
end
end FD
set_option Elab.async false
set_option linter.all false
set_option maxRecDepth 100000
namespace FD
open PySem PySem.Spec PyProof.Rows L2
variable [Tabs]
def compL (set : FG) (ft : FT) (fe : FE) (τ : DS) : List D → Rs (List D)
  | [] => .ok []
  | d :: r => match set d τ with
    | .ok τ1 => match ft τ1 with
      | .ok true => match fe τ1 with
        | .ok x => (compL set ft fe τ r).bind fun xs => .ok (x :: xs)
        | _ => .no
      | .ok false => compL set ft fe τ r
      | _ => .no
    | _ => .no
def valOnly : Option (Option Sl) → Option Sl
  | some (some (.val d)) => some (.val d)
  | some (some (.obr c fs)) => some (.obr c fs)
  | some (some (.obj _ c fs)) => some (.obr c fs)
  | _ => none
def tau0 (k : Nat) (idx : List Nat) (τ : DS) : DS := List.replicate k none ++ idx.map fun j => valOnly τ[j]?
def sig0 (k : Nat) (idx : List Nat) (σ : St) : St := List.replicate k none ++ idx.map fun j => (σ[j]?).join
def eComp (k : Nat) (idx : List Nat) (fi : FA) (set : FG) (ft : FT) (fe : FE) : FA := fun τ => (fi τ).bind fun ds => match compL set ft fe (tau0 k idx τ) ds with
  | .ok xs => if xs.length ≤ sizeLine then .ok xs else .no
  | _ => .no
def noOwn (τ : DS) : Prop := (∀ (i : Nat) es, τ[i]? ≠ some (some (.own es))) ∧ ∀ (i n : Nat) c fs, τ[i]? ≠ some (some (.obj n c fs))
structure SetOk (set : FG) : Prop where
  ov : ∀ d e τ τ1, set e τ = .ok τ1 → set d τ1 = set d τ
  no : ∀ d τ τ1, set d τ = .ok τ1 → noOwn τ → noOwn τ1
theorem noOwn_set {τ : DS} {i : Nat} {d : D} (h : noOwn τ) : noOwn (τ.set i (some (.val d))) := ⟨fun j es e => by
  by_cases hij : i = j
  · subst hij
    rw [List.getElem?_set] at e
    simp only [if_true] at e
    split at e <;> cases e
  · rw [List.getElem?_set_ne hij] at e; exact h.1 j es e, fun j n c fs e => h.2 j n c fs (set_obj (s := some (.val d)) rfl rfl e).2⟩
theorem setOk_nm (i : Nat) : SetOk (gNm i) := ⟨fun d e τ τ1 h => by
  unfold gNm at h ⊢; cases h; rw [List.set_set], fun d τ τ1 h n => by unfold gNm at h; cases h; exact noOwn_set n⟩
theorem noOwn_tau1 (k : Nat) (idx : List Nat) (τ : DS) : ∀ (i : Nat) es, (tau0 k idx τ)[i]? ≠ some (some (.own es)) := fun i es e => by
  unfold tau0 at e
  by_cases hi : i < k
  · rw [List.getElem?_append_left (by simpa using hi), List.getElem?_replicate] at e
    simp [hi] at e
  · rw [List.getElem?_append_right (by simpa using hi), List.getElem?_map] at e
    cases q : idx[i - (List.replicate k (none : Option Sl)).length]? with
    | none => rw [q] at e; cases e
    | some j =>
      rw [q] at e
      simp only [Option.map_some, Option.some.injEq] at e
      unfold valOnly at e
      split at e <;> cases e
theorem noObj_tau0 (k : Nat) (idx : List Nat) (τ : DS) : ∀ (i n : Nat) c fs, (tau0 k idx τ)[i]? ≠ some (some (.obj n c fs)) := fun i n c fs e => by
  unfold tau0 at e
  by_cases hi : i < k
  · rw [List.getElem?_append_left (by simpa using hi), List.getElem?_replicate] at e
    simp [hi] at e
  · rw [List.getElem?_append_right (by simpa using hi), List.getElem?_map] at e
    cases q : idx[i - (List.replicate k (none : Option Sl)).length]? with
    | none => rw [q] at e; cases e
    | some j =>
      rw [q] at e
      simp only [Option.map_some, Option.some.injEq] at e
      unfold valOnly at e
      split at e <;> cases e
theorem noOwn_tau0 (k : Nat) (idx : List Nat) (τ : DS) : noOwn (tau0 k idx τ) := ⟨noOwn_tau1 k idx τ, noObj_tau0 k idx τ⟩
theorem obr_tau0 {k : Nat} {idx : List Nat} {τ : DS} {i : Nat} {c : Str} {fs : List (Str × D)} (e : (tau0 k idx τ)[i]? = some (some (.obr c fs))) : ∃ j, k ≤ i ∧ idx[i - k]? = some j ∧ ((∃ n, τ[j]? = some (some (.obj n c fs))) ∨ τ[j]? = some (some (.obr c fs))) := by
  unfold tau0 at e
  by_cases hi : i < k
  · rw [List.getElem?_append_left (by simpa using hi), List.getElem?_replicate] at e
    simp [hi] at e
  · rw [List.getElem?_append_right (by simpa using hi), List.getElem?_map] at e
    simp only [List.length_replicate] at e
    cases q : idx[i - k]? with
    | none => rw [q] at e; cases e
    | some j =>
      rw [q] at e
      simp only [Option.map_some, Option.some.injEq] at e
      unfold valOnly at e
      split at e <;> cases e
      · exact ⟨j, by omega, rfl, .inr (by assumption)⟩
      · exact ⟨j, by omega, rfl, .inl ⟨_, by assumption⟩⟩
theorem ObsOk.read {K : PySem.W.Frag} {F H : Hp} {τ : DS} {σ : St} (n : noOwn τ) (h : ∀ (i : Nat) (c : Str) (fs : List (Str × D)), τ[i]? = some (some (.obr c fs)) → ∃ a C dx vs, σ[i]? = some (some (.ref a)) ∧ H a = some (.ins C dx vs) ∧ PySem.W.nsIn K mainGlobals c = some (some (.ref C)) ∧ Flds K F H c fs vs) : ObsOk K F τ σ H :=
  ⟨fun i m c fs h => absurd h (n.2 i m c fs), fun i j m c c' fs a _ h => absurd h (n.2 i m c fs), h, fun i j m c c' fs a a' l _ h => absurd h (n.2 i m c fs), fun i j c ds a l _ h => absurd h (n.1 j ds)⟩
theorem RV.free_upd {K : PySem.W.Frag} {F H : Hp} {τ : DS} {σ : St} {p : Addr} {o : HO} (R : RV K F τ σ H) (n : noOwn τ) (hp : F p = none) (hl : H p = none ∨ ∃ vs, H p = some (.lst vs)) (hq : ∀ (i : Nat) (c : Str) (a : Addr), ObS τ[i]? c → σ[i]? = some (some (.ref a)) → p ∉ Lof H c a) (ho : ∀ a, o ≠ .own a := by intro _ h; cases h) : RV K F τ σ (upd H p o) :=
  ⟨fun b u e => by
    have : b ≠ p := fun z => by subst z; rw [hp] at e; cases e
    rw [upd_ne this]; exact R.fh b u e, R.len, R.val, fun i es e => absurd e (n.1 i es), fun i j ds es a _ h => absurd h (n.1 i ds), R.tt.step (fun _ _ e => .inl e) (fun b o e n => by
    have : b ≠ p := fun z => by
      subst z
      rcases hl with z | ⟨vs, z⟩
      · rw [z] at e; cases e
      · rw [z] at e; cases e; exact n _ rfl
    rw [upd_ne this]; exact e) (no_upd ho), R.ob.updL hl hq⟩
theorem RS.apart {K : PySem.W.Frag} {B Z F H : Hp} {τ : DS} {σ : St} {p : Addr} (R : RS K B Z F τ σ H) (n : noOwn τ) (hp : B p = none) : ∀ (i : Nat) (c : Str) (a : Addr), ObS τ[i]? c → σ[i]? = some (some (.ref a)) → p ∉ Lof H c a := fun i c a h e hm => by
  rcases h with ⟨m, fs, h⟩ | ⟨fs, h⟩
  · exact n.2 i m c fs h
  · obtain ⟨C, dx, vs, h1, h2⟩ := R.ro i c fs a h e
    rw [Lof.ins (R.bh _ _ h1)] at hm
    obtain ⟨ws, h3⟩ := h2 p hm
    rw [hp] at h3; cases h3
theorem RS.free_upd {K : PySem.W.Frag} {B Z F H : Hp} {τ : DS} {σ : St} {p : Addr} {vs : List V} (R : RS K B Z F τ σ H) (n : noOwn τ) (hb : B p = none) (hp : F p = none) (hl : H p = none ∨ ∃ vs, H p = some (.lst vs)) : RS K B Z F τ σ (upd H p (.lst vs)) :=
  ⟨R.rv.free_upd n hp hl (R.apart n hb), fun a o e => by
    have : a ≠ p := fun z => by subst z; rw [hb] at e; cases e
    rw [upd_ne this]; exact R.bh a o e, R.zf, R.nb, fun i ds a h => absurd h (n.1 i ds), fun i m c fs a h => absurd h (n.2 i m c fs), fun a0 dx h1 h2 i m c fs h => absurd h (n.2 i (m + 1) c fs), R.ro⟩
theorem rv_comp {K : PySem.W.Frag} {F H : Hp} {τ : DS} {σ : St} (k : Nat) (idx : List Nat) (R : RV K F τ σ H) : RV K F (tau0 k idx τ) (sig0 k idx σ) H := by
  refine ⟨R.fh, by simp [tau0, sig0], fun i d e => ?_, fun i es e => absurd e (noOwn_tau1 k idx τ i es), fun i j ds es a _ h => absurd h (noOwn_tau1 k idx τ i ds), R.tt, ObsOk.read (noOwn_tau0 k idx τ) fun i c fs e => ?_⟩
  rotate_left
  · obtain ⟨j, hk, hj, h⟩ := obr_tau0 e
    have es : ∀ v, σ[j]? = some (some v) → (sig0 k idx σ)[i]? = some (some v) := fun v h => by
      unfold sig0
      rw [List.getElem?_append_right (by simpa using hk), List.getElem?_map]
      simp [hj, h]
    rcases h with ⟨n, h⟩ | h
    · obtain ⟨a, h1, C, dx, vs, h2, _, h4, h5, _⟩ := R.ob.at_ j n c fs h
      exact ⟨a, C, dx, vs, es _ h1, h2, h4, h5⟩
    · obtain ⟨a, C, dx, vs, h1, h2, h4, h5⟩ := R.ob.rd j c fs h
      exact ⟨a, C, dx, vs, es _ h1, h2, h4, h5⟩
  unfold tau0 at e
  unfold sig0
  by_cases hi : i < k
  · rw [List.getElem?_append_left (by simpa using hi), List.getElem?_replicate] at e
    simp [hi] at e
  · rw [List.getElem?_append_right (by simpa using hi), List.getElem?_map] at e
    rw [List.getElem?_append_right (by simpa using hi), List.getElem?_map]
    simp only [List.length_replicate] at e ⊢
    cases q : idx[i - k]? with
    | none => rw [q] at e; cases e
    | some j =>
      rw [q] at e
      simp only [Option.map_some, Option.some.injEq] at e
      have : τ[j]? = some (some (.val d)) := by
        unfold valOnly at e
        split at e <;> cases e
        assumption
      obtain ⟨v, h1, h2⟩ := R.val j d this
      exact ⟨v, by simp [h1], h2⟩
theorem rs_comp {K : PySem.W.Frag} {F H : Hp} {τ : DS} {σ : St} (k : Nat) (idx : List Nat) (R : RV K F τ σ H) : RS K H F F (tau0 k idx τ) (sig0 k idx σ) H :=
  ⟨rv_comp k idx R, Hh.refl H, Same.refl F, fun a o e => .inl e, fun i ds a h => absurd h (noOwn_tau1 k idx τ i ds), fun i m c fs a h => absurd h (noObj_tau0 k idx τ i m c fs), fun a0 dx h1 h2 i m c fs h => absurd h (noObj_tau0 k idx τ i (m + 1) c fs), fun i c fs a h e => by
    obtain ⟨a', C, dx, vs, h1, h2, _, h5⟩ := (rv_comp k idx R).ob.rd i c fs h
    rw [e] at h1; cases h1
    exact ⟨C, dx, vs, h2, fun l hl => (h5.own hl).2⟩⟩
def hideAt (H : Hp) (p : Addr) : Hp := fun b => if b = p then none else H b
theorem hideAt_same (H : Hp) (p : Addr) : hideAt H p p = none := by unfold hideAt; rw [if_pos rfl]
theorem hideAt_ne {H : Hp} {p b : Addr} (h : b ≠ p) : hideAt H p b = H b := by unfold hideAt; rw [if_neg h]
theorem upd_hide (H : Hp) (p : Addr) (o : HO) : upd (hideAt H p) p o = upd H p o := by
  funext b; unfold upd hideAt; split <;> rfl
theorem ext_hide {F1 H1 F2 Hm F5 H5 : Hp} {acc : Addr} {ls : List V} (a : Ext F1 H1 F2 Hm) (hm : Hm acc = none) (b : Ext F2 (upd Hm acc (.lst ls)) F5 H5) : Ext F1 H1 F5 (hideAt H5 acc) ∧ F5 acc = none := by
  have hf5 : F5 acc = none := by
    cases q : F5 acc with
    | none => rfl
    | some o =>
      rcases b.nw acc o q with z | z
      · rw [none_of_same a.fh hm] at z; cases z
      · rw [upd_same] at z; cases z
  have h1 : H1 acc = none := none_of_hh a.hh hm
  have ha : H5 acc = some (.lst ls) := b.hh acc _ upd_same
  refine ⟨⟨a.ff.trans b.ff, fun c o e => ?_, fun c o e => ?_, fun c o e => ?_, fun t => ?_⟩, hf5⟩
  · have n : c ≠ acc := fun z => by subst z; rw [h1] at e; cases e
    rw [hideAt_ne n]
    exact ((a.hh.trans (.of (same_upd hm))).trans b.hh) c o e
  · have n : c ≠ acc := fun z => by subst z; rw [hf5] at e; cases e
    rw [hideAt_ne n]; exact b.fh c o e
  · rcases b.nw c o e with z | z
    · exact a.nw c o z
    · have n : c ≠ acc := fun z' => by subst z'; rw [upd_same] at z; cases z
      rw [upd_ne n] at z
      exact .inr (none_of_hh a.hh z)
  · have t2 := b.tt ((a.tt t).step (F' := F2) (H' := upd Hm acc (.lst ls)) (fun _ _ e => .inl e) (fun c o e _ => by rw [upd_ne (ne_of_none e hm)]; exact e) (no_upd fun _ z => nomatch z))
    exact t2.step (fun _ _ e => .inl e) (fun c o e n => by
      have : c ≠ acc := fun z => by subst z; rw [ha] at e; cases e; exact n _ rfl
      rw [hideAt_ne this]; exact e) fun d a e => by
      unfold hideAt at e
      split at e
      · cases e
      · exact e
def FreeOk (scope : Scope) (N : List Str) : List Str → List Nat → Prop
  | [], [] => True
  | x :: xs, j :: js => N[j]? = some x ∧ scope.names.lookup x = some .free ∧ FreeOk scope N xs js
  | _, _ => False
theorem FreeOk.len {scope : Scope} {N : List Str} : ∀ {xs : List Str} {js : List Nat}, FreeOk scope N xs js → xs.length = js.length
  | [], [], _ => rfl
  | _ :: xs, _ :: js, h => by rw [List.length_cons, List.length_cons, FreeOk.len h.2.2]
theorem FreeOk.get {scope : Scope} {N : List Str} : ∀ {xs : List Str} {js : List Nat} {p j : Nat}, FreeOk scope N xs js → js[p]? = some j → ∃ x, xs[p]? = some x ∧ N[j]? = some x ∧ scope.names.lookup x = some .free
  | [], [], _, _, _, e => by simp at e
  | x :: xs, i :: js, 0, j, h, e => by simp at e; subst e; exact ⟨x, rfl, h.1, h.2.1⟩
  | x :: xs, i :: js, p + 1, j, h, e => by
    obtain ⟨y, h1, h2⟩ := FreeOk.get (p := p) h.2.2 (by simpa using e)
    exact ⟨y, by simpa using h1, h2⟩
def compOkB (osc scope : Scope) : Bool := (match scope.kind with | .function => true | _ => false) && scope.names.all (fun y => match y.2 with
  | .cell => false
  | .local => (match scope.names.lookup y.1 with | some .local => true | _ => false)
  | .free => (match osc.names.lookup y.1 with | some .cell => true | some .free => true | _ => false)
  | _ => true)
theorem compScope_of {X : Cx} {scope : Scope} (h : compOkB X.env.scope scope = true) : CompScope X scope := by
  unfold compOkB at h
  rw [Bool.and_eq_true, List.all_eq_true] at h
  obtain ⟨h1, h2⟩ := h
  refine ⟨?_, fun y hy z => ?_, fun y hy z => ?_, fun y hy z => ?_⟩
  · split at h1
    · assumption
    · cases h1
  · have := h2 y hy; rw [z] at this; cases this
  · have := h2 y hy; rw [z] at this
    simp only at this
    split at this
    · assumption
    · cases this
  · have := h2 y hy; rw [z] at this
    simp only at this
    split at this
    · left; assumption
    · right; assumption
    · cases this
def PDTs (Y : Cx) (ifs : List Expr) (f : FT) : Prop := PTs Y ifs (tTs Y f)
theorem pdts_nil {Y : Cx} : PDTs Y [] (fun _ => .ok true) := fun pins s σ H Q I ⟨F, τ, R, h⟩ => pts_nil pins s σ H Q I (h F H (Ext.refl R.fh))
theorem pdts_one {Y : Cx} {c : Expr} {f : FT} (h : PDT Y c f) : PDTs Y [c] f := pts_one h
section
variable {X : Cx} {scope : Scope} {tn fr : List Str} {idx : List Nat} {tg iter elt : Expr} {ifs : List Expr} {pos : Pos} {fi : FA} {set : FG} {ft : FT} {fe : FE}
structure CWH (K : PySem.W.Frag) (set : FG) (ft : FT) (fe : FE) (t0 : DS) (ds xs : List D) (F1 H1 : Hp) (acc : Addr) (i : Nat) (σ1 : St) (Hc F2 Hm : Hp) (τ1 : DS) (dn rs : List D) (vs : List V) : Prop where
  a1 : Ext F1 H1 F2 Hm
  a2 : Hm acc = none
  a3 : Hc = upd Hm acc (.lst vs)
  a4 : Reps K F2 dn vs
  a5 : RS K H1 F1 F2 τ1 σ1 Hc
  a6 : noOwn τ1
  a7 : ∀ d, set d τ1 = set d t0
  a8 : compL set ft fe t0 (ds.drop i) = .ok rs
  a9 : xs = dn ++ rs
theorem comp_read (so : SetOk set) {Y : Cx} (hK : Y.K = X.K) (σ : St) (H : Hp) (Q : VK) (h : tFr X (eComp tn.length idx fi set ft fe) σ H Q) : tComp (sig0 tn.length idx) (tI X fi) (tG Y set) (tTs Y ft) (tE Y fe) σ H Q := by
  obtain ⟨F, τ, R, h⟩ := h
  refine ⟨F, τ, R, h.bind.imp fun ds gds J F1 H1 x io => fun acc hacc => ?_⟩
  cases q : compL set ft fe (tau0 tn.length idx τ) ds with
  | no => rw [q] at gds; exact gds.elim
  | ex c => rw [q] at gds; exact gds.elim
  | ok xs =>
    rw [q] at gds
    obtain ⟨hz, k⟩ := ok_ite gds
    have R1 := R.ext x
    have hF1 : F1 acc = none := none_of_same x.fh hacc
    refine ⟨fun i m σ1 Hc => m = ds.length - i ∧ i ≤ ds.length ∧ ∃ F2 Hm τ1 dn rs vs, CWH X.K set ft fe (tau0 tn.length idx τ) ds xs F1 H1 acc i σ1 Hc F2 Hm τ1 dn rs vs, ⟨ds.length, by simp, Nat.zero_le _, F1, H1, _, [], xs, [], Ext.refl x.fh, hacc, rfl, Reps.nil, ?_, noOwn_tau0 _ _ _, fun _ => rfl, q, rfl⟩, ?_⟩
    · exact (rs_comp tn.length idx R1).free_upd (noOwn_tau0 _ _ _) hacc hF1 (.inl hacc)
    rintro i m σ1 Hc ⟨rfl, hi, F2, Hm, τ1, dn, rs, vs, x2, hm, rfl, r2, R2, n2, so2, cl, ex⟩
    obtain ⟨i1, i2⟩ := io i F2 _ x2.ff R2.rv.fh
    by_cases hlt : i < ds.length
    · have hd : ds.drop i = ds[i] :: ds.drop (i + 1) := List.drop_eq_getElem_cons hlt
      rw [hd, compL] at cl
      obtain ⟨go, yl⟩ := i2 ds[i] (by simp [hlt])
      refine .inr ⟨go, fun y H' yy => ?_⟩
      obtain ⟨F3, x3, r3⟩ := yl y H' yy
      refine ⟨F3, τ1, ds[i], by rw [hK]; exact (R2.ext x3).rv, by rw [hK]; exact r3, ?_⟩
      rw [so2]
      cases e1 : set ds[i] (tau0 tn.length idx τ) with
      | no => rw [e1] at cl; cases cl
      | ex c => rw [e1] at cl; cases cl
      | ok τ2 =>
        rw [e1] at cl
        simp only at cl
        intro σ2 _ RR _
        rw [hK] at RR
        have RR := RR _ _ (R2.ext x3)
        have n3 := so.no _ _ _ e1 (noOwn_tau0 _ _ _)
        have so3 : ∀ d, set d τ2 = set d (tau0 tn.length idx τ) := fun d => so.ov d _ _ _ e1
        cases e2 : ft τ2 with
        | no => rw [e2] at cl; cases cl
        | ex c => rw [e2] at cl; cases cl
        | ok b =>
          rw [e2] at cl
          refine ⟨F3, τ2, by rw [hK]; exact RR.rv, ?_⟩
          rw [e2]
          intro F4 H4 x4
          have x34 := x3.trans x4
          cases b with
          | false =>
            simp only at cl
            rw [if_neg (by simp)]
            obtain ⟨y1, y2⟩ := ext_hide x2 hm x34
            have ha : H4 acc = some (.lst vs) := x34.hh acc _ upd_same
            have eH : H4 = upd (hideAt H4 acc) acc (.lst vs) := by
              rw [upd_hide]; funext b; unfold upd; split
              · rename_i z; subst z; exact ha
              · rfl
            refine ⟨ds.length - (i + 1), by omega, rfl, hlt, F4, hideAt H4 acc, τ2, dn, rs, vs, y1, hideAt_same _ _, eH, r2.mono x34.ff, RR.ext x4, n3, so3, cl, ex⟩
          | true =>
            simp only at cl
            rw [if_pos rfl]
            cases e3 : fe τ2 with
            | no => rw [e3] at cl; cases cl
            | ex c => rw [e3] at cl; cases cl
            | ok z =>
              rw [e3] at cl
              simp only at cl
              cases e4 : compL set ft fe (tau0 tn.length idx τ) (ds.drop (i + 1)) with
              | no => rw [e4] at cl; cases cl
              | ex c => rw [e4] at cl; cases cl
              | ok rs' =>
                rw [e4] at cl
                have ers : z :: rs' = rs := by simpa using cl
                refine ⟨F4, τ2, by rw [hK]; exact (RR.ext x4).rv, ?_⟩
                rw [e3]
                intro v F5 H5 x5 r5
                rw [hK] at r5
                have x35 := x34.trans x5
                obtain ⟨y1, y2⟩ := ext_hide x2 hm x35
                refine ⟨vs, x35.hh acc _ upd_same, ?_, ds.length - (i + 1), by omega, rfl, hlt, F5, hideAt H5 acc, τ2, dn ++ [z], rs', vs ++ [v], y1, hideAt_same _ _, by rw [upd_hide], (r2.mono x35.ff).append (Reps.cons r5 Reps.nil), ?_, n3, so3, e4, ?_⟩
                · have := congrArg List.length ex
                  rw [← ers, List.length_append, List.length_cons, r2.length] at this
                  omega
                · exact ((RR.ext x4).ext x5).free_upd n3 hacc y2 (.inr ⟨_, x35.hh acc _ upd_same⟩)
                · rw [ex, ← ers, List.append_assoc]; rfl
    · have e : i = ds.length := by omega
      subst e
      rw [List.drop_length, compL] at cl
      cases cl
      rw [List.append_nil] at ex
      subst ex
      exact .inl ⟨i1 (Nat.le_refl _), k acc vs F2 Hm (x.trans x2) hm r2⟩
theorem sig0_ok (hfr : FreeOk scope X.N fr idx) (σ : St) (i : Nat) (v : V) (h : (sig0 tn.length idx σ)[i]? = some (some v)) : ∃ (x : Str) (j : Nat), (tn ++ fr)[i]? = some x ∧ X.N[j]? = some x ∧ σ[j]? = some (some v) ∧ scope.names.lookup x = some .free := by
  unfold sig0 at h
  by_cases hi : i < tn.length
  · rw [List.getElem?_append_left (by simpa using hi), List.getElem?_replicate] at h
    simp [hi] at h
  · rw [List.getElem?_append_right (by simpa using hi), List.getElem?_map] at h
    simp only [List.length_replicate] at h
    cases q : idx[i - tn.length]? with
    | none => rw [q] at h; cases h
    | some j =>
      rw [q] at h
      simp only [Option.map_some, Option.some.injEq] at h
      obtain ⟨x, h1, h2, h3⟩ := hfr.get q
      refine ⟨x, j, by rw [List.getElem?_append_right (by omega)]; exact h1, h2, ?_, h3⟩
      cases z : σ[j]? with
      | none => rw [z] at h; cases h
      | some o => rw [z] at h; simp at h; rw [h]
theorem pdf_comp (hb : compOkB X.env.scope scope = true) (hc : X.calm = true) (hfr : FreeOk scope X.N fr idx) (so : SetOk set) (hi : PDI X tg iter fi)
    (hg : ∀ s H C fp, PDG (X.comp scope (tn ++ fr) s H C fp) tg set) (ht : ∀ s H C fp, PDTs (X.comp scope (tn ++ fr) s H C fp) ifs ft) (he : ∀ s H C fp, PDE (X.comp scope (tn ++ fr) s H C fp) elt fe)
    (hs : ∀ x, foldedSetIterable iter X.env x = pure x := by intro _; rfl) : PDF X (.ListComp elt [⟨tg, iter, ifs, 0⟩] scope pos) (eComp tn.length idx fi set ft fe) :=
  PE.imp (pe_comp (s0 := sig0 tn.length idx) (g := tG (X.comp scope (tn ++ fr) X.s₀ X.H₀ 0 []) set) (ti := tTs (X.comp scope (tn ++ fr) X.s₀ X.H₀ 0 []) ft) (te := tE (X.comp scope (tn ++ fr) X.s₀ X.H₀ 0 []) fe)
    (compScope_of hb) hc (fun σ _ => by simp [sig0, hfr.len]) (sig0_ok hfr) hi hg ht he hs) (comp_read so rfl)
theorem pds_comp {i : Nat} {y : Str} {py spos : Pos} (hN : X.N.Nodup) (hiN : X.N[i]? = some y) (hy : X.env.scope.names.lookup y = some .local)
    (hsw : swapsWith (.ListComp elt [⟨tg, iter, ifs, 0⟩] scope pos) (some (.Name y py)) spos.line X.env = pure true)
    (hb : compOkB X.env.scope scope = true) (hc : X.calm = true) (hfr : FreeOk scope X.N fr idx) (so : SetOk set) (hi : PDI X tg iter fi)
    (hg : ∀ s H C fp, PDG (X.comp scope (tn ++ fr) s H C fp) tg set) (ht : ∀ s H C fp, PDTs (X.comp scope (tn ++ fr) s H C fp) ifs ft) (he : ∀ s H C fp, PDE (X.comp scope (tn ++ fr) s H C fp) elt fe)
    (hs : ∀ x, foldedSetIterable iter X.env x = pure x := by intro _; rfl) : PDS X (.Assign [.Name y py] (.ListComp elt [⟨tg, iter, ifs, 0⟩] scope pos) spos) (sSet i fun τ => (eComp tn.length idx fi set ft fe τ).bind fun ds => .ok (.lst ds)) :=
  PS.imp (ps_comp (s0 := sig0 tn.length idx) (g := tG (X.comp scope (tn ++ fr) X.s₀ X.H₀ 0 []) set) (ti := tTs (X.comp scope (tn ++ fr) X.s₀ X.H₀ 0 []) ft) (te := tE (X.comp scope (tn ++ fr) X.s₀ X.H₀ 0 []) fe) hN hiN hy hsw
    (compScope_of hb) hc (fun σ _ => by simp [sig0, hfr.len]) (sig0_ok hfr) hi hg ht he hs) fun E σ H ⟨B, Z, F, τ, R, h⟩ => by
    refine comp_read (X := X) (tn := tn) (idx := idx) (fi := fi) (ft := ft) (fe := fe) so (Y := X.comp scope (tn ++ fr) X.s₀ X.H₀ 0 []) rfl σ H (fun x H1 => gName i x σ H1 E.nx) ⟨F, τ, R.rv, ?_⟩
    have h' := h.of.bind
    refine h'.imp fun ds g p vs F1 H1 x hp r => ?_
    have x2 := x.trans (Ext.new (o := .lst vs) x.fh hp)
    refine g _ _ _ x2.ff ((R.ext x2).set ?_)
    simp only [Rep]
    exact ⟨p, vs, rfl, upd_same, r.mono (same_upd (none_of_same x.fh hp))⟩
end
end FD
set_option Elab.async false
set_option linter.all false
set_option maxRecDepth 100000
namespace FD
open PySem PySem.Spec PyProof.Rows L2
variable [Tabs]
section
variable {prog : Program} {w : World} {A : Around} {E : Value → Shared → Prop} {s : Shared} {z TI TO i1 i2 : Addr} {n1 n2 : Nat} {P1 P2 : Nat → Value → Prop} {st1 st2 : Nat → Heap → Prop} {rd1 rd2 : Heap → Prop}
end
end FD
set_option Elab.async false
set_option linter.all false
set_option maxRecDepth 100000
namespace FD
open PySem PySem.Spec PyProof.Rows L2
variable [Tabs]
theorem turnedL {X : Cx} {pins : List (Addr × Obj)} {σ : St} {H : Hp} {s : Shared} {h' : Heap} {t' : Nat} {ch : List Addr} (I : Inv X pins σ H s) (k : ∀ b o, b ∉ ch → s.heap.get? b = some o → h'.get? b = some o) (hf : ∀ b ∈ ch, FpOk X pins H b) (he : ∀ b ∈ ch, H b = none) :
    Inv X pins σ H { s with heap := h', toks := t' } := by
  refine I.step (g' := s.gens) (d' := s.drawn) (ch := ch) (fun b hb => ?_) (fun b o _ _ hc e _ => k b o hc e) (fun b o _ _ hc e _ => ⟨o.slots, k b o hc e⟩) (fun _ _ _ _ n => n)
    (fun b o hc e => ⟨o, k b o hc e⟩) (fun _ _ e => e) (fun _ _ _ e => e) (fun b ps e => ⟨#[], by rw [e]; simp⟩) (fun m hm => ?_) (fun b u e => ?_) I.bare
  · obtain ⟨f0, f1, f2, f3, f4, f5⟩ := hf b hb
    exact ⟨f3, f1, f4, f5⟩
  · obtain ⟨o, es, ep, ho, r⟩ := hm
    exact ⟨o, es, ep, k _ o (fun z => (hf _ z).2.1 rfl) ho, r⟩
  · refine (I.hok b u e).stay (fun c v hc q => k c v ?_ q) (fun _ q => q) fun _ _ q => q
    intro z
    rcases hc with q | q
    · subst q; rw [he c z] at e; cases e
    · rw [he c z] at q; cases q
theorem turnedT {X : Cx} {pins : List (Addr × Obj)} {σ : St} {H : Hp} {s : Shared} {h' : Heap} {t' : Nat} {ch : List Addr} {p : Addr} {xs : List V} {its : List Value} (I : Inv X pins σ H s) (k : ∀ b o, b ∉ ch → s.heap.get? b = some o → h'.get? b = some o) (hf : ∀ b ∈ ch, FpOk X pins H b)
    (hp : s.heap.objs.size ≤ p) (ht : IsTup h' p its.toArray) (hv : Vals xs its) (hz : xs.length ≤ sizeLine) :
    Inv X pins σ (upd H p (.tup xs)) { s with heap := h', toks := t' } := by
  have hn : H p = none := I.hok.fresh hp
  have lt : ∀ {b : Addr} {o : Obj}, s.heap.get? b = some o → b ≠ p := fun e => Nat.ne_of_lt (Nat.lt_of_lt_of_le (Heap.lt_size e) hp)
  refine I.step (g' := s.gens) (d' := s.drawn) (ch := ch) (fun b hb => ?_) (fun b o _ _ hc e _ => k b o hc e) (fun b o _ _ hc e _ => ⟨o.slots, k b o hc e⟩) (fun b o _ e n => by rw [upd_ne (lt e)]; exact n)
    (fun b o hc e => ⟨o, k b o hc e⟩) (fun b ys e => by rw [upd_ne (ne_of_none e hn)]; exact e) (fun b o u e => by rw [upd_ne (ne_of_none e hn)]; exact e) (fun b ps e => ⟨#[], by rw [upd_ne (ne_of_none e hn), e]; simp⟩) (fun m hm => ?_) (fun b u e => ?_) I.bare
  · obtain ⟨f0, f1, f2, f3, f4, f5⟩ := hf b hb
    exact ⟨f3, f1, f4, f5⟩
  · obtain ⟨o, es, ep, ho, r⟩ := hm
    exact ⟨o, es, ep, k _ o (fun z => (hf _ z).2.1 rfl) ho, r⟩
  · by_cases hb : b = p
    · subst hb; rw [upd_same] at e; cases e
      exact ⟨hz, its, hv, ht⟩
    · rw [upd_ne hb] at e
      refine (I.hok b u e).stay (fun c v hc q => k c v ?_ q) (fun c q => by rw [upd_ne (ne_of_none q hn)]; exact q) fun c ys q => by rw [upd_ne (ne_of_none q hn)]; exact q
      intro z
      rcases hc with q | q
      · subst q; rw [(hf c z).1] at e; cases e
      · rw [(hf c z).1] at q; cases q
end FD
set_option Elab.async false
set_option linter.all false
set_option maxRecDepth 100000
namespace FD
open PySem PySem.Spec PyProof.Rows L2
variable [Tabs]
def signD (c : Nat) : D := .str ⟨#[c]⟩
def signsD (x : Str) : List D := x.cps.toList.map signD
def Its (x : Str) : It := ⟨fun i _ => i < x.cps.size, fun i H y H' => H' = H ∧ ∃ c, x.cps[i]? = some c ∧ y = .str ⟨#[c]⟩, fun i _ => x.cps.size ≤ i⟩
theorem turn_str {P : Program} {w : World} {K : PySem.W.Frag} {tg : Expr} {it : Addr} {x : Str} {t : Tok} {ty : String} (hty : ty = "str_ascii_iterator" ∨ ty = "str_iterator") : Turn P w K tg (Its x) [it] it (fun k h => h.IsStrIter it ty x t k) where
  mem := by simp
  obj := fun i h ⟨o, e, c, d⟩ b hb => by
    have z : b = it := by simpa using hb
    subst z
    exact ⟨o, e, fun v z => by rw [d] at z; cases z⟩
  keep := fun i h h' ⟨o, e, r⟩ k => ⟨o, k it (by simp) o e, r⟩
  item := by
    intro X hP hw hK hc i pins s σ H E I hf st hg
    subst hP hw hK
    obtain ⟨f0, f1, f2, f3, f4, f5⟩ := hf it (by simp)
    have hh : X.A.handled = none := I.ok.hd hc
    have W : Walks X.prog X.w X.A it [it] [it] x.cps.size (SignAt x) (fun i h => h.IsStrIter it ty x t i) := by
      rcases hty with rfl | rfl
      · exact Walks.strAscii hh it x t
      · exact Walks.strWide hh it x t
    refine W.item i s _ _ hg st fun v h' tk hv st' kk => ?_
    obtain ⟨c, u, ec, rfl⟩ := hv
    have I1 : Inv X pins σ H { s with heap := h', toks := tk } := I.turned (fun b o hb e => kk b o (by simpa using hb) e) f0 f1 f3 f4 f5
    obtain ⟨o, e, cc, d⟩ := id st'
    exact ⟨_, rfl, go_of (s := { s with heap := h', toks := tk }) e cc d (by rcases hty with rfl | rfl <;> decide) ⟨.str ⟨#[c]⟩, H, I1, ⟨u, rfl⟩, ⟨rfl, c, ec, rfl⟩, st', fun b hb => (hf b hb).1⟩⟩
  done := by
    intro X hP hw hK hc i pins s σ H E I hf st hg
    subst hP hw hK
    obtain ⟨f0, f1, f2, f3, f4, f5⟩ := hf it (by simp)
    have hh : X.A.handled = none := I.ok.hd hc
    have hx : x.cps[i]? = none := by have : x.cps.size ≤ i := hg; simp; omega
    rcases hty with rfl | rfl
    · exact wpAny_pyNext_ascii_end hh st hx fun h' eb => ⟨rfl, I.turned (t' := s.toks) (fun b o hb e => eb b o hb e) f0 f1 f3 f4 f5⟩
    · exact wpAny_pyNext_wide_end hh st hx fun h' eb => ⟨rfl, I.turned (t' := s.toks) (fun b o hb e => eb b o hb e) f0 f1 f3 f4 f5⟩
  self := fun _ _ _ _ _ st h => by
    rcases hty with rfl | rfl
    · exact wpAny_pyIter_striter_ascii st h
    · exact wpAny_pyIter_striter_wide st h
section
variable {X : Cx} {pos : Pos} {e tg : Expr} {es : List Expr} {fe : FE} {fs : FA}
theorem it_str {K : PySem.W.Frag} {F1 : Hp} {x : Str} : ItOk K (Its x) F1 (signsD x) := fun i F H f1 f2 => by
  have hl : (signsD x).length = x.cps.size := by simp [signsD]
  refine ⟨fun h => by rw [hl] at h; exact h, fun d hd => ?_⟩
  have hi : i < x.cps.size := by have := (List.getElem?_eq_some_iff.mp hd).1; rw [hl] at this; exact this
  refine ⟨hi, fun y H' yy => ?_⟩
  obtain ⟨e1, c, ec, rfl⟩ := yy
  subst e1
  refine ⟨F, Ext.refl f2, ?_⟩
  have : d = signD c := by
    simp only [signsD, List.getElem?_map] at hd
    have e2 : x.cps.toList[i]? = some c := by simpa using ec
    rw [e2] at hd
    exact (Option.some.inj hd).symm
  subst this
  simp only [signD, Rep]
end
end FD
set_option Elab.async false
set_option linter.all false
set_option maxRecDepth 100000
namespace FD
open PySem PySem.Spec PyProof.Rows L2
variable [Tabs]
section
variable {X : Cx} {pos : Pos} {e tg : Expr} {es : List Expr} {fe : FE} {fs : FA}
def len1 : D → Rs D
  | .lst ds => .ok (.int ds.length)
  | .tup ds => .ok (.int ds.length)
  | .scr ns => .ok (.int ns.length)
  | .str x => if x.length ≤ sizeLine then .ok (.int x.length) else .no
  | _ => .no
def lenD : List D → Rs D
  | [d] => len1 d
  | _ => .no
theorem cd_len : CallD X (.builtin "len") lenD := ⟨_, call_len_seq.or call_len_str, fun F H vs ds Q fh r h => by
  match ds, r, h with
  | [d], r, h =>
    obtain ⟨v, rfl, q⟩ := r.one
    cases d with
    | lst ds =>
      simp only [Rep] at q; obtain ⟨a, ws, rfl, e1, t⟩ := q
      refine .inl ⟨a, ws, rfl, .inl (SqL.of (fh _ _ e1)), ?_⟩
      rw [← t.length]; exact h _ F H (Ext.refl fh) (by simp only [Rep])
    | tup ds =>
      simp only [Rep] at q; obtain ⟨a, ws, rfl, e1, t⟩ := q
      refine .inl ⟨a, ws, rfl, .inr (Same.seqT fh e1), ?_⟩
      rw [← t.length]; exact h _ F H (Ext.refl fh) (by simp only [Rep])
    | scr ns =>
      simp only [Rep] at q; obtain ⟨a, rfl, e1⟩ := q
      refine .inl ⟨a, _, rfl, .inl (fh.seq e1), ?_⟩
      rw [List.length_map]; exact h _ F H (Ext.refl fh) (by simp only [Rep])
    | str x =>
      simp only [Rep] at q; subst q
      obtain ⟨z, h⟩ := ok_ite h
      exact .inr ⟨x, rfl, z, h _ F H (Ext.refl fh) (by simp only [Rep])⟩
    | _ => exact h.elim
  | [], _, h => exact h.elim
  | _ :: _ :: _, _, h => exact (show False from h).elim⟩
end
end FD
set_option Elab.async false
set_option linter.all false
set_option maxRecDepth 100000
namespace FD
open PySem PySem.Spec PyProof.Rows L2
variable [Tabs]
end FD
set_option Elab.async false
set_option linter.all false
set_option maxRecDepth 100000
namespace FD
open PySem PySem.Spec PyProof.Rows L2
variable [Tabs]
section
variable {X : Cx} {pos : Pos} {e tg : Expr} {es : List Expr} {fe : FE} {fs : FA}
def isOf (d : D) (T : String) : Rs Bool := match d with
  | .raw _ => .no
  | .exc _ => .no
  | .dct _ _ => .no
  | d => if T = "str" then .ok (match d with | .str _ => true | _ => false)
    else if T = "int" then .ok (match d with | .int _ => true | .bl _ => true | _ => false)
    else if T = "bool" then .ok (match d with | .bl _ => true | _ => false)
    else if T = "list" then .ok (match d with | .lst _ => true | .scr _ => true | _ => false)
    else if T = "tuple" then .ok (match d with | .tup _ => true | _ => false)
    else .no
def tyOf2 : List D → Option (D × String)
  | [d, .raw (.ty T)] => some (d, T)
  | _ => none
theorem tyOf2_eq {ds : List D} {d : D} {T : String} (h : tyOf2 ds = some (d, T)) : ds = [d, .raw (.ty T)] := by
  unfold tyOf2 at h; split at h <;> cases h; rfl
def isiD (ds : List D) : Rs D := match tyOf2 ds with
  | some (d, T) => (isOf d T).bind fun b => .ok (.bl b)
  | none => .no
theorem call_isi : CallR X (.builtin "isinstance") (fun vs H Q => ∃ F d v T b, Same F H ∧ Rep X.K F d v ∧ vs = [v, .ty T] ∧ isOf d T = .ok b ∧ Q (.bl b) H) := by
  intro pins s σ H vs us Q I r h
  obtain ⟨F, d, v, T, b, fh, rd, rfl, hb, q⟩ := h
  obtain ⟨u, w, rfl, r1, r2⟩ := vals2 r
  cases r2
  have fin : ∀ {b' : Bool}, b = b' → EP X pins σ Q (.bool b') s := fun e => by subst e; exact ⟨.bl _, H, I, rfl, q⟩
  have fin' : ∀ {b' : Bool}, b = b' → EP X pins σ Q (.bool b') { s with toks := s.toks + 1 } := fun e => by subst e; exact ⟨.bl _, H, I.tok _, rfl, q⟩
  have hT : T = "str" ∨ T = "int" ∨ T = "bool" ∨ T = "list" ∨ T = "tuple" := by
    by_cases h1 : T = "str"; exact .inl h1
    by_cases h2 : T = "int"; exact .inr (.inl h2)
    by_cases h3 : T = "bool"; exact .inr (.inr (.inl h3))
    by_cases h4 : T = "list"; exact .inr (.inr (.inr (.inl h4)))
    by_cases h5 : T = "tuple"; exact .inr (.inr (.inr (.inr h5)))
    exfalso
    unfold isOf at hb
    cases d <;> simp [h1, h2, h3, h4, h5] at hb
  cases d with
  | raw _ => simp [isOf] at hb
  | exc _ => simp [isOf] at hb
  | dct _ _ => simp [isOf] at hb
  | non =>
    simp only [Rep] at rd; subst rd; cases r1
    rcases hT with rfl | rfl | rfl | rfl | rfl <;> simp [isOf] at hb <;> first
      | exact IsiPair.NoneType_str (fin' hb) | exact IsiPair.NoneType_int (fin' hb) | exact IsiPair.NoneType_bool (fin' hb) | exact IsiPair.NoneType_list (fin' hb) | exact IsiPair.NoneType_tuple (fin' hb)
  | bl k =>
    simp only [Rep] at rd; subst rd; cases r1
    rcases hT with rfl | rfl | rfl | rfl | rfl <;> simp [isOf] at hb <;> first
      | exact IsiPair.bool_str (fin' hb) | exact IsiPair.bool_int (fin hb) | exact IsiPair.bool_bool (fin hb) | exact IsiPair.bool_list (fin' hb) | exact IsiPair.bool_tuple (fin' hb)
  | int k =>
    simp only [Rep] at rd; subst rd; obtain ⟨t, rfl⟩ := r1
    rcases hT with rfl | rfl | rfl | rfl | rfl <;> simp [isOf] at hb <;> first
      | exact IsiPair.int_str (fin' hb) | exact IsiPair.int_int (fin hb) | exact IsiPair.int_bool (fin' hb) | exact IsiPair.int_list (fin' hb) | exact IsiPair.int_tuple (fin' hb)
  | str k =>
    simp only [Rep] at rd; subst rd; obtain ⟨t, rfl⟩ := r1
    rcases hT with rfl | rfl | rfl | rfl | rfl <;> simp [isOf] at hb <;> first
      | exact IsiPair.str_str (fin hb) | exact IsiPair.str_int (fin' hb) | exact IsiPair.str_bool (fin' hb) | exact IsiPair.str_list (fin' hb) | exact IsiPair.str_tuple (fin' hb)
  | lst k =>
    simp only [Rep] at rd; obtain ⟨a, ws, rfl, e, t⟩ := rd; cases r1
    obtain ⟨its, rr, ⟨o, n, eo, c, _, _⟩, _⟩ := I.list (SqL.of (K := X.K) (fh _ _ e))
    rcases hT with rfl | rfl | rfl | rfl | rfl <;> simp [isOf] at hb <;> first
      | exact IsiPair.list_str eo c (fin' hb) | exact IsiPair.list_int eo c (fin' hb) | exact IsiPair.list_bool eo c (fin' hb) | exact IsiPair.list_list eo c (fin hb) | exact IsiPair.list_tuple eo c (fin' hb)
  | scr k =>
    simp only [Rep] at rd; obtain ⟨a, rfl, e⟩ := rd; cases r1
    obtain ⟨its, rr, ⟨o, n, eo, c, _, _⟩, _⟩ := I.list (fh.seq e)
    rcases hT with rfl | rfl | rfl | rfl | rfl <;> simp [isOf] at hb <;> first
      | exact IsiPair.list_str eo c (fin' hb) | exact IsiPair.list_int eo c (fin' hb) | exact IsiPair.list_bool eo c (fin' hb) | exact IsiPair.list_list eo c (fin hb) | exact IsiPair.list_tuple eo c (fin' hb)
  | tup k =>
    simp only [Rep] at rd; obtain ⟨a, ws, rfl, e, t⟩ := rd; cases r1
    obtain ⟨its, rr, ⟨o, eo, c, _, _⟩, _⟩ := I.tuple (Same.seqT fh e)
    rcases hT with rfl | rfl | rfl | rfl | rfl <;> simp [isOf] at hb <;> first
      | exact IsiPair.tuple_str eo c (fin' hb) | exact IsiPair.tuple_int eo c (fin' hb) | exact IsiPair.tuple_bool eo c (fin' hb) | exact IsiPair.tuple_list eo c (fin' hb) | exact IsiPair.tuple_tuple eo c (fin hb)
theorem cd_isi : CallD X (.builtin "isinstance") isiD := ⟨_, call_isi, fun F H vs ds Q fh r h => by
  unfold isiD at h
  cases q : tyOf2 ds with
  | none => rw [q] at h; exact h.elim
  | some dT =>
    obtain ⟨d, T⟩ := dT
    rw [q] at h
    have e := tyOf2_eq q
    subst e
    obtain ⟨v, w, rfl, r1, r2⟩ := r.two
    simp only [Rep] at r2; subst r2
    simp only at h
    cases q2 : isOf d T with
    | no => rw [q2] at h; exact h.elim
    | ex c => exfalso; unfold isOf at q2; cases d <;> simp at q2 <;> (repeat (first | (split at q2) | cases q2))
    | ok b => rw [q2] at h; exact ⟨F, d, v, T, b, fh, r1, rfl, q2, h _ F H (Ext.refl fh) (by simp only [Rep])⟩⟩
def boolsOf : List D → Option (List Bool)
  | [] => some []
  | .bl b :: r => (boolsOf r).map (b :: ·)
  | _ => none
def allD (ds : List D) : Rs D := match ds with
  | [.lst xs] => match boolsOf xs with
    | some bs => .ok (.bl (bs.all id))
    | none => .no
  | _ => .no
theorem bools_vals {K : PySem.W.Frag} {F : Hp} : ∀ {ds : List D} {bs : List Bool} {vs : List V} {us : List Value}, boolsOf ds = some bs → Reps K F ds vs → Vals vs us → us = bs.map Value.bool
  | [], bs, vs, us, h, r, rv => by simp only [Reps] at r; subst r; cases rv; cases h; rfl
  | .bl x :: ds, ys, vs, us, h, r, rv => by
    simp only [Reps, Rep] at r
    obtain ⟨v, r', rfl, rfl, t⟩ := r
    simp only [boolsOf] at h
    cases q : boolsOf ds with
    | none => rw [q] at h; cases h
    | some zs =>
      rw [q] at h; cases h
      cases rv with
      | cons r1 r2 =>
        cases r1
        rw [bools_vals q t r2]; rfl
  | .non :: _, _, _, _, h, _, _ => by cases h
  | .str _ :: _, _, _, _, h, _, _ => by cases h
  | .int _ :: _, _, _, _, h, _, _ => by cases h
  | .lst _ :: _, _, _, _, h, _, _ => by cases h
  | .tup _ :: _, _, _, _, h, _, _ => by cases h
  | .scr _ :: _, _, _, _, h, _, _ => by cases h
  | .raw _ :: _, _, _, _, h, _, _ => by cases h
  | .exc _ :: _, _, _, _, h, _, _ => by cases h
  | .dct _ _ :: _, _, _, _, h, _, _ => by cases h
theorem range_all_get (bs : List Bool) : (List.range bs.length).all (fun i => bs.getD i false) = bs.all id := by
  rw [Bool.eq_iff_iff, List.all_eq_true, List.all_eq_true]
  constructor
  · intro h x hx
    obtain ⟨i, hi, rfl⟩ := List.mem_iff_getElem.mp hx
    have := h i (List.mem_range.mpr hi)
    simpa [List.getD_eq_getElem?_getD, hi] using this
  · intro h i hi
    have hi := List.mem_range.mp hi
    have := h bs[i] (List.getElem_mem hi)
    simpa [List.getD_eq_getElem?_getD, hi] using this
theorem call_all1 (hc : X.calm = true) : CallR X (.builtin "all") (fun vs H Q => ∃ a ws F ds bs, vs = [.ref a] ∧ H a = some (.lst ws) ∧ Reps X.K F ds ws ∧ boolsOf ds = some bs ∧ Q (.bl (bs.all id)) H) := by
  intro pins s σ H vs us Q I r h
  obtain ⟨a, ws, F, ds, bs, rfl, e, t, hb, q⟩ := h
  obtain ⟨u, rfl, r1⟩ := vals1 r
  cases r1
  obtain ⟨its, rr, p, _⟩ := I.list (SqL.of (K := X.K) e)
  have ei := bools_vals hb t rr
  subst ei
  have hh : X.A.in1.handled = none := I.ok.hd hc
  have hlt : a < s.heap.objs.size := I.hok.lt e
  refine call_all_walk (wpAny_pyIter_list p.isList ⟨s.heap.objs.size, _, _, _, _, _, fun i => bs.getD i false, rfl, Walks.list hh s.heap.objs.size a (Nat.ne_of_lt hlt) (bs.map Value.bool).toArray, ⟨⟨_, Heap.get?_push_size _ rfl, rfl, rfl⟩, p.isList.push _⟩, fun i v s' Q' E' hP hQ => ?_, fun h' tk hk => ?_⟩)
  · have hP : (bs.map Value.bool)[i]? = some v := by simpa using hP
    rw [List.getElem?_map] at hP
    cases z : bs[i]? with
    | none => rw [z] at hP; cases hP
    | some b =>
      rw [z] at hP
      cases hP
      exact wpAny_truthy_bool (by simpa [List.getD_eq_getElem?_getD, z] using hQ)
  · have en : (bs.map Value.bool).toArray.size = bs.length := by simp
    rw [en, range_all_get]
    have I1 : Inv X pins σ H { s with heap := s.heap.push { cls := .type "list_iterator", data := .fields #[.ref a, .int 0 0] } } := I.kept (t' := s.toks) fun b o e => Heap.get?_push_of_some _ e
    have fk := I.fpOk (H' := H) (Nat.le_refl s.heap.objs.size) (I.hok.fresh (Nat.le_refl _))
    refine ⟨.bl (bs.all id), H, turnedL (s := { s with heap := s.heap.push { cls := .type "list_iterator", data := .fields #[.ref a, .int 0 0] } }) (ch := [s.heap.objs.size]) I1 (fun b o hb e => hk b o hb e) (fun b hb => ?_) (fun b hb => ?_), rfl, q⟩
    · have z : b = s.heap.objs.size := by simpa using hb
      subst z; exact fk
    · have z : b = s.heap.objs.size := by simpa using hb
      subst z; exact fk.1
theorem cd_all (hc : X.calm = true) : CallD X (.builtin "all") allD := ⟨_, call_all1 hc, fun F H vs ds Q fh r h => by
  cases ds with
  | nil => exact h.elim
  | cons d r2 =>
    cases r2 with
    | cons a b => cases d <;> exact h.elim
    | nil =>
      cases d with
      | lst xs =>
        obtain ⟨v, rfl, q⟩ := r.one
        simp only [Rep] at q; obtain ⟨a, ws, rfl, e, t⟩ := q
        simp only [allD] at h
        cases z : boolsOf xs with
        | none => rw [z] at h; exact h.elim
        | some bs => rw [z] at h; exact ⟨a, ws, F, xs, bs, rfl, fh _ _ e, t, z, h _ F H (Ext.refl fh) (by simp only [Rep])⟩
      | _ => exact h.elim⟩
end
end FD
set_option Elab.async false
set_option linter.all false
set_option maxRecDepth 100000
namespace FD
open PySem PySem.Spec PyProof.Rows L2
variable [Tabs]
section
variable {X : Cx} {pos : Pos} {e tg : Expr} {es : List Expr} {fe : FE} {fs : FA}
def rSlS : V → Option Int → Option Int → Hp → VK → Prop := fun x lo hi H Q => ∃ z, x = .str z ∧ z.length ≤ sizeLine ∧ Q (.str (Txt.slice z lo hi)) H
theorem sl_str : SlR X rSlS := by
  intro pins s σ H x v vl vu lo hi sl Q I rx hs pl pu h
  obtain ⟨z, rfl, hz, q⟩ := h
  obtain ⟨t, rfl⟩ := rx
  refine ⟨"str", _, F.slot_str_getitem.lookup, typeIs_str _ _ _, ?_⟩
  obtain ⟨o, e, c, d⟩ := hs
  have fin : ∀ t' k, EP X pins σ Q (.str (Txt.slice z lo hi) t') { s with toks := k } := fun t' k => ⟨.str _, H, I.tok _, ⟨_, rfl⟩, q⟩
  have hl := Nat.le_trans (Txt.slice_le z lo hi) hz
  cases pl with
  | none =>
    cases pu with
    | none => exact wpAny_getItem_str_slice (l := none) (u := none) (st := none) ⟨o, e, c, d⟩ rfl (post_val_or_str ⟨hl, fin⟩)
    | int j uj => exact wpAny_getItem_str_slice (l := none) (u := some (j, uj)) (st := none) ⟨o, e, c, d⟩ rfl (post_val_or_str ⟨hl, fin⟩)
  | int i ui =>
    cases pu with
    | none => exact wpAny_getItem_str_slice (l := some (i, ui)) (u := none) (st := none) ⟨o, e, c, d⟩ rfl (post_val_or_str ⟨hl, fin⟩)
    | int j uj => exact wpAny_getItem_str_slice (l := some (i, ui)) (u := some (j, uj)) (st := none) ⟨o, e, c, d⟩ rfl (post_val_or_str ⟨hl, fin⟩)
def cutD (xs : List D) (lo hi : Option Int) : List D := (xs.drop (HT.sIx xs.length 0 lo)).take (HT.sIx xs.length xs.length hi - HT.sIx xs.length 0 lo)
def slD (d : D) (lo hi : Option Int) : Rs D := match d with
  | .str x => if x.length ≤ sizeLine then .ok (.str (Txt.slice x lo hi)) else .no
  | .lst ds => .ok (.lst (cutD ds lo hi))
  | _ => .no
abbrev FO := DS → Rs (Option Int)
def oNone : FO := fun _ => .ok none
def oSome (fe : FE) : FO := fun τ => (fe τ).bind fun d => match d with
  | .int i => .ok (some i)
  | _ => .no
def tOs (X : Cx) (f : FO) : TO := fun σ H Q => ∃ F τ, RV X.K F τ σ H ∧ Ok X (f τ) fun o => ∀ F' H', Ext F H F' H' → Q o H'
def PDO (X : Cx) (e : Option Expr) (f : FO) : Prop := PO X e (tOs X f)
theorem PO.imp {e : Option Expr} {t t' : TO} (h : PO X e t) (f : ∀ σ H Q, t' σ H Q → t σ H Q) : PO X e t' := fun pins s σ H Q I q => h pins s σ H Q I (f _ _ _ q)
theorem pdo_none : PDO X none oNone := PO.imp po_none fun σ H Q ⟨F, τ, R, h⟩ => h F H (Ext.refl R.fh)
theorem pdo_some (h : PDE X e fe) : PDO X (some e) (oSome fe) := PO.imp (po_some h) fun σ H Q ⟨F, τ, R, h⟩ => tE.of R h.bind fun d v F1 H1 g x R1 r => by
  cases d with
  | int i => simp only [Rep] at r; exact ⟨i, r, g F1 H1 x⟩
  | _ => exact g.elim
def eSl (fe : FE) (fl fh : FO) : FE := fun τ => (fe τ).bind fun d => (fl τ).bind fun l => (fh τ).bind fun u => slD d l u
theorem pde_sl {lo hi : Option Expr} {fl fh : FO} {p2 : Pos} (he : PDE X e fe) (hl : PDO X lo fl) (hu : PDO X hi fh) : PDE X (.Subscript e (.Slice lo hi none p2) pos) (eSl fe fl fh) :=
  PE.imp (pe_slice (sl_str.or sl_list) he hl hu) fun σ H Q ⟨F, τ, R, h⟩ => tE.of R h.bind fun d v F1 H1 g x R1 r => by
    refine ⟨F1, τ, R1, g.bind.imp fun l gl F2 H2 x2 => ⟨F2, τ, R1.ext x2, gl.bind.imp fun u gu F3 H3 x3 => ?_⟩⟩
    have f3 := x3.fh
    have x13 := x.trans (x2.trans x3)
    cases d with
    | str z =>
      simp only [Rep] at r
      obtain ⟨zz, gu⟩ := ok_ite gu
      exact .inl ⟨z, r, zz, gu _ F3 H3 x13 (by simp only [Rep])⟩
    | lst ds =>
      simp only [Rep] at r; obtain ⟨a, vs, rfl, e1, t⟩ := r
      have gu : Ev X.K F H Q (.lst (cutD ds l u)) := gu
      refine .inr ⟨a, vs, rfl, SqL.of (f3 _ _ (x3.ff _ _ (x2.ff _ _ e1))), fun p hp => gu _ _ _ (x13.trans (Ext.new f3 hp)) ?_⟩
      simp only [Rep]
      refine ⟨p, _, rfl, upd_same, ?_⟩
      have t3 : Reps X.K F3 (cutD ds l u) (cutV vs l u) := by
        unfold cutD cutV
        rw [← t.length]
        exact ((t.mono (x2.ff.trans x3.ff)).drop _).take _
      exact t3.mono (same_upd (none_of_same f3 hp))
    | _ => exact gu.elim
theorem pde_gl {x : Str} {v : V} {u : Value} {d : D} (hg : Gl X x) (hm : X.mg x = some u) (r : RelV v u) (rd : ∀ F, Rep X.K F d v) (hd : (x == ("__debug__" : Str)) = false := by decide) : PDE X (.Name x pos) (eC d) := pde_c (pe_glob hg hm r hd) rd
theorem pde_glS {x : Str} {y : Str} {t : Tok} (hg : Gl X x) (hm : X.mg x = some (.str y t)) (hd : (x == ("__debug__" : Str)) = false := by decide) : PDE X (.Name x pos) (eC (.str y)) := pde_gl (v := .str y) hg hm ⟨t, rfl⟩ (fun _ => by simp only [Rep]) hd
theorem pde_glI {x : Str} {y : Int} {t : Tok} (hg : Gl X x) (hm : X.mg x = some (.int y t)) (hd : (x == ("__debug__" : Str)) = false := by decide) : PDE X (.Name x pos) (eC (.int y)) := pde_gl (v := .int y) hg hm ⟨t, rfl⟩ (fun _ => by simp only [Rep]) hd
theorem pde_ty {x : Str} {T : String} (hg : Gl X x) (hm : X.mg x = none) (hv : bootBuiltins x = some (.type T)) (hn : x ≠ "__name__" := by decide) (hd : (x == ("__debug__" : Str)) = false := by decide) : PDE X (.Name x pos) (eC (.raw (.ty T))) :=
  pde_c (pe_bltn (v := .ty T) hg hm hv rfl hn hd) fun _ => by simp only [Rep]
end
end FD
set_option Elab.async false
set_option linter.all false
set_option maxRecDepth 100000
namespace FD
open PySem PySem.Spec PyProof.Rows L2
variable [Tabs]
section
variable {X : Cx} {pos : Pos} {e tg : Expr} {es : List Expr} {fe : FE} {fs : FA}
def iAnyT (K : PySem.W.Frag) (tl : TE) : TI := fun σ H R => tl σ H fun x H1 => (∃ a, x = .ref a ∧ (∃ xs, SqL K H1 a xs) ∧ R (Itl K a) H1) ∨ (∃ a, x = .ref a ∧ (∃ xs, SqT K H1 a xs) ∧ R (Itt K a) H1) ∨ ∃ z, x = .str z ∧ R (Its z) H1
theorem pi_any {l : Expr} {tl : TE} (hl : PE X l tl) : PI X tg l (iAnyT X.K tl) := by
  intro pins s σ H R I h
  refine thn (hl pins s σ H _ I h) fun v s1 ⟨x, H1, I1, r1, q1⟩ => ?_
  rcases q1 with ⟨a, e, ⟨xs, hq⟩, q⟩ | ⟨a, e, ⟨xs, hq⟩, q⟩ | ⟨z, e, q⟩
  · subst e
    cases r1
    obtain ⟨its, rv, p, hz⟩ := I1.list hq
    refine wpAny_pyIter_list p.isList ?_
    refine ⟨s1.heap.objs.size, [s1.heap.objs.size], _, _, H1, rfl, I1.kept (t' := s1.toks) fun b o e => Heap.get?_push_of_some _ e, turn_list a _, ⟨_, Heap.get?_push_size _ rfl, rfl, rfl⟩, fun b hb => ?_, q⟩
    have e : b = s1.heap.objs.size := by simpa using hb
    subst e
    exact I1.fpOk (Nat.le_refl _) (I1.hok.fresh (Nat.le_refl _))
  · subst e
    cases r1
    obtain ⟨its, rv, p, hz⟩ := I1.tuple hq
    refine wpAny_pyIter_tuple (show s1.heap.IsTuple a its.toArray from p) ?_
    refine ⟨s1.heap.objs.size, [s1.heap.objs.size], _, _, H1, rfl, I1.kept (t' := s1.toks) fun b o e => Heap.get?_push_of_some _ e, turn_tuple a _, ⟨_, Heap.get?_push_size _ rfl, rfl, rfl⟩, fun b hb => ?_, q⟩
    have e : b = s1.heap.objs.size := by simpa using hb
    subst e
    exact I1.fpOk (Nat.le_refl _) (I1.hok.fresh (Nat.le_refl _))
  · subst e
    obtain ⟨t, rfl⟩ := r1
    have fin : ∀ (ty : String), (ty = "str_ascii_iterator" ∨ ty = "str_iterator") → PIE X pins σ tg R (.ref s1.heap.objs.size) { s1 with heap := s1.heap.push { cls := .type ty, data := .fields #[.str z t, .int 0 0] } } := fun ty hty => by
      refine ⟨s1.heap.objs.size, [s1.heap.objs.size], _, _, H1, rfl, I1.kept (t' := s1.toks) fun b o e => Heap.get?_push_of_some _ e, turn_str hty, ⟨_, Heap.get?_push_size _ rfl, rfl, rfl⟩, fun b hb => ?_, q⟩
      have e : b = s1.heap.objs.size := by simpa using hb
      subst e
      exact I1.fpOk (Nat.le_refl _) (I1.hok.fresh (Nat.le_refl _))
    cases ha : z.cps.all (· < 128)
    · exact wpAny_pyIter_wide ha (fin _ (.inr rfl))
    · exact wpAny_pyIter_ascii ha (fin _ (.inl rfl))
def iterD : D → Rs (List D)
  | .lst ds => .ok ds
  | .scr ns => .ok (ns.map .int)
  | .tup ds => .ok ds
  | .str x => .ok (signsD x)
  | _ => .no
def iAny (fe : FE) : FA := fun τ => (fe τ).bind iterD
theorem pdi_any (he : PDE X e fe) : PDI X tg e (iAny fe) :=
  PI.imp (pi_any he) fun σ H R ⟨F, τ, Rv, h⟩ => tE.of Rv h.bind fun d v F1 H1 g x R1 r => by
    cases d with
    | lst ds =>
      simp only [Rep] at r; obtain ⟨a, vs, rfl, q, t⟩ := r
      exact .inl ⟨a, rfl, ⟨vs, SqL.of (R1.fh _ _ q)⟩, g _ F1 H1 x (it_list (SqL.of q) t)⟩
    | scr ns =>
      simp only [Rep] at r; obtain ⟨a, rfl, q⟩ := r
      exact .inl ⟨a, rfl, ⟨_, R1.fh.seq q⟩, g _ F1 H1 x (it_list q (Reps.ints ns))⟩
    | tup ds =>
      simp only [Rep] at r; obtain ⟨a, vs, rfl, q, t⟩ := r
      exact .inr (.inl ⟨a, rfl, ⟨vs, Same.seqT R1.fh q⟩, g _ F1 H1 x (it_tup q t)⟩)
    | str z => simp only [Rep] at r; exact .inr (.inr ⟨z, r, g _ F1 H1 x it_str⟩)
    | _ => exact g.elim
end
def DefOk (P : Program) (w : World) (K : PySem.W.Frag) (mg : Str → Option Value) (base : Heap) (x : Str) (k n : Nat) (ps : List Str) (g : List D → Rs D) : Prop :=
  ∃ f fd, FnOk P w K mg base CX0 k f fd ps (spD K n g) ∧ Binds K fd ps [] ∧ PySem.W.keepIn K (.ref f) = true ∧ mg x = some (.ref f)
structure DefAt (K : PySem.W.Frag) (mg : Str → Option Value) (x : Str) (st : Stmt) (f : Addr) (fd : FuncData) : Prop where
  fn : Fun K x x st f fd
  at_ : mg x = some (.ref f)
section
variable {P : Program} {w : World} {K : PySem.W.Frag} {mg : Str → Option Value} {base : Heap}
theorem DefOk.mk {x : Str} {st : Stmt} {f : Addr} {fd : FuncData} {N ps : List Str} {k n : Nat} {fb : FS} {g : List D → Rs D} (D : DefAt K mg x st f fd) (S : FnScope N ps (defScope st)) (hn : ps.length = n)
    (hb : ∀ (kV doc pm : Value) (an : Option Addr) (cdv ct : Value) (us : List Value), us.length = ps.length → bindArgs (PySem.W.fnOf x x (defArgs st) (defBody st) (defScope st) .none kV doc pm an cdv ct) ⟨us, []⟩ = pure (ps.zip us))
    (hbody : ∀ (cdv : Value) (A : Around) (outer : List Env) (s : Shared) (H : Hp) (E : XK), Room k (A.deeper (envOfC x (defScope st) s.heap.objs.size f cdv)) →
      PDSs (cxOf CX0 P w K mg base N x (defScope st) f cdv A outer s H E).nox (defBody st) fb)
    (hg : ∀ ds d, ds.length = n → g ds = .ok d → runF N.length fb ds = .ok d) : DefOk P w K mg base x (k + 1) n ps g :=
  ⟨f, fd, FnD.to (fnD D.fn S hn hbody) hg, D.fn.binds hb, D.fn.kp, D.at_⟩
end
section
variable {X : Cx} {pos : Pos} {e tg : Expr} {es : List Expr} {fe : FE} {fs : FA}
theorem pde_def {k n : Nat} {ps : List Str} {g : List D → Rs D} {x : Str} {p : Pos} (D : DefOk X.prog X.w X.K X.mg X.base x k n ps g) (hr : Room k X.A) (ha : PDA X (e :: es) fs) (hfs : ∀ τ ds, fs τ = .ok ds → ds.length = (e :: es).length) (hn : (e :: es).length = n := by rfl) (hg : Gl X x := by rfl) (hdb : (x == ("__debug__" : Str)) = false := by decide)
    (he : starEach (e :: es) X.env = (false, eval e X.env) :: starEach es X.env := by rfl) (hpl : (backTo pos (starEach es X.env)).any (·.1) = false := by rfl) : PDE X (.Call (.Name x p) (e :: es) [] pos) (eCall g fs) := by
  obtain ⟨f, fd, F, hb, hk, hm⟩ := D
  exact pde_call F hr hg hm hk hb ha hn hfs hdb he hpl
end
theorem room128 {k : Nat} {A : Around} (r : Room k A) : A.units + 128 < cLine := by have := r.un; omega
end FD
set_option Elab.async false
set_option linter.all false
set_option maxRecDepth 100000
namespace FD
open PySem PySem.Spec PyProof.Rows L2
variable [Tabs]
section
variable {X : Cx} {pos : Pos} {e a b : Expr} {fe fa fb : FE}
end
def spLaw (K : PySem.W.Frag) : Sp := fun vs H Q _ => ∃ (a : Addr) (ns : List Int) (F : Hp), vs = [.ref a] ∧ Same F H ∧ TbT F H ∧ SqL K F a (ns.map V.int) ∧ ns.length ≤ 63 ∧ ∀ H', Q (.bl true) H'
theorem law_fn {P : Program} {w : World} {K : PySem.W.Frag} {mg : Str → Option Value} {base : Heap} {k : Nat} {g : List D → Rs D} {p : Str} {f : Addr} {fd : FuncData} (F : FnOk P w K mg base CX0 k f fd [p] (spD K 1 g)) (h : ∀ ns : List Int, ns.length ≤ 63 → g [.scr ns] = .ok (.bl true)) :
    FnOk P w K mg base CX0 k f fd [p] (spLaw K) := by
  refine F.imp fun vs H Q E ⟨a, ns, Fz, e, fh, tt, hS, h63, q⟩ => ?_
  subst e
  refine ⟨rfl, [.scr ns], Fz, fh, tt, Reps.cons (by simp only [Rep]; exact ⟨a, rfl, hS⟩) Reps.nil, ?_⟩
  rw [h ns h63]
  intro v F' H' _ r
  simp only [Rep] at r
  subst r
  exact q H'
theorem walk {l : PySem.W.OpenLaw} {q : Program} {loose : List Str} {XP : (Str → Option Value) → Heap → Prop} {YP : World → Heap → Prop} {d : DefRec} {K : Params → PySem.W.Frag} {k : Nat} {p : Str} (hn : l.most = some 63) (hdf : d.params.defaults = []) (hk : Room k callerA)
    (hY : ∀ (w : World) (h : Heap), YP w h → (K w.params).In h)
    (F : ∀ (w : World) (mg : Str → Option Value) (fa : Addr) (h : Heap), (K w.params).In h → h.Ns mainGlobals mg → mg d.name = some (.ref fa) →
      ∃ fd : FuncData, (∀ (s : Shared) (u : Value), BindsTo s fd ⟨[u], []⟩ [(p, u)]) ∧ ∀ base : Heap, (K w.params).In base → base.Ns mainGlobals mg → FnOk l.prog w (K w.params) mg base CX0 k fa fd [p] (spLaw (K w.params)))
    (ht : Tabs.rows = [] := by rfl) :
    PySem.W.WalkO q loose XP YP l.row.toRowW d [] (fun f vs => PySem.call f vs) :=
  L2.walk_of (n := 63) (k := k) (x := p) (CX := fun _ => CX0) (sp := fun w => spLaw (K w.params)) hn (by decide) hdf hk hY F (fun _ H a ns hl hO hS => ⟨a, ns, H, rfl, Same.refl H, ⟨(fun r hr => by rw [ht] at hr; cases hr), fun d b e => by rcases hO d with z | ⟨_, _, z⟩ <;> (rw [z] at e; cases e)⟩, hS, hl, fun _ => rfl⟩) fun _ _ _ _ _ z => z
end FD
set_option Elab.async false
set_option linter.all false
set_option maxRecDepth 100000
namespace FD
open PySem PySem.Spec PyProof.Rows L2
variable [Tabs]
section
variable {X : Cx} {pos : Pos} {e tg : Expr} {es : List Expr} {fe : FE} {fs : FA}
theorem reps_rng {K : PySem.W.Frag} {F : Hp} (lo : Int) (n : Nat) : Reps K F (rngD lo n) ((List.range n).map fun (k : Nat) => V.int (lo + k)) := by
  unfold rngD
  generalize List.range n = l
  induction l with
  | nil => exact Reps.nil
  | cons a r ih => exact Reps.cons (by simp only [Rep]) ih
theorem vals_rng {lo : Int} {acc : Array Value} {n : Nat} (h : ItemsOf (fun i v => ∃ t, v = Value.int (lo + i * 1) t) acc n) : Vals ((List.range n).map fun (k : Nat) => V.int (lo + k)) acc.toList := by
  obtain ⟨hn, hi⟩ := h
  have key : ∀ (l : List Value) (j : Nat), (∀ k v, l[k]? = some v → ∃ t, v = Value.int (lo + ((j + k : Nat) : Int)) t) → Vals ((List.range' j l.length).map fun (k : Nat) => V.int (lo + k)) l := fun l => by
    induction l with
    | nil => intro j _; exact .nil
    | cons a r ih =>
      intro j hj
      rw [List.length_cons, List.range'_succ, List.map_cons]
      refine .cons ?_ (ih (j + 1) fun k v hv => ?_)
      · obtain ⟨t, rfl⟩ := hj 0 a rfl
        exact ⟨t, by simp⟩
      · obtain ⟨t, e⟩ := hj (k + 1) v (by simpa using hv)
        exact ⟨t, by rw [e]; congr 2; omega⟩
  have := key acc.toList 0 fun k v hv => by
    obtain ⟨t, e⟩ := hi k v (by simpa using hv)
    exact ⟨t, by rw [e]; simp⟩
  rw [Array.length_toList, hn, ← List.range_eq_range'] at this
  exact this
def lstRg (fi : FA) : FA := fun τ => (fi τ).bind fun ds => if ds.length ≤ 16777216 then .ok ds else .no
theorem list_rng {pins : List (Addr × Obj)} {σ : St} {F H F1 H1 : Hp} {s1 : Shared} {Q : VK} {lo hi : Int} {t u v : Tok} {tk : Nat} (hc : X.calm = true) (I1 : Inv X pins σ H1 s1) (h1 : -(2 ^ 62) ≤ lo) (h2 : lo < 2 ^ 62) (h3 : -(2 ^ 62) ≤ hi) (h4 : hi < 2 ^ 62) (hz : (rngD lo (hi - lo).toNat).length ≤ 16777216)
    (x : Ext F H F1 H1) (q : ∀ p vs F' H', Ext F H F' H' → H' p = none → Reps X.K F' (rngD lo (hi - lo).toNat) vs → Q (.ref p) (upd H' p (.lst vs))) :
    wpAny (model X.prog X.w) X.A (call (.type "list") [.ref s1.heap.objs.size]) (EP X pins σ Q) X.xe { s1 with heap := s1.heap.push { cls := .type "range", data := .fields #[.int lo t, .int hi u, .int 1 v] }, toks := tk } := by
  have I2 : Inv X pins σ H1 { s1 with heap := s1.heap.push { cls := .type "range", data := .fields #[.int lo t, .int hi u, .int 1 v] }, toks := tk } := I1.kept fun b o e => Heap.get?_push_of_some _ e
  have hl : (rngD lo (hi - lo).toNat).length = (hi - lo).toNat := by simp [rngD]
  rw [hl] at hz
  refine call_list_range (n := (hi - lo).toNat) (I2.ok.hd hc) (IsRange.new ..) (small_one h1 h2 h3 h4) (by rw [rangeSize_one]; split <;> omega) (by omega) fun h' tk' acc' c' hk hS' hacc => ?_
  have rel := vals_rng hacc
  refine ⟨.ref _, _, I2.laid (t' := tk') hk (Nat.le_refl _) (o := .lst ((List.range (hi - lo).toNat).map fun (k : Nat) => V.int (lo + k))) ⟨by rw [List.length_map, List.length_range, sizeLine_eq]; exact hz, acc'.toList, c', rel, by simpa using hS'⟩, rfl, q _ _ _ _ x (I2.hok.fresh (Nat.le_refl _)) (reps_rng _ _)⟩
theorem pdf_list_range2 {a b : Expr} {p p2 pos2 : Pos} (hc : X.calm = true) (hl : Gl X "list") (hml : X.mg "list" = none) (hg : Gl X "range") (hm : X.mg "range" = none) (ha : PDA X [a, b] fs) (hs : starEach [a, b] X.env = [(false, eval a X.env), (false, eval b X.env)] := by rfl) (hs2 : starEach [b] X.env = [(false, eval b X.env)] := by rfl)
    (he : starEach [.Call (.Name "range" p2) [a, b] [] pos2] X.env = (false, eval (.Call (.Name "range" p2) [a, b] [] pos2) X.env) :: starEach [] X.env := by rfl) (hpl : (backTo pos (starEach [] X.env)).any (·.1) = false := by rfl) :
    PDF X (.Call (.Name "list" p) [.Call (.Name "range" p2) [a, b] [] pos2] [] pos) (lstRg (iRg2 fs)) := by
  intro pins s σ H Q I ⟨F, τ, R, h⟩
  refine wpAny_Call_Name_kw (ld_blt I hl hml PyProof.Rows.boot_list ?_)
  refine PyProof.Rows.callWith_type1 ?_ he hpl
  rw [he]
  show wpAny _ _ (spliced ((false, eval (.Call (.Name "range" p2) [a, b] [] pos2) X.env) :: backTo pos (starEach [] X.env))) _ _ s
  refine Calls.spliced_cons ?_
  have h := h.bind
  unfold iRg2 at h
  have h := h.bind
  generalize hG : (fun ds => Ok X (match int2 ds with | some (i, j) => if (-(2 ^ 62) ≤ i ∧ i < 2 ^ 62) ∧ -(2 ^ 62) ≤ j ∧ j < 2 ^ 62 then Rs.ok (rngD i (j - i).toNat) else Rs.no | none => Rs.no) fun a => Ok X (if a.length ≤ 16777216 then Rs.ok a else Rs.no) fun ds => ∀ (p : Addr) (vs : List V) (F' H' : Hp), Ext F H F' H' → H' p = none → Reps X.K F' ds vs → Q (V.ref p) (upd H' p (HO.lst vs))) = G at h
  refine Call_ (ld_blt I hg hm boot_range (PyProof.Rows.callWith_type1 (thn (ha pos2 pins s σ H (fun vs H1 => ∃ ds F1, G ds ∧ Ext F H F1 H1 ∧ RV X.K F1 τ σ H1 ∧ Reps X.K F1 ds vs) I (tAs.of R h fun ds vs F1 H1 g x R1 r => ⟨ds, F1, g, x, R1, r⟩)) fun us s1 ⟨vs, H1, I1, r1, ds, F1, g, x, R1, r⟩ => ?_) (by rw [hs, hs2]) (by rw [hs2]; rfl)))
  subst hG
  cases q1 : int2 ds with
  | none => simp only [q1] at g; exact g.elim
  | some ij =>
    obtain ⟨i, j⟩ := ij
    simp only [q1] at g
    have e := int2_eq q1
    subst e
    obtain ⟨v, w, rfl, q, q'⟩ := r.two
    simp only [Rep] at q q'; subst q; subst q'
    obtain ⟨z, g⟩ := ok_ite g
    obtain ⟨zl, g⟩ := ok_ite g
    cases r1 with
    | cons ra rr =>
      cases rr with
      | cons rb rr =>
        cases rr
        obtain ⟨t, rfl⟩ := ra
        obtain ⟨t', rfl⟩ := rb
        refine call_range_2 ?_
        refine Calls.spliced_nil ?_
        exact list_rng hc I1 z.1.1 z.1.2 z.2.1 z.2.2 zl x g
end
end FD
set_option Elab.async false
set_option linter.all false
set_option maxRecDepth 100000
namespace FD
open PySem PySem.Spec PyProof.Rows L2
variable [Tabs]
section
open PySem.SeqAt
open PySem.AutoSeq1 (wpAny_loadPart')
open PySem.MeetsSeq PySem.MeetsSeq2 PySem.MeetsSeq3
end
section
variable {X : Cx}
end
end FD
set_option Elab.async false
set_option linter.all false
set_option maxRecDepth 100000
namespace FD
open PySem PySem.Spec PyProof.Rows L2
variable [Tabs]
section
variable {X : Cx}
def str1int : D → D → Option (Str × Int)
  | .str x, .int k => some (x, k)
  | _, _ => none
theorem str1int_eq {d e : D} {x : Str} {k : Int} (h : str1int d e = some (x, k)) : d = .str x ∧ e = .int k := by
  unfold str1int at h; split at h <;> cases h; exact ⟨rfl, rfl⟩
def mulSD (d e : D) : Rs D := match str1int d e with
  | some (x, k) => if x.length ≤ 1000 ∧ 0 ≤ k ∧ k ≤ 1000 then .ok (.str ⟨(List.replicate k.toNat x.cps.toList).flatten.toArray⟩) else .no
  | none => .no
theorem fold_app : ∀ (n : Nat) (a b : Array Nat), ((List.replicate n a).foldl (· ++ ·) b).toList = b.toList ++ (List.replicate n a.toList).flatten
  | 0, a, b => by simp
  | n + 1, a, b => by
    rw [List.replicate_succ, List.foldl_cons, fold_app n a (b ++ a), List.replicate_succ, List.flatten_cons]
    simp
theorem op_mulS : OpR X (binaryOp .Mult) (fun x y H Q => ∃ i k, x = .str i ∧ y = .int k ∧ i.length ≤ 1000 ∧ 0 ≤ k ∧ k ≤ 1000 ∧ Q (.str ⟨(List.replicate k.toNat i.cps.toList).flatten.toArray⟩) H) := by
  intro pins s σ H x y v u Q I rx ry h
  obtain ⟨i, k, rfl, rfl, hi, h0, h1, q⟩ := h
  obtain ⟨t, rfl⟩ := rx
  obtain ⟨t', rfl⟩ := ry
  have fin : ∀ (z : Str) (t'' : Tok) (c : Nat), z = ⟨(List.replicate k.toNat i.cps.toList).flatten.toArray⟩ → EP X pins σ Q (.str z t'') { s with toks := c } := fun z t'' c e => by
    subst e
    exact ⟨.str _, H, I.tok _, ⟨_, rfl⟩, q⟩
  have hm : i.length * k.toNat ≤ 1000000 := Nat.le_trans (Nat.mul_le_mul hi (show k.toNat ≤ 1000 by omega)) (by decide)
  refine PySem.P.mul_str (by rw [decide_eq_false (by omega), decide_eq_false (by omega)]; rfl) (fun _ _ => ?_) (fun _ _ => ?_) ?_
  · have hk : 1 ≤ k := by omega
    have : (1000 : Int) ≤ (2 ^ 63 - 1) / k := by
      rw [Int.le_ediv_iff_mul_le (by omega)]
      omega
    have hi' : (i.length : Int) ≤ 1000 := by omega
    omega
  · show decide (i.length * k.toNat > sizeLine) = false
    rw [sizeLine_eq]
    exact decide_eq_false (by omega)
  · by_cases h2 : k < 1
    · have : k = 0 := by omega
      subst this
      rw [if_pos h2]
      exact ⟨by rw [sizeLine_eq]; show 0 ≤ _; omega, fin _ _ _ rfl⟩
    · rw [if_neg h2]
      by_cases h3 : (k == 1 || i.length == 0) = true
      · rw [if_pos h3]
        refine fin _ t s.toks ?_
        simp only [Bool.or_eq_true, beq_iff_eq] at h3
        rcases h3 with h3 | h3
        · subst h3
          show i = _
          obtain ⟨c⟩ := i
          simp
        · obtain ⟨c⟩ := i
          have hc : c.toList = [] := by
            have : c.size = 0 := h3
            exact List.eq_nil_of_length_eq_zero (by simpa using this)
          show Str.mk c = _
          have hc2 : c = #[] := by simpa using hc
          subst hc2
          congr 1
          have : (List.replicate k.toNat ([] : List Nat)).flatten = [] := by simp
          simp
      · rw [if_neg h3]
        have e : (⟨(List.replicate k.toNat i.cps).foldl (· ++ ·) #[]⟩ : Str) = ⟨(List.replicate k.toNat i.cps.toList).flatten.toArray⟩ := by
          have := fold_app k.toNat i.cps #[]
          congr 1
          apply Array.toList_inj.mp
          rw [this]; simp
        rw [e]
        refine ⟨?_, fin _ _ _ rfl⟩
        rw [sizeLine_eq]
        show (List.replicate k.toNat i.cps.toList).flatten.toArray.size ≤ _
        rw [List.size_toArray, len_rep, Array.length_toList]
        have : i.cps.size = i.length := rfl
        rw [this, Nat.mul_comm]
        omega
theorem opd_mulS : OpD X (binaryOp .Mult) mulSD := ⟨_, op_mulS, fun F H x y dx dy Q fh r1 r2 h => by
  unfold mulSD at h
  cases q : str1int dx dy with
  | none => rw [q] at h; exact h.elim
  | some xy =>
    obtain ⟨i, k⟩ := xy
    rw [q] at h
    obtain ⟨rfl, rfl⟩ := str1int_eq q
    simp only [Rep] at r1 r2; subst r1; subst r2
    obtain ⟨z, h⟩ := ok_ite h
    exact ⟨i, k, rfl, rfl, z.1, z.2.1, z.2.2, h _ F H (Ext.refl fh) (by simp only [Rep])⟩⟩
end
section
variable {rest : List Expr} {env : Env}
theorem st_const {a b c} : starEach (.Constant a b c :: rest) env = (false, eval (.Constant a b c) env) :: starEach rest env := rfl
theorem st_bin {a b c d} : starEach (.BinOp a b c d :: rest) env = (false, eval (.BinOp a b c d) env) :: starEach rest env := rfl
end
end FD
set_option Elab.async false
set_option linter.all false
set_option maxRecDepth 100000
namespace FD
open PySem PySem.Spec PyProof.Rows L2
variable [Tabs]
section
variable {X : Cx} {pos : Pos} {e a b : Expr} {es : List Expr} {fe fa fb : FE} {fs : FA}
def enumFrom (n : Nat) : List D → List D
  | [] => []
  | d :: r => .tup [.int n, d] :: enumFrom (n + 1) r
theorem enumFrom_len : ∀ (ds : List D) (n : Nat), (enumFrom n ds).length = ds.length
  | [], _ => rfl
  | _ :: r, n => by simp [enumFrom, enumFrom_len r]
theorem enumFrom_get : ∀ {ds : List D} {n i : Nat} {p : D}, (enumFrom n ds)[i]? = some p → ∃ d, ds[i]? = some d ∧ p = .tup [.int ((n + i : Nat) : Int), d]
  | [], _, _, _, h => by simp [enumFrom] at h
  | d :: ds, n, 0, p, h => by simp [enumFrom] at h; exact ⟨d, rfl, by simpa using h.symm⟩
  | d :: ds, n, i + 1, p, h => by
    obtain ⟨d', h2, h3⟩ := enumFrom_get (n := n + 1) (i := i) (by simpa [enumFrom] using h)
    exact ⟨d', by simpa using h2, by rw [h3]; congr 3; show ((n + 1 + i : Nat) : Int) = _; congr 1; omega⟩
end
end FD
set_option Elab.async false
set_option linter.all false
set_option maxRecDepth 100000
namespace FD
open PySem PySem.Spec PyProof.Rows L2
variable [Tabs]
theorem obj_there {P : Program} {w : World} {H : Hp} {h : Heap} {a : Addr} {o : HO} (x : ObjOk P w H h a o) : ∃ ob, h.get? a = some ob := by
  cases o with
  | lst xs => obtain ⟨_, _, _, _, e⟩ := x; exact ⟨_, e⟩
  | tup xs => obtain ⟨_, _, _, ob, e, _⟩ := x; exact ⟨_, e⟩
  | dK kvs => obtain ⟨_, _, _, _, o, _, _, e, _⟩ := x; exact ⟨_, e⟩
  | dT kvs => obtain ⟨_, _, _, _, o, _, _, e, _⟩ := x; exact ⟨_, e⟩
  | set S n => obtain ⟨o, _, _, _, e, _⟩ := x; exact ⟨_, e⟩
  | ins C dx fs => obtain ⟨_, _, _, e, _⟩ := x; exact ⟨_, e⟩
  | own y => exact x
  | xd fs => obtain ⟨_, ⟨_, _, _, e, _⟩, _⟩ := x; exact ⟨_, e⟩
  | rng lo hi => obtain ⟨_, _, _, e⟩ := x; exact ⟨_, e⟩
  | frz ob u => obtain ⟨e, _⟩ := x; exact ⟨_, e⟩
  | tbl ps => exact ⟨_, (show h.get? a = some _ from x)⟩
  | met f y => exact ⟨_, (show h.get? a = some _ from x)⟩
  | ext φ => obtain ⟨_, q, _⟩ := x; exact q
section
variable {X : Cx} {pins : List (Addr × Obj)} {σ : St} {H : Hp} {s : Shared} {h' : Heap}
theorem free_of_none (I : Inv X pins σ H s) {b : Addr} (e : s.heap.get? b = none) : H b = none := by
  cases q : H b with
  | none => rfl
  | some o => obtain ⟨ob, z⟩ := obj_there (I.hok b o q); rw [e] at z; cases z
theorem entry_none (I : Inv X pins σ H s) (hx : X.ex = []) {b : Addr} (e : s.heap.get? b = none) : X.s₀.heap.get? b = none := by
  cases q : X.s₀.heap.get? b with
  | none => rfl
  | some o => obtain ⟨ob, z⟩ := I.base.there b o q (by rw [hx]; simp); rw [e] at z; cases z
theorem nw_of_none (I : Inv X pins σ H s) (hx : X.ex = []) {b : Addr} (e : s.heap.get? b = none) : Nw X H b :=
  ⟨free_of_none I e, entry_none I hx e, fun p hp z => by
    have := (I.pin p (List.mem_append_left _ hp)).1
    rw [z, e] at this; cases this⟩
theorem fs_free (I : Inv X pins σ H s) {b : Addr} (hb : b ∈ X.fs) : H b = none := by
  obtain ⟨_, o, ho, _⟩ := I.ok.funs.mem hb
  exact I.base.free b o ho (I.ok.frf b hb) fun z => I.ok.exfs b z hb
theorem turnN {ch : List Addr} {t' : Nat} (I : Inv X pins σ H s) (hx : X.ex = []) (hch : ∀ b ∈ ch, X.s₀.heap.get? b = none ∧ H b = none ∧ b ≠ X.env.locals ∧ b ∉ X.fs ∧ (∀ x c, X.env.cells.lookup x = some c → c ≠ b) ∧ ∀ p ∈ X.pn ++ pins, p.1 ≠ b)
    (keep : ∀ b o, b ≠ X.env.locals → b ∉ X.fs → b ∉ ch → s.heap.get? b = some o → h'.get? b = some o)
    (slot : ∀ b o, (b = X.env.locals ∨ b ∈ X.fs) → s.heap.get? b = some o → ∃ sl, h'.get? b = some { o with slots := sl }) : Inv X pins σ H { s with heap := h', toks := t' } := by
  let X' : Cx := { X with ex := ch }
  have ok' : X'.Ok := ⟨I.ok.mod, I.ok.kind, I.ok.glob, I.ok.blt, I.ok.above, I.ok.inj, I.ok.has, I.ok.cab, I.ok.hd, I.ok.frames, I.ok.stk, fun b hb => ⟨(hch b hb).2.2.1, (hch b hb).2.2.2.2.1⟩, I.ok.bs, I.ok.bsz, (fun b o e hb => nomatch (hch b hb).1.symm.trans (I.ok.bs b o e).1), fun b hb => (hch b hb).2.2.2.1, I.ok.funs, I.ok.frf⟩
  have hx' : ∀ b : Addr, b ∉ X.ex := fun b => by rw [hx]; simp
  have I' : Inv X' pins σ H s := ⟨ok', I.os, I.bare, ⟨fun b o e n h1 _ => I.base.keep b o e n h1 (hx' b), fun b o e n h1 _ => I.base.slot b o e n h1 (hx' b), fun b o e n _ => I.base.free b o e n (hx' b), fun b o e _ => I.base.there b o e (hx' b), I.base.tups, I.base.frzs, I.base.tbls⟩,
    I.loc, I.cell, I.free, I.freeC, I.pin, I.hok, I.len⟩
  have hok : HOk X.prog X.w H h' := fun b u e => (I.hok b u e).stay (fun c v hc q => keep c v (fun z => ?_) (fun z => ?_) (fun z => ?_) q) (fun _ q => q) fun _ _ q => q
  have J := I'.step (g' := s.gens) (d' := s.drawn) (t' := t') (h' := h') (H' := H) (ch := ch) (fun b hb => ⟨.inl hb, (hch b hb).2.2.1, (hch b hb).2.2.2.2.1, (hch b hb).2.2.2.2.2⟩) (fun b o h1 h2 h3 e _ => keep b o h1 h2 h3 e) (fun b o _ h2 _ e _ => slot b o (.inr h2) e) (fun _ _ _ _ n => n)
    (fun b o h3 e => ?_) (fun _ _ e => e) (fun _ _ _ e => e) (fun b ps e => ⟨#[], by rw [e]; simp⟩) (fun m ⟨o, es, ep, ho, r⟩ => ?_) hok I.bare
  · have nch : ∀ b o, X.s₀.heap.get? b = some o → b ∉ ch := fun b o e hb => by rw [(hch b hb).1] at e; cases e
    exact ⟨I.ok, J.os, J.bare, ⟨fun b o e n h1 _ => J.base.keep b o e n h1 (nch b o e), fun b o e n h1 _ => J.base.slot b o e n h1 (nch b o e), fun b o e n _ => J.base.free b o e n (nch b o e), fun b o e _ => J.base.there b o e (nch b o e), J.base.tups, J.base.frzs, J.base.tbls⟩,
      J.loc, J.cell, J.free, J.freeC, J.pin, J.hok, J.len⟩
  · by_cases h1 : b = X.env.locals ∨ b ∈ X.fs
    · obtain ⟨sl, q⟩ := slot b o h1 e; exact ⟨_, q⟩
    · exact ⟨o, keep b o (fun z => h1 (.inl z)) (fun z => h1 (.inr z)) h3 e⟩
  · obtain ⟨sl, q⟩ := slot _ o (.inl rfl) ho
    exact ⟨_, es, ep, q, r⟩
  all_goals
    rcases hc with hc | hc
    · subst hc
      first
        | (subst z; rw [I.free] at e; cases e)
        | (rw [fs_free I z] at e; cases e)
        | (rw [(hch _ z).2.1] at e; cases e)
    · first
        | (subst z; rw [I.free] at hc; cases hc)
        | (rw [fs_free I z] at hc; cases hc)
        | (rw [(hch _ z).2.1] at hc; cases hc)
structure Fst (X : Cx) : Prop where
  ex : X.ex = []
  stk : X.stack = X.env :: X.outer
  fr : X.env.frame = some X.env.locals
theorem Fst.mem {X : Cx} (D : Fst X) {b : Addr} : b ∈ frs X.stack ↔ b = X.env.locals ∨ b ∈ X.fs := by
  rw [D.stk]
  unfold frs
  rw [List.filterMap_cons, D.fr]
  show b ∈ X.env.locals :: _ ↔ _
  rw [List.mem_cons]; exact Iff.rfl
theorem ch_ok (D : Fst X) (I : Inv X pins σ H s) {b : Addr} {o : Obj} {vs : Array Value} (n : Nw X H b) (hp : ∀ p ∈ pins, p.1 ≠ b) (e : s.heap.get? b = some o) (d : o.data = .fields vs) :
    X.s₀.heap.get? b = none ∧ H b = none ∧ b ≠ X.env.locals ∧ b ∉ X.fs ∧ (∀ x c, X.env.cells.lookup x = some c → c ≠ b) ∧ ∀ p ∈ X.pn ++ pins, p.1 ≠ b := by
  refine ⟨n.2.1, n.1, fun z => ?_, fun z => ?_, fun x c hc z => ?_, fun p hp' => (List.mem_append.mp hp').elim (n.2.2 p) (hp p)⟩
  · obtain ⟨m, ⟨o', es, ep, ho', hd', _⟩, _⟩ := I.loc
    rw [z, ho'] at e; cases e; rw [hd'] at d; cases d
  · obtain ⟨_, o', ho', hd'⟩ := I.stack.mem (show b ∈ frs X.stack from D.mem.mpr (.inr z))
    rw [ho'] at e; cases e; exact hd' _ d
  · obtain ⟨v, o', ho', hd'⟩ := I.cell x c hc
    rw [z, e] at ho'; cases ho'; rw [d] at hd'; cases hd'
theorem slots_frames {l : List Addr} {h h1 : Heap} (so : Heap.SlotsOnly l h h1) {b : Addr} {o : Obj} (hb : b ∉ l) (e : h.get? b = some o) : h1.get? b = some o := (so.2.1 b hb).trans e
end
end FD
set_option Elab.async false
set_option linter.all false
set_option maxRecDepth 100000
namespace FD
open PySem PySem.Spec PyProof.Rows L2
variable [Tabs]
section
variable {X : Cx} {pins : List (Addr × Obj)} {σ : St} {H : Hp} {s : Shared} {h' : Heap} {a : Addr} {cls : Value}
def TrAt (X : Cx) (H : Hp) (h : Heap) (a : Addr) (cls fl : Value) : Prop := Nw X H a ∧ ∃ oe vs T oT ts, h.get? a = some oe ∧ oe.cls = cls ∧ oe.dict = none ∧ oe.data = .fields vs ∧
  vs[1]? = some (.ref T) ∧ Nw X H T ∧ T ≠ a ∧ h.get? T = some oT ∧ oT.data = .fields ts ∧ ts[3]? = some fl ∧ vs[2]? = some .none
theorem TrAt.exc {h : Heap} (x : TrAt X H h a cls .none) : ExcAt X H h a cls := by
  obtain ⟨n, oe, vs, T, oT, ts, e1, e2, e0, e3, e4, e5, e6, e7, e8, e9⟩ := x
  exact ⟨n, oe, vs, e1, e2, e0, e3, .inr ⟨T, oT, ts, e4, e5, e6, e7, e8, e9.1⟩, e9.2⟩
theorem dict_map (o : Obj) (f : Array Value → Array Value) : (Obj.mapFields f o).dict = o.dict := by
  unfold Obj.mapFields; split <;> rfl
theorem lt_of_get {vs : Array Value} {i : Nat} {v : Value} (h : vs[i]? = some v) : i < vs.size := by
  rcases Nat.lt_or_ge i vs.size with z | z
  · exact z
  · rw [Array.getElem?_eq_none z] at h; cases h
variable {M : Model} {A : Around} {E : Value → Shared → Prop} {Q : Unit → Shared → Prop}
theorem np (b : Addr) : ∀ p ∈ ([] : List (Addr × Obj)), p.1 ≠ b := fun p hp => nomatch hp
theorem wrote {b : Addr} {o : Obj} {vs : Array Value} (f : Array Value → Array Value) (D : Fst X) (I : Inv X [] σ H s) (n : Nw X H b) (e : s.heap.get? b = some o) (d : o.data = .fields vs) : Inv X [] σ H { s with heap := s.heap.update b (Obj.mapFields f) } := by
  refine turnN (ch := [b]) (t' := s.toks) I D.ex (fun c hc => ?_) (fun c u h1 h2 h3 q => ?_) fun c u hc q => ⟨u.slots, ?_⟩
  · have : c = b := by simpa using hc
    subst this
    exact ch_ok D I n (np c) e d
  · rw [Heap.get?_update_other _ _ (fun z => h3 (by simp [z]))]; exact q
  · have := ch_ok D I n (np b) e d
    rw [Heap.get?_update_other _ _ (fun z => ?_)]
    · exact q
    · subst z
      rcases hc with hc | hc
      · exact this.2.2.1 hc
      · exact this.2.2.2.1 hc
theorem get_wrote {h : Heap} {b : Addr} {o : Obj} {vs : Array Value} {f : Array Value → Array Value} (e : h.get? b = some o) (d : o.data = .fields vs) : (h.update b (Obj.mapFields f)).get? b = some (Obj.mapFields f o) :=
  Heap.get?_update_self _ e (Obj.isFreed_of_fields (Obj.data_mapFields d f))
theorem flight_ok {fl : Value} (D : Fst X) (I : Inv X [] σ H s) (x : TrAt X H s.heap a cls fl) (k : ∀ h', Inv X [] σ H { s with heap := h' } → TrAt X H h' a cls .none → Q () { s with heap := h' }) : wpAny M A (setFlight (.ref a) none) Q E s := by
  obtain ⟨na, oe, vs, T, oT, ts, e1, e2, e0, e3, e4, nT, ne, eT, dT, e9⟩ := x
  refine wpAny_setFlight_none e1 e3 e4 eT dT (lt_of_get e9.1) ?_
  refine k _ (wrote _ D I nT eT dT) ⟨na, oe, vs, T, _, _, ?_, e2, e0, e3, e4, nT, ne, get_wrote eT dT, Obj.data_mapFields dT _, ?_, e9.2⟩
  · rw [Heap.get?_update_other _ _ ne]; exact e1
  · simp [Array.getElem?_setIfInBounds, lt_of_get e9.1]
theorem entry_ok {oe : Obj} {vs : Array Value} {head : Value} {hn : Bool} (hA : A.frames = some X.stack) (D : Fst X) (I : Inv X [] σ H s) (na : Nw X H a) (e1 : s.heap.get? a = some oe) (e2 : oe.cls = cls) (e0 : oe.dict = none) (e3 : oe.data = .fields vs) (hv : 1 < vs.size) (hv2 : vs[2]? = some .none)
    (k : ∀ h', Inv X [] σ H { s with heap := h' } → TrAt X H h' a cls (rawInt X.env.locals) → Q () { s with heap := h' }) :
    wpAny M A (do
      let f ← PySem.frameOf X.env
      let pl ← entryPlaceOf X.env.locals hn
      let b ← EntryCells.newEntry head f Value.none (rawInt X.env.locals) Value.none pl
      setField (.ref a) 1 b) Q E s := by
  refine wpAny_bind (wpAny_frameOf_fun (base := X.base) (outer := X.outer) (by rw [← D.stk]; exact hA) (by rw [← D.stk]; exact I.stack) D.fr fun h1 so => ?_)
  have ca := ch_ok D I na (np a) e1 e3
  have nf : a ∉ frs X.stack := fun z => (D.mem.mp z).elim ca.2.2.1 ca.2.2.2.1
  have so' : Heap.SlotsOnly (frs X.stack) s.heap h1 := by rw [D.stk]; exact so
  have I1 : Inv X [] σ H { s with heap := h1 } := turnN (ch := []) (t' := s.toks) I D.ex (fun c hc => nomatch hc) (fun c u z1 z2 _ q => slots_frames so' (fun z => (D.mem.mp z).elim z1 z2) q) fun c u _ q => so'.2.2 c u q
  have f1 : h1.get? a = some oe := slots_frames so' nf e1
  refine wpAny_bind (wpAny_entryPlaceOf fun pl hp => wpAny_bind ?_)
  unfold EntryCells.newEntry newFields
  refine wpAny_newObj_type ?_ (hp.sizeOk5 _ _ _ _ _)
  have I2 := I1.kept (t' := s.toks) (h' := h1.push { cls := Value.type "traceback", data := Data.fields ([head, .ref X.env.locals, Value.none, rawInt X.env.locals, Value.none] ++ if pl.isEmpty = true then List.replicate 6 Value.none else pl).toArray }) fun b u e => Heap.get?_push_of_some _ e
  have f2 := Heap.get?_push_of_some { cls := Value.type "traceback", data := Data.fields ([head, .ref X.env.locals, Value.none, rawInt X.env.locals, Value.none] ++ if pl.isEmpty = true then List.replicate 6 Value.none else pl).toArray } f1
  have nT : Nw X H h1.objs.size := nw_of_none I1 D.ex (by
    cases q : h1.get? h1.objs.size with
    | none => rfl
    | some u => exact absurd (Heap.lt_size q) (Nat.lt_irrefl _))
  have ne : h1.objs.size ≠ a := Nat.ne_of_gt (Heap.lt_size f1)
  refine wpAny_setField f2 e3 hv ?_
  refine k _ (wrote _ D I2 na f2 e3) ⟨na, _, _, h1.objs.size, { cls := Value.type "traceback", data := Data.fields ([head, .ref X.env.locals, Value.none, rawInt X.env.locals, Value.none] ++ if pl.isEmpty = true then List.replicate 6 Value.none else pl).toArray }, _, get_wrote f2 e3, (Obj.cls_mapFields _ _).trans e2, (dict_map _ _).trans e0, Obj.data_mapFields e3 _, ?_, nT, ne, ?_, rfl, ?_, ?_⟩
  · simp [Array.getElem?_setIfInBounds, hv]
  · rw [Heap.get?_update_other _ _ (Ne.symm ne)]; exact Heap.get?_push_size _ rfl
  · simp
  · simpa [Array.getElem?_setIfInBounds] using hv2
theorem note_ok (hA : A.frames = some X.stack) (D : Fst X) (I : Inv X [] σ H s) (x : ExcAt X H s.heap a cls)
    (k : ∀ h', Inv X [] σ H { s with heap := h' } → TrAt X H h' a cls (rawInt X.env.locals) → Q () { s with heap := h' }) : wpAny M A (noteFrame (.ref a) X.env) Q E s := by
  obtain ⟨na, oe, vs, e1, e2, e0, e3, alt, v2⟩ := x
  unfold noteFrame
  rw [D.fr]
  rcases alt with e4 | ⟨T, oT, ts, e4, nT, ne, eT, dT, e9⟩
  · refine wpAny_bind (wpAny_field e1 e3 e4 ?_)
    exact entry_ok (hn := false) hA D I na e1 e2 e0 e3 (lt_of_get e4) v2 k
  · refine wpAny_bind (wpAny_field e1 e3 e4 ?_)
    refine wpAny_bind (wpAny_field eT dT e9 ?_)
    refine wpAny_bind (wpAny_setField eT dT (lt_of_get e9) ?_)
    have I1 := wrote (fun v => v.setIfInBounds 3 Value.none) D I nT eT dT
    exact entry_ok (hn := true) (s := { s with heap := s.heap.update T (Obj.mapFields fun v => v.setIfInBounds 3 Value.none) }) hA D I1 na (by rw [Heap.get?_update_other _ _ ne]; exact e1) e2 e0 e3 (lt_of_get e4) v2 k
theorem leave_ok (hA : A.frames = some X.stack) (D : Fst X) (I : Inv X [] σ H s) (x : ExcAt X H s.heap a cls)
    (k : ∀ h', Inv X [] σ H { s with heap := h' } → TrAt X H h' a cls .none → Q () { s with heap := h' }) : wpAny M A (leaving X.env (.ref a)) Q E s := by
  unfold leaving
  refine wpAny_bind (note_ok hA D I x fun h1 I1 x1 => ?_)
  exact flight_ok (s := { s with heap := h1 }) D I1 x1 fun h2 I2 x2 => k h2 I2 x2
def CXD (P : Program) (w : World) : CXT := fun outer H s E e s' => ∃ a cls H', e = .ref a ∧ s'.os = s.os ∧ AllBare s'.gens ∧ Un (frs outer) [] H H' s.heap s'.heap ∧ HOk P w H' s'.heap ∧
  (∃ oe vs T oT ts, s'.heap.get? a = some oe ∧ oe.cls = cls ∧ oe.dict = none ∧ oe.data = .fields vs ∧ vs[1]? = some (.ref T) ∧ T ≠ a ∧ s'.heap.get? T = some oT ∧ oT.data = .fields ts ∧ ts[3]? = some .none ∧
    H' a = none ∧ s.heap.get? a = none ∧ H' T = none ∧ s.heap.get? T = none ∧ vs[2]? = some .none) ∧ E cls none H'
def spX (K : PySem.W.Frag) (n : Nat) (g : List D → Rs D) : Sp := fun vs H Q E => vs.length = n ∧ ∃ ds F, Same F H ∧ TbT F H ∧ Reps K F ds vs ∧ match g ds with
  | .ok d => Ev K F H Q d
  | .ex c => ∀ F' H' cls, Ext F H F' H' → PySem.W.nsIn K mainGlobals c = some (some cls) → E cls none H'
  | .no => False
def XV (X : Cx) (σ : St) : XK := fun cls _ H => ∀ s a, Inv X [] σ H s → ExcAt X H s.heap a cls → X.xe (.ref a) s
theorem XA.xv {c : Str} (h : XA X c σ H) {cls : Value} (e : PySem.W.nsIn X.K mainGlobals c = some (some cls)) : XV X σ cls none H := fun s a I x => h s a cls e I x
theorem Inv.nil (I : Inv X pins σ H s) : Inv X [] σ H s := ⟨I.ok, I.os, I.bare, I.base, I.loc, I.cell, I.free, I.freeC, fun p hp => I.pin p (List.mem_append_left _ (by simpa using hp)), I.hok, I.len⟩
theorem after_ex (hx : X.ex = []) (I : Inv X pins σ H s) {E : XK} {e : Value} {s' : Shared} (h : CXD X.prog X.w X.stack H s E e s') : ∃ a cls H', e = .ref a ∧ Inv X pins σ H' s' ∧ TrAt X H' s'.heap a cls .none ∧ (∀ p ∈ pins, p.1 ≠ a) ∧ E cls none H' := by
  obtain ⟨a, cls, H', rfl, os, bare, un, hok, ⟨oe, vs, T, oT, ts, e1, e2, e0, e3, e4, e5, e6, e7, e8, z1, z2, z3, z4, z5⟩, q⟩ := h
  obtain ⟨hh, g, d, t, os'⟩ := s'
  obtain rfl : os' = s.os := os
  have n1 : ∀ {b : Addr}, s.heap.get? b = none → H' b = none → Nw X H' b := fun {b} z n => ⟨n, entry_none I hx z, fun p hp y => by
    have := (I.pin p (List.mem_append_left _ hp)).1
    rw [y, z] at this; cases this⟩
  refine ⟨a, cls, H', rfl, I.call (h' := hh) (g' := g) (d' := d) (t' := t) (ch := []) un hok bare (fun b z => absurd z (by simp)), ⟨n1 z2 z1, oe, vs, T, oT, ts, e1, e2, e0, e3, e4, n1 z4 z3, e5, e6, e7, e8, z5⟩, fun p hp y => ?_, q⟩
  have := (I.pin p (List.mem_append_right _ hp)).1
  rw [y, z2] at this; cases this
theorem passX (hx : X.ex = []) {σ : St} (H : Hp) (s : Shared) (I : Inv X pins σ H s) {e : Value} {s' : Shared} (h : CXD X.prog X.w X.stack H s (XV X σ) e s') : X.xe e s' := by
  obtain ⟨a, cls, H', rfl, J, x, _, q⟩ := after_ex hx I h
  exact q s' a (Inv.nil J) x.exc
end
section
variable {P : Program} {w : World} {K : PySem.W.Frag} {mg : Str → Option Value} {base : Heap}
theorem fnX {x qual : Str} {st : Stmt} {f : Addr} {fd : FuncData} {N ps : List Str} {k n : Nat} {fb : FS} (F : Fun K x qual st f fd) (S : FnScope N ps (defScope st)) (hn : ps.length = n)
    (hbody : ∀ (cdv : Value) (A : Around) (outer : List Env) (s : Shared) (H : Hp) (E : XK), Room k (A.deeper (envOfC qual (defScope st) s.heap.objs.size f cdv)) →
      PDSs (cxOf (CXD P w) P w K mg base N qual (defScope st) f cdv A outer s H E) (defBody st) fb) : FnOk P w K mg base (CXD P w) (k + 1) f fd ps (spX K n (runF N.length fb)) := by
  obtain ⟨oc, od, kV, doc, pm, an, cdv, ct, osl, rfl, lk, hcd⟩ := F.ex
  refine fn_of lk hcd S (fun vs H Q E h => by rw [hn]; exact h.1) fun A outer s H vs Q E hr h => ⟨_, hbody cdv A outer s H E hr, ?_⟩
  obtain ⟨hl, ds, Fz, fh, tt, r, h⟩ := h
  refine ⟨H, Fz, Fz, startD N.length ds, rv_start fh tt r, ?_⟩
  unfold runF at h
  cases q : fb (startD N.length ds) with
  | nx τ => rw [q] at h; exact fun σ F' H' ff RR => h .non F' H' RR.out (by simp only [Rep])
  | rt d => rw [q] at h; exact fun v F' H' x rr => h v F' H' x rr
  | ro d τ => rw [q] at h; exact fun v σ F' H' ff RR rr => h v F' H' RR.out rr
  | rb d τ => rw [q] at h; exact h.elim
  | bk τ => rw [q] at h; exact h.elim
  | ct τ => rw [q] at h; exact h.elim
  | ex c => rw [q] at h; exact h.elim
  | no => rw [q] at h; exact h.elim
  | rs c τ =>
    rw [q] at h
    intro σ F' H' ff RR s2 a cls hc I x
    let X : Cx := cxOf (CXD P w) P w K mg base N qual (defScope st) f cdv A outer s H E
    have D : Fst X := ⟨rfl, rfl, rfl⟩
    refine leave_ok (X := X) I.ok.frames D I x fun h3 J t => ?_
    obtain ⟨na, oe, vs, T, oT, ts, g1, g2, g0, g3, g4, g5, g6, g7, g8, g9⟩ := t
    exact ⟨a, cls, H', rfl, J.os, J.bare, J.base, J.hok, ⟨oe, vs, T, oT, ts, g1, g2, g0, g3, g4, g6, g7, g8, g9.1, na.1, na.2.1, g5.1, g5.2.1, g9.2⟩, h F' H' cls RR.out hc⟩
end
end FD
set_option Elab.async false
set_option linter.all false
set_option maxRecDepth 100000
namespace FD
open PySem PySem.Spec PyProof.Rows L2
variable [Tabs]
abbrev VE : List Value := [Value.type "ValueError", Value.type "Exception", Value.type "BaseException", Value.type "object"]
theorem excIn_obj {K : PySem.W.Frag} {h : Heap} {C : Addr} {bmB : List Value} {newId : String} (KX : K.In h) (e : PySem.W.excIn K C bmB newId = true) : ∃ bm N nm q bs hdct sn sub ab col dd k0 k1 k2 k3 k5 mN,
    h.get? C = some (excClassObj nm q C N bs bm hdct sn sub ab col dd k0 k1 k2 k3 k5 newId) ∧ h.Ns N mN ∧ mN (Str.ofString "__init__") = none ∧ OwnTail h bmB bm := by
  unfold PySem.W.excIn at e
  split at e
  · rename_i dict cd sl hl
    split at e
    · rename_i C' bm k0 k1 k2 k3 n k5 hm hs
      simp only [Bool.and_eq_true, beq_iff_eq] at e
      obtain ⟨⟨⟨⟨⟨e1, e2⟩, e3⟩, e4⟩, e5⟩, e6⟩ := e
      subst e1; subst e2
      have obj := KX _ _ hl
      have hsl : sl = #[k0, k1, k2, k3, some (Value.builtin n), k5] := by
        apply Array.toList_inj.mp
        rw [hs]
      obtain ⟨nm, bs, mro, ns, q, hdct, sn, sub, ab, col, hdel⟩ := cd
      simp only at hm e3 e5 e6
      have e3 : hdel = false := by simpa using e3
      subst e3 hm hsl
      exact ⟨bm, ns, nm, q, bs, hdct, sn, sub, ab, col, dict, k0, k1, k2, k3, k5, _, obj, Heap.Ns.of_isNs (PySem.W.isNs_of_in KX e5), PySem.W.nsMap_none_of_in KX e5 e6, PySem.W.tail_of_in KX e4⟩
    · cases e
  · cases e
structure EC (K : PySem.W.Frag) (mg : Str → Option Value) (c : Str) (C : Addr) : Prop where
  ns : PySem.W.nsIn K mainGlobals c = some (some (.ref C))
  mgl : mg c = some (.ref C)
  exc : PySem.W.excIn K C VE "ValueError.__new__" = true
section
variable {X : Cx} {pos : Pos} {e : Expr} {es : List Expr} {fe : FE} {fs : FA} {st : Stmt}
def sRaise (c : Str) : FS := fun τ => .rs c τ
theorem pds_raise {c : Str} {C : Addr} {np cpos : Pos} {d : D} (T : EC X.K X.mg c C) (hx : X.ex = []) (hh : X.A.handled = none) (ha : PDE X e (eC d)) (hg : Gl X c := by rfl) (hd : (c == ("__debug__" : Str)) = false := by decide)
    (hs : starEach [e] X.env = [(false, eval e X.env)] := by rfl) : PDS X (.Raise (some (.Call (.Name c np) [e] [] cpos)) none pos) (sRaise c) := by
  intro pins s σ H D I ⟨B, Z, F, τ, R, h⟩
  obtain ⟨bm, N, nm, q, bs, hdct, sn, sub, ab, col, dd, k0, k1, k2, k3, k5, mN, hC, hN, hi, tl⟩ := excIn_obj I.ok.mod.kin T.exc
  refine wpAny_Raise_call_subU (bmB := VE) (mN := mN) (nm := nm) (q := q) (N := N) (bs := bs) (hdct := hdct) (sn := sn) (sub := sub) (ab := ab) (col := col) (dd := dd) (k0 := k0) (k1 := k1) (k2 := k2) (k3 := k3) (k5 := k5) PySem.F.excBase_ValueError (by decide) PySem.F.excBase_ValueError (tl.hasType (by decide)) hh (by rw [hs]; rfl) hi (ld_glob I hg T.mgl ⟨rfl, ?_⟩ hd)
  rw [hs]
  refine Calls.evalArgs_plain ?_
  have ha' := pda_cons ha pda_nil (by rw [hs]; rfl)
  have ha2 := ha' cpos pins s σ H (fun vs H1 => ∃ F1, Ext F H F1 H1 ∧ vs.length = 1) I ⟨F, τ, R.rv, fun vs F1 H1 x r => ⟨F1, x, by rw [← r.length]; rfl⟩⟩
  rw [hs] at ha2
  refine thn ha2 fun us s1 ⟨vs, H1, I1, r, F1, x1, hl⟩ => ?_
  refine ⟨rfl, by show us.length ≤ sizeLine; rw [← r.length, hl]; decide, I1.bk _ _ hC, hN.keeps I1.bk, tl.keeps I1.bk, fun h' a m => ?_⟩
  have I2 : Inv X pins σ H1 { s1 with heap := h' } := I1.kept (t' := s1.toks) m.keeps
  obtain ⟨t, et, _, _⟩ := m.there
  exact h σ F1 H1 x1.ff (R.ext x1) { s1 with heap := h' } a (.ref C) T.ns (Inv.nil I2) ⟨nw_of_none (s := s1) I1 hx m.new, _, _, et, rfl, rfl, rfl, .inl rfl, rfl⟩
def tX (X : Cx) (fs : FA) (g : List D → Rs D) : TE := fun σ H Q => ∃ F τ, RV X.K F τ σ H ∧ Ok X (fs τ) fun ds => match g ds with
  | .ok d => Ev X.K F H Q d
  | .ex c => ∀ F' H', Ext F H F' H' → XA X c σ H'
  | .no => False
def DefX (P : Program) (w : World) (K : PySem.W.Frag) (mg : Str → Option Value) (base : Heap) (x : Str) (k n : Nat) (ps : List Str) (g : List D → Rs D) : Prop :=
  ∃ f fd, FnOk P w K mg base (CXD P w) k f fd ps (spX K n g) ∧ Binds K fd ps [] ∧ PySem.W.keepIn K (.ref f) = true ∧ mg x = some (.ref f)
theorem pe_callX {k n : Nat} {ps : List Str} {g : List D → Rs D} {x : Str} {p : Pos} (D : DefX X.prog X.w X.K X.mg X.base x k n ps g) (hx : X.ex = []) (hr : Room k X.A) (ha : PDA X (e :: es) fs) (hfs : ∀ τ ds, fs τ = .ok ds → ds.length = (e :: es).length) (hn : (e :: es).length = n := by rfl) (hg : Gl X x := by rfl) (hdb : (x == ("__debug__" : Str)) = false := by decide)
    (he : starEach (e :: es) X.env = (false, eval e X.env) :: starEach es X.env := by rfl) (hpl : (backTo pos (starEach es X.env)).any (·.1) = false := by rfl) : PE X (.Call (.Name x p) (e :: es) [] pos) (tX X fs g) := by
  obtain ⟨f, fd, FF, hb, hk, hm⟩ := D
  intro pins s σ H Q I ⟨F, τ, R, h⟩
  refine wpAny_Call_Name_kw (ld_glob I hg hm ?_ hdb)
  refine PySem.W.callWith_K (h₀ := X.base) I.ok.mod.kin hk (thn (ha pos pins s σ H (fun vs H1 => vs.length = n ∧ ∃ ds F1, Ext F H F1 H1 ∧ Reps X.K F1 ds vs ∧ match g ds with
    | .ok d => Ev X.K F H Q d
    | .ex c => ∀ F' H', Ext F H F' H' → XA X c σ H'
    | .no => False) I ⟨F, τ, R, ?_⟩) fun us s1 ⟨vs, H1, I1, r, hl, ds, F1, x1, rr, q⟩ => ⟨I1.kIn, ?_⟩) he hpl
  · cases z : fs τ with
    | ok ds => rw [z] at h; exact fun vs F1 H1 x1 rr => ⟨by rw [← rr.length, hfs τ ds z, hn], ds, F1, x1, rr, h⟩
    | ex c => rw [z] at h; exact h
    | no => rw [z] at h; exact h
  · have hl2 : us.length = ps.length := by
      rw [← r.length, hl]
      have := FF.len vs H1 Q (XV X σ)
      refine Eq.trans hl.symm (this ⟨hl, ds, F1, x1.fh, x1.tt R.tt, rr, ?_⟩)
      cases z : g ds with
      | ok d => rw [z] at q; exact q.ext x1
      | ex c => rw [z] at q; exact fun F' H' cls xx hc => (q F' H' (x1.trans xx)).xv hc
      | no => rw [z] at q; exact q
    have hsp : spX X.K n g vs H1 Q (XV X σ) := ⟨hl, ds, F1, x1.fh, x1.tt R.tt, rr, by
      cases z : g ds with
      | ok d => rw [z] at q; exact q.ext x1
      | ex c => rw [z] at q; exact fun F' H' cls xx hc => (q F' H' (x1.trans xx)).xv hc
      | no => rw [z] at q; exact q⟩
    have bt := hb s1 us I1.kIn (by rw [List.append_nil]; exact hl2)
    rw [List.append_nil] at bt
    refine wpAny_call (codeAny_mono (FF.run X.A X.stack s1 H1 ⟨us, []⟩ us vs Q (XV X σ) hr I1.env0 bt r hsp) fun r s' hq => ?_)
    cases r with
    | error e => exact passX hx H1 s1 I1 hq
    | ok fl =>
      cases fl with
      | ret u => exact I1.after hq
      | next => exact False.elim hq
      | brk => exact False.elim hq
      | cont => exact False.elim hq
def sRetX (g : List D → Rs D) (fs : FA) : FS := fun τ => Fl.of (fs τ) fun ds => match g ds with
  | .ok d => .rt d
  | .ex c => .rs c τ
  | .no => .no
theorem pds_retX {g : List D → Rs D} (h : PE X e (tX X fs g)) : PDS X (.Return (some e) pos) (sRetX g fs) :=
  PS.imp (ps_ret h) fun E σ H ⟨B, Z, F, τ, R, q⟩ => ⟨F, τ, R.rv, q.of.imp fun ds q => by
    cases z : g ds with
    | ok d => rw [z] at q; exact fun v F1 H1 x r => q v F1 H1 (R.ext x).out r
    | ex c => rw [z] at q; exact fun F1 H1 x => q σ F1 H1 x.ff (R.ext x)
    | no => rw [z] at q; exact q⟩
def sQuiet (f : FS) : FS := fun τ => match f τ with
  | .rs _ _ => .no
  | .ex _ => .no
  | r => r
theorem pdss_quiet {sts : List Stmt} {f : FS} (h : PDSs X.nox sts f) : PDSs X sts (sQuiet f) :=
  PSs.imp (PSs.nox h) fun E σ H ⟨B, Z, F, τ, R, q⟩ => ⟨B, Z, F, τ, R, by
    unfold sQuiet at q
    cases z : f τ with
    | nx τ' => rw [z] at q; exact q
    | rt d => rw [z] at q; exact q
    | ro d τ => rw [z] at q; exact q
    | rb d τ => rw [z] at q; exact q
    | bk d => rw [z] at q; exact q
    | ct d => rw [z] at q; exact q
    | ex d => rw [z] at q; exact q.elim
    | no => rw [z] at q; exact q
    | rs c d => rw [z] at q; exact q.elim⟩
end
section
variable {P : Program} {w : World} {K : PySem.W.Frag} {mg : Str → Option Value} {base : Heap}
theorem DefX.mk {x : Str} {st : Stmt} {f : Addr} {fd : FuncData} {N ps : List Str} {k n : Nat} {fb : FS} (D : DefAt K mg x st f fd) (S : FnScope N ps (defScope st)) (hn : ps.length = n)
    (hb : ∀ (kV doc pm : Value) (an : Option Addr) (cdv ct : Value) (us : List Value), us.length = ps.length → bindArgs (PySem.W.fnOf x x (defArgs st) (defBody st) (defScope st) .none kV doc pm an cdv ct) ⟨us, []⟩ = pure (ps.zip us))
    (hbody : ∀ (cdv : Value) (A : Around) (outer : List Env) (s : Shared) (H : Hp) (E : XK), Room k (A.deeper (envOfC x (defScope st) s.heap.objs.size f cdv)) →
      PDSs (cxOf (CXD P w) P w K mg base N x (defScope st) f cdv A outer s H E) (defBody st) fb) : DefX P w K mg base x (k + 1) n ps (runF N.length fb) :=
  ⟨f, fd, fnX D.fn S hn hbody, D.fn.binds hb, D.fn.kp, D.at_⟩
end
end FD
set_option Elab.async false
set_option linter.all false
set_option maxRecDepth 100000
namespace FD
open PySem PySem.Spec PyProof.Rows L2
variable [Tabs]
section
variable {X : Cx} {pins : List (Addr × Obj)} {σ : St} {H : Hp} {s : Shared} {a : Addr} {cls : Value}
theorem track {o : HO} {oe : Obj} {vs : Array Value} (D : Fst X) (I : Inv X pins σ H s) (n : Nw X H a) (hp : ∀ p ∈ pins, p.1 ≠ a) (e : s.heap.get? a = some oe) (d : oe.data = .fields vs) (new : ObjOk X.prog X.w (upd H a o) s.heap a o) : Inv X pins σ (upd H a o) s := by
  have c := ch_ok D I n hp e d
  have hn := n.1
  refine ⟨I.ok, I.os, I.bare, ⟨I.base.keep, I.base.slot, fun b u q z hx => ?_, I.base.there, fun b xs q => ?_, fun b u v q => ?_, fun b ps q => ?_⟩, I.loc, I.cell, ?_, fun x c' hc => ?_, fun p hp' => ?_, fun b u q => ?_, I.len⟩
  · rw [upd_ne (fun z => by rw [z, c.1] at q; cases q)]; exact I.base.free b u q z hx
  · have := I.base.tups b xs q
    rw [upd_ne (ne_of_none this hn)]; exact this
  · have := I.base.frzs b u v q
    rw [upd_ne (ne_of_none this hn)]; exact this
  · obtain ⟨m, q'⟩ := I.base.tbls b ps q
    exact ⟨m, by rw [upd_ne (ne_of_none q' hn)]; exact q'⟩
  · rw [upd_ne (Ne.symm c.2.2.1)]; exact I.free
  · rw [upd_ne (c.2.2.2.2.1 x c' hc)]; exact I.freeC x c' hc
  · obtain ⟨q1, q2, q3⟩ := I.pin p hp'
    exact ⟨q1, by rw [upd_ne (c.2.2.2.2.2 p hp')]; exact q2, q3⟩
  · by_cases hb : b = a
    · subst hb; rw [upd_same] at q; cases q; exact new
    · rw [upd_ne hb] at q
      exact (I.hok b u q).stay (fun _ _ _ z => z) (fun b' z => by rw [upd_ne (ne_of_none z hn)]; exact z) fun b' xs z => by rw [upd_ne (ne_of_none z hn)]; exact z
abbrev suiteX (X : Cx) (a : Addr) : Cx := { X with A := X.A.mark (some (.ref a)), calm := false, xe := fun _ _ => False }
theorem Inv.suite (I : Inv X pins σ H s) (a : Addr) : Inv (suiteX X a) pins σ H s :=
  ⟨⟨I.ok.mod, I.ok.kind, I.ok.glob, I.ok.blt, I.ok.above, I.ok.inj, I.ok.has, I.ok.cab, (fun z => nomatch z), I.ok.frames, I.ok.stk, I.ok.exf, I.ok.bs, I.ok.bsz, I.ok.noex, I.ok.exfs, I.ok.funs, I.ok.frf⟩, I.os, I.bare, I.base, I.loc, I.cell, I.free, I.freeC, I.pin, I.hok, I.len⟩
theorem Inv.unsuite (ok : X.Ok) (I : Inv (suiteX X a) pins σ H s) : Inv X pins σ H s := ⟨ok, I.os, I.bare, I.base, I.loc, I.cell, I.free, I.freeC, I.pin, I.hok, I.len⟩
abbrev tryX (X : Cx) (pins : List (Addr × Obj)) (E : Value → Shared → Prop) : Cx := { X with xe := E, pn := X.pn ++ pins }
theorem Inv.tryI (I : Inv X pins σ H s) (E : Value → Shared → Prop) : Inv (tryX X pins E) [] σ H s :=
  ⟨⟨I.ok.mod, I.ok.kind, I.ok.glob, I.ok.blt, I.ok.above, I.ok.inj, I.ok.has, I.ok.cab, I.ok.hd, I.ok.frames, I.ok.stk, I.ok.exf, I.ok.bs, I.ok.bsz, I.ok.noex, I.ok.exfs, I.ok.funs, I.ok.frf⟩, I.os, I.bare, I.base, I.loc, I.cell, I.free, I.freeC, fun p hp => I.pin p (by simpa using hp), I.hok, I.len⟩
theorem Inv.untry {E : Value → Shared → Prop} (ok : X.Ok) (I : Inv (tryX X pins E) [] σ H s) : Inv X pins σ H s :=
  ⟨ok, I.os, I.bare, I.base, I.loc, I.cell, I.free, I.freeC, fun p hp => I.pin p (by simpa using hp), I.hok, I.len⟩
theorem looks_cls {M : Model} {h : Heap} {oe : Obj} (e : h.get? a = some oe) : PySem.W.Looks M h (typeOf (.ref a)) oe.cls := PySem.W.Looks.andThen (PySem.W.Looks.ld e) PySem.W.Looks.now
def noOwnB (τ : DS) : Bool := τ.all fun o => match o with
  | some (.own _) => false
  | _ => true
def sTryAs (fb : FS) (ok : Str → Bool) (i : Nat) (fe : FS) : FS := fun τ => if noOwnB τ = true then (match fb τ with
  | .rs c τ' => if ok c = true then (match fe (τ'.set i (some (.val (.exc c)))) with
    | .rt d => .rt d
    | _ => .no) else .no
  | .ex _ => .no
  | r => r) else .no
theorem goes {h' : Heap} {m' : Str → Option Value} {t' : Nat} (I : Inv X pins σ H s) (hn : h'.Ns X.env.locals m') (sb : Heap.SameBut X.env.locals s.heap h') : Inv X pins (List.replicate X.N.length none) H { s with heap := h', toks := t' } := by
  have nL : ∀ b o, X.s₀.heap.get? b = some o → b ≠ X.env.locals := fun b o e => Nat.ne_of_lt (Nat.lt_of_lt_of_le (Heap.lt_size e) I.ok.above)
  refine ⟨I.ok, I.os, I.bare, ⟨fun b o e n hb hx => (sb.2 b (nL b o e)).trans (I.base.keep b o e n hb hx), fun b o e n hb hx => ?_, I.base.free, fun b o e hx => ?_, I.base.tups, I.base.frzs, I.base.tbls⟩, ⟨m', hn, fun j y v e1 e2 e3 => ?_⟩, fun y c e => ?_, I.free, I.freeC, fun p hp => ?_, fun b u e => ?_, by simp⟩
  · obtain ⟨sl, q⟩ := I.base.slot b o e n hb hx
    exact ⟨sl, (sb.2 b (nL b o e)).trans q⟩
  · obtain ⟨o', q⟩ := I.base.there b o e hx
    exact ⟨o', (sb.2 b (nL b o e)).trans q⟩
  · rw [List.getElem?_replicate] at e2
    split at e2 <;> cases e2
  · obtain ⟨v, o, ho, hd⟩ := I.cell y c e
    exact ⟨v, o, (sb.2 c (I.cne y c e)).trans ho, hd⟩
  · obtain ⟨q1, q2, q3, q4⟩ := I.pin p hp
    exact ⟨(sb.2 p.1 q3).trans q1, q2, q3, q4⟩
  · refine (I.hok b u e).stay (fun c w' hc q => (sb.2 c ?_).trans q) (fun _ q => q) fun _ _ q => q
    rintro rfl
    rcases hc with rfl | hc
    · rw [I.free] at e; cases e
    · rw [I.free] at hc; cases hc
theorem pds_tryAs {body suite : List Stmt} {b₀ : Stmt} {fb fe : FS} {ok : Str → Bool} {n hc : Str} {Ch : Addr} {i : Nat} {np hpos pos : Pos} (D : Fst X) (TH : EC X.K X.mg hc Ch) (hN : X.N.Nodup) (hi : X.N[i]? = some n) (hk : X.env.kindOf n = some .local)
    (hb : ∀ pins E, PDSs (tryX X pins E) body fb) (hs : ∀ a, PDSs (suiteX X a) (b₀ :: suite) fe)
    (hok : ∀ c cls, ok c = true → PySem.W.nsIn X.K mainGlobals c = some (some cls) → PySem.W.exmOne X.K cls (.ref Ch) = some true)
    (hg : Gl X hc := by rfl) (hd : (hc == ("__debug__" : Str)) = false := by decide) : PDS X (.Try body [.ExceptHandler (some (.Name hc np)) (some n) (b₀ :: suite) hpos] [] [] pos) (sTryAs fb ok i fe) := by
  intro pins s σ H E I ⟨B, Z, F, τ, R, h⟩
  unfold sTryAs at h
  by_cases hno : noOwnB τ = true
  rotate_left
  · rw [if_neg hno] at h; exact h.elim
  rw [if_pos hno] at h
  refine wpAny_Try_except ?_
  have R0 : RS X.K B Z F τ σ H := R
  have lift : ∀ {σ' : St} {F' H' : Hp} {τ' : DS}, RS X.K B Z F' τ' σ' H' → RS X.K B Z F' τ' σ' H' := fun RR => RR
  refine wpAny_mono (Q := SP (tryX X pins _) [] E) (hb pins _ [] s σ H E (Inv.tryI I _) ⟨B, Z, F, τ, R0, ?_⟩) (fun f s' sp => ?_) (fun _ _ q => q)
  · cases q : fb τ with
    | nx τ' => rw [q] at h; exact fun σ' F' H' ff RR => h σ' F' H' ff (lift RR)
    | bk τ' => rw [q] at h; exact fun σ' F' H' ff RR => h σ' F' H' ff (lift RR)
    | ct τ' => rw [q] at h; exact fun σ' F' H' ff RR => h σ' F' H' ff (lift RR)
    | rt d => rw [q] at h; exact fun v F' H' x r => h v F' H' x r
    | ro d τ' => rw [q] at h; exact fun v σ' F' H' ff RR r => h v σ' F' H' ff (lift RR) r
    | rb d τ' => rw [q] at h; exact fun v σ' F' H' ff RR r => h v σ' F' H' ff (lift RR) r
    | ex c => rw [q] at h; exact h.elim
    | no => rw [q] at h; exact h
    | rs c τ' =>
      rw [q] at h
      intro σ' F' H' ff RR s1 a cls hcn J x
      have RR : RS X.K B Z F' τ' σ' H' := RR
      by_cases hoc : ok c = true
      rotate_left
      · simp only [if_neg hoc] at h; exact h.elim
      simp only [if_pos hoc] at h
      have D1 : ∀ E', Fst (tryX X pins E') := fun _ => ⟨D.ex, D.stk, D.fr⟩
      refine note_ok (X := tryX X pins _) I.ok.frames (D1 _) J x fun h1 J1 x1 => ?_
      refine flight_ok (X := tryX X pins _) (s := { s1 with heap := h1 }) (D1 _) J1 x1 fun h2 J2 x2 => ?_
      refine wpAny_handleBy_cons ?_ (by intro z; cases z)
      refine codeAny_handlers_test ?_
      have JS := Inv.suite J2 a
      refine ld_glob JS hg TH.mgl ?_ hd
      obtain ⟨na, oe, vs, T, oT, ts, g1, g2, g0, g3, g4, g5, g6, g7, g8, g9⟩ := id x2
      have lk : PySem.W.Looks (model X.prog X.w) h2 (excMatches (.ref a) (.ref Ch)) true := PySem.W.exm_one J2.kIn (looks_cls g1) (by rw [g2]; exact hok c cls hoc hcn)
      refine PySem.W.Looks.at lk ?_
      refine codeAny_handlers_suite_as ?_
      refine flight_ok (X := tryX X pins _) (s := { s1 with heap := h2 }) (D1 _) J2 x2 fun h3 J3 x3 => ?_
      obtain ⟨na, oe, vs, T, oT, ts, g1, g2, g0, g3, g4, g5, g6, g7, g8, g9⟩ := id x3
      have JT := track (o := .ext (excIs X.K a c)) (D1 _) J3 na (FD.np a) g1 g3 ⟨⟨oe, cls, vs, g1, g2, g0, g3, hcn⟩, ⟨oe, g1⟩, fun k1 k2 ⟨o1, c1, v1, p1, p2⟩ kk => ⟨o1, c1, v1, kk _ p1, p2⟩⟩
      refine store_ok (Inv.untry I.ok JT) hN hi (Or.inl hk) (show RelV (.ref a) (.ref a) from rfl) (fun s4 J4 => ?_) (.inr hk)
      have RR2 : RS X.K B Z (upd F' a (.ext (excIs X.K a c))) (τ'.set i (some (.val (.exc c)))) (σ'.set i (some (.ref a))) (upd H' a (.ext (excIs X.K a c))) := ((lift RR).ext (Ext.new (lift RR).rv.fh na.1)).set (by simp only [Rep]; exact ⟨a, rfl, upd_same⟩)
      refine wpAny_mono (hs a pins s4 _ _ { nx := fun _ _ => False, rt := E.rt } (Inv.suite J4 a) ⟨B, Z, _, _, RR2, ?_⟩) (fun f s5 sp => ?_) (fun _ _ z => False.elim z)
      · cases q2 : fe (τ'.set i (some (.val (.exc c)))) with
        | rt d => rw [q2] at h; exact h
        | ro _ _ => rw [q2] at h; exact h.elim
        | rb _ _ => rw [q2] at h; exact h.elim
        | nx _ => rw [q2] at h; exact h.elim
        | bk _ => rw [q2] at h; exact h.elim
        | ct _ => rw [q2] at h; exact h.elim
        | ex _ => rw [q2] at h; exact h.elim
        | no => rw [q2] at h; exact h.elim
        | rs _ _ => rw [q2] at h; exact h.elim
      · cases f with
        | next => obtain ⟨_, _, _, z⟩ := sp; exact z.elim
        | brk => obtain ⟨_, _, _, z⟩ := sp; exact z.elim
        | cont => obtain ⟨_, _, _, z⟩ := sp; exact z.elim
        | ret u =>
          obtain ⟨v, σ5, H5, I5, r5, q5⟩ := sp
          have I5 := Inv.unsuite I.ok I5
          obtain ⟨m, hm, _⟩ := id I5.loc
          exact wpAny_nameGoes hk hm (by rw [I.ok.kind]; rfl) fun h6 m6 hn6 sb => ⟨v, _, H5, goes I5 hn6 sb, r5, q5⟩
  · cases f with
    | next => obtain ⟨σ', H', I', q'⟩ := sp; exact wpAny_execs_nil ⟨σ', H', Inv.untry I.ok I', q'⟩
    | brk => obtain ⟨σ', H', I', q'⟩ := sp; exact ⟨σ', H', Inv.untry I.ok I', q'⟩
    | cont => obtain ⟨σ', H', I', q'⟩ := sp; exact ⟨σ', H', Inv.untry I.ok I', q'⟩
    | ret u => obtain ⟨v, σ', H', I', r', q'⟩ := sp; exact ⟨v, σ', H', Inv.untry I.ok I', r', q'⟩
end
end FD
set_option Elab.async false
set_option linter.all false
set_option maxRecDepth 100000
namespace FD
open PySem PySem.Spec PyProof.Rows L2
variable [Tabs]
theorem kind_ga : builtinKind "BaseException.__getattribute__" = some Manifest.AttrKind.slot := by decide +kernel
theorem split_ga : splitId "BaseException.__getattribute__" = some ("BaseException", "__getattribute__") := by decide +kernel
structure ECK (K : PySem.W.Frag) (C : Addr) : Prop where
  ga : PySem.W.findIn K (.ref C) "__getattribute__" = some (some (.builtin "BaseException.__getattribute__"))
  gh : PySem.W.findIn K (.ref C) "__getattr__" = some none
  ob : PySem.W.findObj K C none "__class__" = some (Builtin.ObjectAttr.Found.bind (.builtin "getset_descriptor.__get__") (.builtin "object.__class__"))
  mo : PySem.W.mroIn K C (.type "object") = some true
  mb : PySem.W.mroIn K C (.type "BaseException") = some true
  ty : PySem.W.typeIn K (.ref C) = some (.type "type")
  se : PySem.W.kitCls K (.ref C) (.ref C) = some true
def ExI (x C : Addr) : Heap → Prop := fun h => ∃ oe vs, h.get? x = some oe ∧ oe.cls = .ref C ∧ oe.dict = none ∧ oe.data = .fields vs
theorem ExI.inst {x C : Addr} {h : Heap} (e : ExI x C h) : ∃ ox, PySem.W.InstAt h x ox C none := by
  obtain ⟨oe, vs, e1, e2, e3, e4⟩ := e
  exact ⟨oe, e1, e2, by unfold PySem.W.notCls; rw [e4], by rw [e3]; trivial⟩
section
variable {prog : Program} {w : World} {A : Around} {E : Value → Shared → Prop} {K : PySem.W.Frag} {x C : Addr}
theorem check_ga {s : Shared} {nameV : Value} {Q : Unit → Shared → Prop} (T : ECK K C) (KX : K.In s.heap) (hx : ExI x C s.heap) (q : Q () s) : wpAny (model prog w) A (checkBuiltinCall "BaseException.__getattribute__" { pos := [.ref x, nameV] }) Q E s := by
  obtain ⟨hp, g, d, t, os⟩ := s
  obtain ⟨ox, ix⟩ := hx.inst
  unfold checkBuiltinCall
  simp only [kind_ga, split_ga]
  unfold isInstance
  refine wpAny_bind (wpAny_bind (PySem.W.Looks.at ix.type ?_))
  refine PySem.W.Looks.at (PySem.W.looks_mroIn KX T.mb) ?_
  simp only [Bool.not_true, Bool.false_eq_true, if_false]
  have := PySem.F.args_bexc_ga (.ref x) nameV
  unfold argsOk at this
  cases z : Manifest.signature? "BaseException.__getattribute__" with
  | none => exact wpAny_pure q
  | some sig =>
    rw [z] at this
    exact wpAny_of_eq this q
theorem exc_class {s : Shared} {Q : Option Value → Shared → Prop} (T : ECK K C) (KX : K.In s.heap) (hx : ExI x C s.heap) (q : Q (some (.ref C)) { s with toks := s.toks + 1 }) : wpAny (model prog w) A (getAttr? (.ref x) "__class__") Q E s := by
  obtain ⟨hp, g, d, t, os⟩ := s
  obtain ⟨ox, ix⟩ := hx.inst
  unfold getAttr?
  refine wpAny_bind (wpAny_mkText ?_)
  unfold getAttrBy?
  refine wpAny_bind (wpAny_attempt ?_)
  unfold getAttrBy
  refine wpAny_holding (wpAny_bind (PySem.W.Looks.at ix.type ?_))
  refine wpAny_bind (PySem.W.Looks.at (PySem.W.looks_findIn KX T.ga) ?_)
  simp only
  rw [if_neg (show ¬(onTheHeap (Value.ref C) && Value.builtin "BaseException.__getattribute__" == Value.builtin "object.__getattribute__") = true by show ¬ (true && _) = true; decide)]
  unfold getAttrByItsOwn hookBefore
  refine wpAny_bind ?_
  rw [if_pos (by rfl)]
  refine PySem.W.Looks.at (PySem.W.looks_findIn KX T.gh) ?_
  refine wpAny_bind (wpAny_attempt (wpAny_holding ?_))
  unfold callGetattribute boundAndCalled
  rw [if_neg (by decide)]
  rw [PySem.F.attrBase_ValueError.ga.bind]
  refine wpAny_bind (wpAny_pure ?_)
  refine wpAny_call (codeAny_call_builtin PySem.F.attrBase_ValueError.ga.plain PySem.F.entry_bexc_ga ?_)
  refine check_ga T KX hx ?_
  unfold Builtin.«object.__getattribute__»
  refine wpAny_bind ?_
  refine (show wpAny (model prog w) A.in1 (pure (Value.ref x, [Value.str (Str.ofString "__class__") t]) : Sem (Value × List Value)) _ _ _ from wpAny_pure ?_)
  refine wpAny_bind ((show wpAny (model prog w) A.in1 (pure (Str.ofString "__class__") : Sem Str) _ _ _ from wpAny_pure ?_))
  refine wpAny_bind (PySem.W.Looks.at ix.type ?_)
  refine wpAny_bind (PySem.W.Looks.at (PySem.W.looks_find KX ix T.ob) ?_)
  refine wpAny_bind (wpAny_holding (wpAny_call (PySem.W.class_get KX ix T.mo ?_)))
  exact wpAny_pure (wpAny_pure (wpAny_pure q))
theorem kit_exc (T : ECK K C) : PySem.W.KitX K (.ref x) (.ref C) (ExI x C) where
  ty := fun M h _ hx => by
    obtain ⟨ox, ix⟩ := hx.inst
    exact ix.type
  it := fun M h KX _ => (PySem.W.kit_cls KX T.se).2.1
  ne := fun h tp dd its n sl KX e => by
    cases z : (Value.ref C == Value.ref tp) with
    | false => rfl
    | true =>
      have z : C = tp := by simpa using z
      subst z
      have ty : Option.map (fun x : Obj => x.cls) (List.lookup C K) = some (.type "type") := T.ty
      cases l : List.lookup C K with
      | none => rw [l] at ty; cases ty
      | some o =>
        rw [l] at ty
        have := KX C o l
        rw [e] at this; cases this
        simp at ty
  ca := fun KX hx q => exc_class T KX hx q
end
section
variable {X : Cx} {pos : Pos} {a b : Expr} {fa : FE}
def excTb (tb : List (Str × Bool)) : D → Rs D
  | .exc c => match tb.lookup c with
    | some b => .ok (.bl b)
    | none => .no
  | _ => .no
def eIsX (tb : List (Str × Bool)) (fa : FE) : FE := fun τ => (fa τ).bind (excTb tb)
theorem pde_isX {tb : List (Str × Bool)} {v : V} {u : Value} {p : Pos} (ha : PDE X a fa) (hb : PE X b (tC v)) (hu : ∀ u', RelV v u' → u' = u) (ht : ∀ c k, tb.lookup c = some k → ∃ C, PySem.W.nsIn X.K mainGlobals c = some (some (.ref C)) ∧ ECK X.K C ∧ PySem.W.kitOne X.K (.ref C) u = some k)
    (hm : X.mg "isinstance" = none) (hg : Gl X "isinstance" := by rfl) (hs : starEach [a, b] X.env = [(false, eval a X.env), (false, eval b X.env)] := by rfl) (hs2 : starEach [b] X.env = [(false, eval b X.env)] := by rfl) :
    PDE X (.Call (.Name "isinstance" p) [a, b] [] pos) (eIsX tb fa) := by
  have call : CallR X (.builtin "isinstance") (fun vs H Q => ∃ x c k, vs = [.ref x, v] ∧ H x = some (.ext (excIs X.K x c)) ∧ tb.lookup c = some k ∧ Q (.bl k) H) := by
    intro pins s σ H vs us Q I r ⟨x, c, k, e, hx, hk, q⟩
    subst e
    obtain ⟨u1, u2, rfl, r1, r2⟩ := vals2 r
    obtain rfl : u1 = Value.ref x := r1
    rw [hu u2 r2]
    obtain ⟨C, h1, T, h2⟩ := ht c k hk
    obtain ⟨⟨oe, cls, vs, e1, e2, e3, e4, e5⟩, _, _⟩ := I.hok x _ hx
    rw [h1] at e5
    cases e5
    exact PySem.W.kia_one (kit_exc T) I.kIn ⟨oe, vs, e1, e2, e3, e4⟩ h2 (by intro z; cases z) fun tk => ⟨.bl k, H, I.tok _, rfl, q⟩
  refine PE.imp (L2.pe_callB call hg hm boot_isinstance (pa_cons ha (pa_cons hb pa_nil (by rw [hs2]; rfl)) (by rw [hs, hs2])) (he := by rw [hs, hs2]) (hpl := by rw [hs2]; rfl)) fun σ H Q ⟨F, τ, R, h⟩ => ?_
  refine tE.of R h.bind fun d w F1 H1 g x R1 r => ?_
  cases d with
  | exc c =>
    simp only [Rep] at r
    obtain ⟨y, rfl, e⟩ := r
    simp only [excTb] at g
    cases z : tb.lookup c with
    | none => rw [z] at g; exact g.elim
    | some k =>
      rw [z] at g
      exact ⟨y, c, k, rfl, R1.fh _ _ e, z, g (.bl k) F1 H1 x (by simp only [Rep])⟩
  | _ => exact g.elim
theorem tb1 {c0 c : Str} {k0 k : Bool} (h : List.lookup c [(c0, k0)] = some k) : c = c0 ∧ k = k0 := by
  simp only [List.lookup] at h
  cases z : c == c0 with
  | true => rw [z] at h; exact ⟨by simpa using z, (Option.some.inj h).symm⟩
  | false => rw [z] at h; cases h
theorem pde_isX1 {c0 : Str} {C0 : Addr} {k0 : Bool} {v : V} {u : Value} {p : Pos} (T : EC X.K X.mg c0 C0) (TK : ECK X.K C0) (ha : PDE X a fa) (hb : PE X b (tC v)) (hu : ∀ u', RelV v u' → u' = u) (kk : PySem.W.kitOne X.K (.ref C0) u = some k0)
    (hm : X.mg "isinstance" = none) (hg : Gl X "isinstance" := by rfl) (hs : starEach [a, b] X.env = [(false, eval a X.env), (false, eval b X.env)] := by rfl) (hs2 : starEach [b] X.env = [(false, eval b X.env)] := by rfl) :
    PDE X (.Call (.Name "isinstance" p) [a, b] [] pos) (eIsX [(c0, k0)] fa) :=
  pde_isX ha hb hu (fun c k h => by obtain ⟨rfl, rfl⟩ := tb1 h; exact ⟨C0, T.ns, TK, kk⟩) hm hg hs hs2
theorem rel_ref {C : Addr} : ∀ u', RelV (V.ref C) u' → u' = Value.ref C := fun u' h => h
theorem rel_ty {T : String} : ∀ u', RelV (V.ty T) u' → u' = Value.type T := fun u' h => h
theorem ok1 {c0 : Str} {C0 Ch : Addr} {K : PySem.W.Frag} {mg : Str → Option Value} (T : EC K mg c0 C0) (x : PySem.W.exmOne K (.ref C0) (.ref Ch) = some true) : ∀ c cls, (c == c0) = true → PySem.W.nsIn K mainGlobals c = some (some cls) → PySem.W.exmOne K cls (.ref Ch) = some true := fun c cls h1 h2 => by
  have e : c = c0 := by simpa using h1
  subst e
  rw [T.ns] at h2
  cases h2
  exact x
end
end FD
set_option Elab.async false
set_option linter.all false
set_option maxRecDepth 100000
namespace FD
open PySem PySem.Spec PyProof.Rows L2
variable [Tabs]
section
variable {X : Cx} {pos : Pos} {e : Expr} {es : List Expr} {fs : FA} {st : Stmt}
theorem pds_quiet {f : FS} (h : PDS X.nox st f) : PDS X st (sQuiet f) := by
  intro pins s σ H D I ⟨B, Z, F, τ, R, q⟩
  refine wpAny_mono (h pins s σ H D (I.wish _) ⟨B, Z, F, τ, R, ?_⟩) (fun _ _ z => z.unwish) fun _ _ z => False.elim z
  unfold sQuiet at q
  cases z : f τ with
  | nx τ' => rw [z] at q; exact q
  | rt d => rw [z] at q; exact q
  | ro d τ => rw [z] at q; exact q
  | rb d τ => rw [z] at q; exact q
  | bk d => rw [z] at q; exact q
  | ct d => rw [z] at q; exact q
  | ex d => rw [z] at q; exact q.elim
  | no => rw [z] at q; exact q
  | rs c d => rw [z] at q; exact q.elim
theorem pde_callN {g : List D → Rs D} (h : PE X e (tX X fs g)) : PDE X e (eCall g fs) :=
  PE.imp h fun σ H Q ⟨F, τ, R, q⟩ => ⟨F, τ, R, (Ok.bind q).imp fun ds q => by
    cases z : g ds with
    | ok d => rw [z] at q; exact q
    | ex c => rw [z] at q; exact q.elim
    | no => rw [z] at q; exact q⟩
theorem boot_VE : bootBuiltins "ValueError" = some (.type "ValueError") := by first | rfl | decide +kernel
end
end FD
set_option Elab.async false
set_option linter.all false
set_option maxRecDepth 100000
namespace FD
open PySem PySem.Spec PyProof.Rows L2
variable [Tabs]
section
variable {X : Cx} {pos : Pos} {e a b : Expr} {es : List Expr} {fe fa fb : FE} {fs : FA}
end
end FD
set_option Elab.async false
set_option linter.all false
set_option maxRecDepth 100000
namespace FD
open PySem PySem.Spec PyProof.Rows L2
variable [Tabs]
section
variable {X : Cx} {pos : Pos} {e a b : Expr} {es : List Expr} {fe fa fb : FE} {fs : FA}
end
end FD
set_option Elab.async false
set_option linter.all false
set_option maxRecDepth 100000
namespace FD
open PySem PySem.Spec PyProof.Rows L2
variable [Tabs]
section
variable {P : Program} {w : World} {K : PySem.W.Frag} {mg : Str → Option Value} {base : Heap}
end
section
variable {X : Cx} {pos : Pos} {e : Expr} {es : List Expr} {fe : FE} {fs : FA}
end
end FD
set_option Elab.async false
set_option linter.all false
set_option maxRecDepth 100000
namespace FD
open PySem PySem.Spec PyProof.Rows L2
variable [Tabs]
section
variable {X : Cx} {scope : Scope} {N' : List Str}
end
section
variable {X : Cx} {scope : Scope} {N' : List Str} {tg iter elt : Expr} {ifs : List Expr} {pos : Pos} {wi : TI} {g : TG} {ti : TT} {te : TE} {s0 : St → St}
end
section
variable {X : Cx} {scope : Scope} {tn fr : List Str} {idx : List Nat} {tg iter elt : Expr} {ifs : List Expr} {pos : Pos} {fi : FA} {set : FG} {ft : FT} {fe : FE}
end
end FD
set_option Elab.async false
set_option linter.all false
set_option maxRecDepth 100000
namespace FD
open PySem PySem.Spec PyProof.Rows L2
variable [Tabs]
end FD
set_option Elab.async false
set_option linter.all false
set_option maxRecDepth 100000
namespace FD
open PySem PySem.Spec PyProof.Rows L2
variable [Tabs]
end FD
set_option Elab.async false
set_option linter.all false
set_option maxRecDepth 100000
namespace FD
open PySem PySem.Spec PyProof.Rows L2
variable [Tabs]
section
variable {X : Cx} {tg : Expr}
end
section
variable {X : Cx} {pos : Pos} {e tg : Expr} {es : List Expr} {fe : FE} {fs : FA}
end
section
variable {P : Program} {w : World} {K : PySem.W.Frag} {mg : Str → Option Value} {base : Heap}
end
section
variable {X : Cx} {pos : Pos} {e : Expr} {es : List Expr} {fe : FE} {fs : FA}
end
end FD
set_option Elab.async false
set_option linter.all false
set_option maxRecDepth 100000
namespace FD
open PySem PySem.Spec PyProof.Rows L2
variable [Tabs]
section
variable {X : Cx} {pins : List (Addr × Obj)} {σ : St} {H : Hp} {s : Shared} {a : Addr} {cls : Value}
end
end FD
set_option Elab.async false
set_option linter.all false
set_option maxRecDepth 100000
namespace FD
open PySem PySem.Spec PyProof.Rows L2
variable [Tabs]
def Ins (x : Str) : It :=
  ⟨fun k _ => k < x.cps.size,
   fun k H y H' => ∃ p c, H p = none ∧ x.cps[k]? = some c ∧ y = .ref p ∧ H' = upd H p (.tup [.int k, .str ⟨#[c]⟩]),
   fun k _ => x.cps.size ≤ k⟩
theorem strIter_or (x : Str) : strIterType x = "str_ascii_iterator" ∨ strIterType x = "str_iterator" := by
  unfold strIterType; split <;> simp
theorem draws_str {prog : Program} {w : World} {A : Around} (hh : A.handled = none) (it : Addr) (x : Str) (t : Tok) : Draws prog w A it [it] x.cps.size (SignAt x) (fun i h => h.IsStrIter it (strIterType x) x t i) := by
  rcases strIter_or x with e | e <;> rw [e]
  · exact Draws.strAscii hh it x t
  · exact Draws.strWide hh it x t
theorem turn_enumS {P : Program} {w : World} {K : PySem.W.Frag} {elts : List Expr} {x1} {pos : Pos} {e it : Addr} {x : Str} {t : Tok} (D : e ≠ it) :
    Turn P w K (.Tuple elts x1 pos) (Ins x) [e, it] e (fun k h => (∃ old, IsEnum h e it (k : Nat) old) ∧ h.IsStrIter it (strIterType x) x t k ∧ k ≤ x.cps.size) where
  mem := by simp
  obj := fun k h ⟨⟨old, h1⟩, ⟨o5, e5, c5, d5⟩, _⟩ b hb => by
    simp at hb
    rcases hb with rfl | rfl
    · exact ⟨_, h1, fun v z => by cases z⟩
    · exact ⟨_, e5, fun v z => by rw [d5] at z; cases z⟩
  keep := fun k h h' ⟨⟨old, h1⟩, ⟨o, q, r⟩, l⟩ hk => ⟨⟨old, hk e (by simp) _ h1⟩, ⟨o, hk it (by simp) o q, r⟩, l⟩
  item := by
    intro X hP hw hK hc k pins s σ H E I hf ⟨⟨old, h1⟩, h5, _⟩ hg
    subst hP hw hK
    have hg : k < x.cps.size := hg
    refine wpAny_pyNext_enum_itemD (draws_str (show X.A.in1.handled = none from I.ok.hd hc) it x t) h1 h5 hg D (by simpa using D) fun v h' tk pv q1 q2 q3 q4 q5 => ?_
    obtain ⟨c, u, hc', rfl⟩ := pv
    have np : s.heap.objs.size ≠ e := Nat.ne_of_gt (Heap.lt_size h1)
    refine ⟨_, rfl, wpAny_letOwnedTupleGo_enum (s := { s with heap := h', toks := tk + 1 }) q1 fun h'' z1 sb => ?_⟩
    refine ⟨.ref s.heap.objs.size, upd H s.heap.objs.size (.tup [.int k, .str ⟨#[c]⟩]), ?_, rfl, ⟨_, c, I.hok.fresh (Nat.le_refl _), hc', rfl, rfl⟩, ⟨⟨_, by simpa using z1⟩, ?_, hg⟩, fun b hb => ?_⟩
    · refine (turnedT (s := s) (h' := h'') (t' := tk + 1) (xs := [.int k, .str ⟨#[c]⟩]) (ch := [e, it]) I (fun b o hb q => ?_) hf (Nat.le_refl _) ⟨_, sb.extBut _ _ np q3, rfl, _, rfl⟩ (.cons ⟨_, rfl⟩ (.cons ⟨_, rfl⟩ .nil)) (by show 2 ≤ sizeLine; decide) : Inv X pins σ _ { s with heap := h'', toks := tk + 1 })
      simp at hb
      exact sb.extBut _ _ hb.1 (q5 b o hb.1 hb.2 q)
    · obtain ⟨o, q, r⟩ := q2
      exact ⟨o, sb.extBut _ _ (Ne.symm D) q, r⟩
    · have lt : b < s.heap.objs.size := by
        simp at hb
        rcases hb with rfl | rfl
        · exact Heap.lt_size h1
        · obtain ⟨o, q, r⟩ := h5
          exact Heap.lt_size q
      rw [upd_ne (Nat.ne_of_lt lt)]
      exact (hf b hb).1
  done := by
    intro X hP hw hK hc k pins s σ H E I hf ⟨⟨old, h1⟩, h5, hk⟩ hg
    subst hP hw hK
    have hg : x.cps.size ≤ k := hg
    have e1 : k = x.cps.size := Nat.le_antisymm hk hg
    subst e1
    obtain ⟨f0, f1, f2, f3, f4, f5⟩ := hf it (by simp)
    exact wpAny_pyNext_enum_endD (draws_str (show X.A.in1.handled = none from I.ok.hd hc) it x t) h1 h5 fun h' eb => ⟨rfl, I.turned (t' := s.toks) (fun b o hb q => eb b o hb q) f0 f1 f3 f4 f5⟩
  self := fun _ _ _ _ _ ⟨⟨_, h1⟩, _⟩ h => wpAny_pyIter_enum h1 h
section
variable {X : Cx} {pos : Pos} {e a b : Expr} {es : List Expr} {fe fa fb : FE} {fs : FA}
def iEnumS (ta : TA) : TI := fun σ H R => ta σ H fun vs H1 => ∃ x, vs = [.str x] ∧ R (Ins x) H1
theorem pi_enumS {ta : TA} {p : Pos} {elts : List Expr} {x1} {tpos : Pos} (hg : Gl X "enumerate") (hm : X.mg "enumerate" = none) (ha : PA X [a] ta) (hs : starEach [a] X.env = [(false, eval a X.env)] := by rfl) :
    PI X (.Tuple elts x1 tpos) (.Call (.Name "enumerate" p) [a] [] pos) (iEnumS ta) := by
  intro pins s σ H R I h
  refine Call_ (ld_blt I hg hm boot_enumerate (PyProof.Rows.callWith_type1 (thn (ha pos pins s σ H _ I h) fun us s1 ⟨vs, H1, I1, r1, q1⟩ => ?_) (by rw [hs]; rfl) rfl))
  obtain ⟨x, e, q⟩ := q1
  subst e
  obtain ⟨u1, rfl, ru⟩ := vals1 r1
  obtain ⟨t, rfl⟩ := ru
  refine call_enumerate_str fun h' g1 g2 g3 g4 => ?_
  have I5 : Inv X pins σ H1 { s1 with heap := h' } := I1.kept (t' := s1.toks) g4
  refine wpAny_pyIter_enum (s := { s1 with heap := h' }) g1 ?_
  refine ⟨s1.heap.objs.size + 1, [s1.heap.objs.size + 1, s1.heap.objs.size], _, _, H1, rfl, I5, turn_enumS (x := x) (t := t) (by show (_ : Nat) ≠ _; omega), ⟨⟨_, g1⟩, g2, Nat.zero_le _⟩, fun b hb => ?_, q⟩
  have hb' : s1.heap.objs.size ≤ b := by
    simp at hb
    rcases hb with rfl | rfl <;> (show s1.heap.objs.size ≤ (_ : Nat); omega)
  obtain ⟨f0, f1, f2, f3, f4, f5⟩ := I1.fpOk (H' := H1) hb' (I1.hok.fresh hb')
  exact ⟨f0, f1, f2, f3, f4, f5⟩
theorem it_enumS {K : PySem.W.Frag} {F1 : Hp} {x : Str} : ItOk K (Ins x) F1 (enumFrom 0 (signsD x)) := fun i F H f1 f2 => by
  have hl := enumFrom_len (signsD x) 0
  have hz : (signsD x).length = x.cps.size := by simp [signsD]
  refine ⟨fun h => ?_, fun p hp => ?_⟩
  · show x.cps.size ≤ i
    omega
  obtain ⟨d, h2, rfl⟩ := enumFrom_get hp
  have l2 : i < x.cps.size := by have := (List.getElem?_eq_some_iff.mp h2).1; omega
  refine ⟨l2, fun y H' yy => ?_⟩
  obtain ⟨pa, c, hp, q', rfl, rfl⟩ := yy
  refine ⟨upd F pa (.tup [.int i, .str ⟨#[c]⟩]), Ext.new f2 hp, ?_⟩
  have ed : d = .str ⟨#[c]⟩ := by
    unfold signsD at h2
    rw [List.getElem?_map] at h2
    have : x.cps.toList[i]? = some c := by simpa using q'
    rw [this] at h2
    exact (Option.some.inj h2).symm
  subst ed
  simp only [Rep]
  refine ⟨pa, _, rfl, SqT.of upd_same, Reps.cons (by simp only [Rep, Nat.zero_add]) (Reps.cons (by simp only [Rep]) Reps.nil)⟩
def sq1 : List D → Option Str
  | [.str x] => some x
  | _ => none
theorem sq1_eq {ds : List D} {x : Str} (h : sq1 ds = some x) : ds = [.str x] := by
  unfold sq1 at h; split at h <;> cases h; rfl
def iEnS (fs : FA) : FA := fun τ => (fs τ).bind fun ds => match sq1 ds with
  | some x => .ok (enumFrom 0 (signsD x))
  | none => .no
theorem pdi_enumS {p : Pos} {elts : List Expr} {x1} {tpos : Pos} (hg : Gl X "enumerate") (hm : X.mg "enumerate" = none) (ha : PDA X [a] fs) (hs : starEach [a] X.env = [(false, eval a X.env)] := by rfl) :
    PDI X (.Tuple elts x1 tpos) (.Call (.Name "enumerate" p) [a] [] pos) (iEnS fs) :=
  PI.imp (pi_enumS hg hm ha hs) fun σ H R ⟨F, τ, Rv, h⟩ => tAs.of Rv h.bind fun ds vs F1 H1 g x R1 r => by
    cases q1 : sq1 ds with
    | none => rw [q1] at g; exact g.elim
    | some z =>
      rw [q1] at g
      have e := sq1_eq q1
      subst e
      obtain ⟨v, rfl, r1⟩ := r.one
      simp only [Rep] at r1
      subst r1
      exact ⟨z, rfl, g _ F1 H1 x it_enumS⟩
def strOp0 : D → D → Rs D
  | .str a, .str b => if a.length + b.length ≤ sizeLine then .ok (.str (a ++ b)) else .no
  | _, _ => .no
theorem pds_augS {i : Nat} {x : Str} {pos' : Pos} (hN : X.N.Nodup) (hi : X.N[i]? = some x) (hx : Loc X.env.scope x) (he : PDE X e fe)
    (hf : X.fn x = true ∨ X.env.scope.names.lookup x = some .local := by first | exact .inl rfl | exact .inr rfl | assumption) : PDS X (.AugAssign (.Name x pos') .Add e pos) (sAug i strOp0 fe) :=
  pds_aug hN hi hx he (r := fun x y H Q => ∃ i j : Str, x = .str i ∧ y = .str j ∧ i.length + j.length ≤ sizeLine ∧ Q (.str (i ++ j)) H) iop_add_str (fun F H x y dx dy Q fh r1 r2 q => by
    cases dx with
    | str i =>
      cases dy with
      | str j =>
        simp only [Rep] at r1 r2; subst r1; subst r2
        obtain ⟨z, q⟩ := ok_ite (X := X) q
        exact ⟨i, j, rfl, rfl, z, q _ F H (Ext.refl fh) (by simp only [Rep])⟩
      | _ => exact q.elim
    | _ => cases dy <;> exact q.elim) hf
end
end FD
set_option Elab.async false
set_option linter.all false
set_option maxRecDepth 100000
namespace FD
open PySem PySem.Spec PyProof.Rows L2
variable [Tabs]
section
variable {X : Cx} {tg : Expr}
end
section
variable {X : Cx} {pos : Pos} {e tg : Expr} {es : List Expr} {fe : FE} {fs : FA}
end
end FD
set_option Elab.async false
set_option linter.all false
set_option maxRecDepth 100000
namespace FD
open PySem PySem.Spec PyProof.Rows L2
variable [Tabs]
section
variable {X : Cx} {pos : Pos} {e a b : Expr} {es : List Expr} {fe fa fb : FE} {fs : FA}
end
end FD
set_option Elab.async false
set_option linter.all false
set_option maxRecDepth 100000
namespace FD
open PySem PySem.Spec PyProof.Rows L2
variable [Tabs]
end FD
set_option Elab.async false
set_option linter.all false
set_option maxRecDepth 100000
namespace FD
open PySem PySem.Spec PyProof.Rows L2 PySem.W
section
variable {lt : Nat → Nat → Bool} {n : Nat}
end
section
variable {n : Nat} {κ : Nat → List Int} {p : Array Nat}
variable (inj : ∀ i j, i < n → j < n → κ i = κ j → i = j)
include inj
end
end FD
set_option Elab.async false
set_option linter.all false
set_option maxRecDepth 100000
namespace FD
open PySem PySem.Spec PyProof.Rows L2 PySem.W
section
variable {prog : Program} {w : World} {A : Around} {E : Value → Shared → Prop} {s : Shared}
end
section
variable [Tabs] {X : Cx} {pins : List (Addr × Obj)} {σ : St} {F H : Hp} {s : Shared}
end
end FD
set_option Elab.async false
set_option linter.all false
set_option maxRecDepth 100000
namespace FD
open PySem PySem.Spec PyProof.Rows L2 PySem.W
variable [Tabs]
section
variable {X : Cx} {pins : List (Addr × Obj)} {σ : St} {F H : Hp} {τ : DS} {s : Shared} {Q : VK} {E : Value → Shared → Prop}
end
end FD
set_option Elab.async false
set_option linter.all false
set_option maxRecDepth 100000
namespace FD
open PySem PySem.Spec PyProof.Rows L2 PySem.W
variable [Tabs]
section
variable {X : Cx} {pins : List (Addr × Obj)} {σ : St} {F H : Hp} {τ : DS} {s : Shared} {Q : VK} {E : Value → Shared → Prop}
end
end FD
set_option Elab.async false
set_option linter.all false
set_option maxRecDepth 100000
namespace FD
open PySem PySem.Spec PyProof.Rows L2 PySem.W
variable [Tabs]
section
variable {X : Cx} {scope : Scope} {N' : List Str} {pins : List (Addr × Obj)} {σ σ' : St} {F H : Hp} {τ : DS} {s : Shared}
end
end FD
set_option Elab.async false
set_option linter.all false
set_option maxRecDepth 100000
namespace FD
open PySem PySem.Spec PyProof.Rows L2 PySem.W
variable [Tabs]
section
variable {X : Cx} {scope : Scope} {pins : List (Addr × Obj)} {σ : St} {F H : Hp} {τ : DS} {s : Shared}
end
end FD
set_option Elab.async false
set_option linter.all false
set_option maxRecDepth 100000
namespace FD
open PySem PySem.Spec PyProof.Rows L2
section
variable {prog : Program} {w : World} {A : Around} {R : Result → Shared → Prop} {E : Value → Shared → Prop} {I S : Addr} {fp wr : List Addr} {n : Nat} {P : Nat → Value → Prop} {St : Nat → Heap → Prop} {kw : List (Str × Value)}
end
variable [Tabs]
section
variable {X : Cx} {pos pp kp : Pos} {e e2 : Expr} {fe f2 : FE}
end
end FD
set_option Elab.async false
set_option linter.all false
set_option maxRecDepth 100000
namespace FD
open PySem PySem.Spec PyProof.Rows L2
variable [Tabs]
open Classical in
noncomputable def frzH (τ : DS) (σ : St) (F H : Hp) : Hp := fun a => if ∃ (i : Nat) (ds : List D), τ[i]? = some (some (.own ds)) ∧ σ[i]? = some (some (.ref a)) then H a else F a
def frzS : Option Sl → Option Sl
  | some (.own ds) => some (.val (.lst ds))
  | o => o
def frzT (τ : DS) : DS := τ.map frzS
theorem frzT_get {τ : DS} {i : Nat} {o : Sl} (h : (frzT τ)[i]? = some (some o)) : (∃ d, o = .val d ∧ τ[i]? = some (some (.val d))) ∨ (∃ ds, o = .val (.lst ds) ∧ τ[i]? = some (some (.own ds))) ∨ (isOb (some o) = true ∧ τ[i]? = some (some o)) := by
  unfold frzT at h
  rw [List.getElem?_map] at h
  cases q : τ[i]? with
  | none => rw [q] at h; cases h
  | some x =>
    rw [q] at h
    cases x with
    | none => cases h
    | some sl =>
      cases sl with
      | val d => cases h; exact .inl ⟨d, rfl, rfl⟩
      | own ds => cases h; exact .inr (.inl ⟨ds, rfl, rfl⟩)
      | obj n c fs => cases h; exact .inr (.inr ⟨rfl, rfl⟩)
      | obr c fs => cases h; exact .inr (.inr ⟨rfl, rfl⟩)
theorem frzT_obj {τ : DS} {i : Nat} {o : Sl} (ho : isOb (some o) = true) (h : (frzT τ)[i]? = some (some o)) : τ[i]? = some (some o) := by
  rcases frzT_get h with ⟨_, e1, _⟩ | ⟨_, e1, _⟩ | ⟨_, e2⟩
  · subst e1; cases ho
  · subst e1; cases ho
  · exact e2
section
variable {K : PySem.W.Frag} {B Z F H : Hp} {τ : DS} {σ : St}
theorem frz_same (R : RV K F τ σ H) : Same F (frzH τ σ F H) := fun b o e => by
  unfold frzH
  split
  · rename_i h
    obtain ⟨i, ds, h1, h2⟩ := h
    obtain ⟨a, vs, q1, q2, q3, q4⟩ := R.own i ds h1
    rw [h2] at q1; cases q1
    rw [q3] at e; cases e
  · exact e
theorem RV.frz (R : RV K F τ σ H) : RV K (frzH τ σ F H) (frzT τ) σ H := by
  refine ⟨fun b o e => ?_, by unfold frzT; rw [List.length_map]; exact R.len, fun i d e => ?_, fun i ds e => ?_, fun i j ds es a _ h1 _ _ _ => ?_, ⟨fun r hr => ?_, R.tt.2⟩, ?_⟩
  · unfold frzH at e
    split at e
    · exact e
    · exact R.fh b o e
  · rcases frzT_get e with ⟨d', e1, e2⟩ | ⟨ds, e1, e2⟩ | ⟨e1, e2⟩
    · cases e1
      obtain ⟨v, h1, h2⟩ := R.val i d e2
      exact ⟨v, h1, h2.mono (frz_same R)⟩
    · cases e1
      obtain ⟨a, vs, q1, q2, q3, q4⟩ := R.own i ds e2
      refine ⟨_, q1, ?_⟩
      simp only [Rep]
      refine ⟨a, vs, rfl, ?_, q4.mono (frz_same R)⟩
      unfold frzH
      rw [if_pos ⟨i, ds, e2, q1⟩]; exact q2
    · cases e1
  · rcases frzT_get e with ⟨_, e1, _⟩ | ⟨_, e1, _⟩ | ⟨e1, _⟩ <;> cases e1
  · rcases frzT_get h1 with ⟨_, e1, _⟩ | ⟨_, e1, _⟩ | ⟨e1, _⟩ <;> cases e1
  · obtain ⟨t1, t2⟩ := R.tt.1 r hr
    refine ⟨?_, t2⟩
    unfold frzH
    split
    · rename_i h
      obtain ⟨i, ds, h1, h2⟩ := h
      obtain ⟨a, vs, q1, q2, q3, q4⟩ := R.own i ds h1
      rw [h2] at q1; cases q1
      rw [q2] at t2
      rcases t2 with z | ⟨_, z, _⟩ <;> cases z
    · exact t1
  · have nf : ∀ {a : Addr} {u : HO}, H a = some u → F a = none → (∀ (i : Nat) (ds : List D), τ[i]? = some (some (.own ds)) → σ[i]? = some (some (.ref a)) → False) → frzH τ σ F H a = none := fun {a u} h h3 n => by
      unfold frzH
      split
      · rename_i h
        obtain ⟨j, ds, g1, g2⟩ := h
        exact (n j ds g1 g2).elim
      · exact h3
    have o1 : ObsOk K (frzH τ σ F H) τ σ H := R.ob.keep (frz_same R) (fun _ _ _ _ h => h) (fun a C dx vs h h3 => nf h h3 fun i ds g1 g2 => by
        obtain ⟨b, ws, q1, q2, q3, q4⟩ := R.own i ds g1
        rw [g2] at q1; cases q1
        rw [q2] at h; cases h) (fun _ _ h => h) fun i c a l ws h1 h2 h3 h4 h5 => ⟨h4, nf h4 h5 fun j ds g1 g2 => R.ob.lo i j c ds a l h1 g1 h2 g2 h3⟩
    have bo : ∀ {i : Nat} {c : Str}, ObS (frzT τ)[i]? c → ObS τ[i]? c := fun {i c} h => by
      rcases h with ⟨n, fs, h⟩ | ⟨fs, h⟩
      · exact .inl ⟨n, fs, frzT_obj rfl h⟩
      · exact .inr ⟨fs, frzT_obj rfl h⟩
    exact ⟨fun i n c fs h => o1.at_ i n c fs (frzT_obj rfl h), fun i j n c c' fs a hij h1 h2 => o1.dis i j n c c' fs a hij (frzT_obj rfl h1) (bo h2), fun i c fs h => o1.rd i c fs (frzT_obj rfl h), fun i j n c c' fs a a' l hij h1 h2 => o1.ll i j n c c' fs a a' l hij (frzT_obj rfl h1) (bo h2), fun i j c ds a l _ h2 => by
      rcases frzT_get h2 with ⟨_, e1, _⟩ | ⟨_, e1, _⟩ | ⟨e1, _⟩ <;> cases e1⟩
theorem RS.frz (R : RS K B Z F τ σ H) : RS K B Z (frzH τ σ F H) (frzT τ) σ H := by
  refine ⟨R.rv.frz, R.bh, R.zf.trans (frz_same R.rv), fun a o e => ?_, fun i ds a h1 _ => ?_, fun i n c fs a h1 h2 => R.oo i n c fs a (frzT_obj rfl h1) h2, fun a0 dx b1 b2 i n c fs h => R.sf a0 dx b1 b2 i n c fs (frzT_obj rfl h), fun i c fs a h1 h2 => R.ro i c fs a (frzT_obj rfl h1) h2⟩
  · unfold frzH at e
    split at e
    · rename_i h
      obtain ⟨i, ds, h1, h2⟩ := h
      exact .inr (R.ob i ds a h1 h2)
    · exact R.nb a o e
  · rcases frzT_get h1 with ⟨_, e1, _⟩ | ⟨_, e1, _⟩ | ⟨e1, _⟩ <;> cases e1
end
section
variable {X : Cx} {pos : Pos} {e tg : Expr} {st : Stmt} {ss : List Stmt} {fe : FE} {fs : FA} {f : FS}
theorem pds_frz (h : PDS X st f) : PDS X st (fun τ => f (frzT τ)) := PS.imp h fun E σ H ⟨B, Z, F, τ, R, q⟩ => ⟨B, Z, _, frzT τ, R.frz, q.same (frz_same R.rv)⟩
def scal : D → Bool
  | .non => true
  | .bl _ => true
  | .int _ => true
  | .str _ => true
  | _ => false
theorem scal_rep {K : PySem.W.Frag} {F F' : Hp} {d : D} {v : V} (h : scal d = true) (r : Rep K F d v) : Rep K F' d v := by
  cases d <;> first | (simp only [Rep] at r ⊢; exact r) | cases h
def eFz (fe : FE) : FE := fun τ => (fe (frzT τ)).bind fun d => if scal d = true then .ok d else .no
theorem pde_fz (h : PDE X e fe) : PDE X e (eFz fe) := PE.imp h fun σ H Q ⟨F, τ, R, q⟩ => ⟨_, frzT τ, R.frz, q.bind.imp fun d g v F1 H1 x r => by
  by_cases z : scal d = true
  · rw [if_pos z] at g
    have sF : Same F F1 := (frz_same R).trans x.ff
    exact g v F H1 ⟨Same.refl F, x.hh, sF.trans x.fh, fun _ _ e => .inl e, fun _ => ⟨fun r hr => ⟨none_of_same sF ((x.tt R.frz.tt).1 r hr).1, ((x.tt R.frz.tt).1 r hr).2⟩, (x.tt R.frz.tt).2⟩⟩ (scal_rep z r)
  · rw [if_neg z] at g; exact g.elim⟩
end
end FD
set_option Elab.async false
set_option linter.all false
set_option maxRecDepth 100000
namespace FD
open PySem PySem.Spec PyProof.Rows L2 PySem.W
variable [Tabs]
section
variable {X : Cx} {pins : List (Addr × Obj)} {σ : St} {F H : Hp} {τ : DS} {s : Shared} {Q : VK} {E : Value → Shared → Prop}
end
end FD
set_option Elab.async false
set_option linter.all false
set_option maxRecDepth 100000
namespace FD
open PySem PySem.Spec PyProof.Rows L2 PySem.W
variable [Tabs]
section
variable {P : Program} {w : World} {K : PySem.W.Frag} {mg : Str → Option Value} {base : Heap}
end
end FD
set_option Elab.async false
set_option linter.all false
set_option maxRecDepth 100000
namespace FD
open PySem PySem.Spec PyProof.Rows L2
variable [Tabs]
section
variable {X : Cx} {pos : Pos} {e a b : Expr} {es : List Expr} {fe fa fb : FE} {fs : FA}
end
end FD
set_option Elab.async false
set_option linter.all false
set_option maxRecDepth 100000
namespace FD
open PySem PySem.Spec PyProof.Rows L2
variable [Tabs]
abbrev Fs := List (Str × D)
section
variable {X : Cx} {pos : Pos} {e : Expr} {es : List Expr} {fe : FE} {fs : FA} {C : Addr} {c f x : Str} {i : Nat}
end
end FD
set_option Elab.async false
set_option linter.all false
set_option maxRecDepth 100000
namespace FD
open PySem PySem.Spec PyProof.Rows L2
variable [Tabs]
section
variable {X : Cx} {pos : Pos} {e : Expr} {es : List Expr} {fe : FE} {fs : FA} {C : Addr} {c f x : Str} {i : Nat}
end
section
variable {X : Cx} {pos : Pos} {e : Expr} {es : List Expr} {fe : FE} {ff : FA} {C : Addr} {c f x : Str} {i : Nat}
end
section
variable {X : Cx} {pos : Pos} {e : Expr} {es : List Expr} {fe : FE} {ff : FA} {C : Addr} {c f x : Str} {i : Nat}
end
end FD
set_option Elab.async false
set_option linter.all false
set_option maxRecDepth 100000
namespace FD
open PySem PySem.Spec PyProof.Rows L2
variable [Tabs]
def startM (s0 : Sl) (j N : Nat) (ds : List D) : DS := (ds.take j).map (fun d => some (.val d)) ++ some s0 :: ((ds.drop j).map (fun d => some (.val d)) ++ List.replicate (N - (ds.length + 1)) none)
def runR (N j : Nat) (c : Str) (fb : FS) (fs : Fs) (ds : List D) : Rs D := flRes (fb (startM (.obr c fs) j N ds))
section
variable {P : Program} {w : World} {K : PySem.W.Frag} {mg : Str → Option Value} {base : Heap}
end
end FD
set_option Elab.async false
set_option linter.all false
set_option maxRecDepth 100000
namespace FD
open PySem PySem.Spec PyProof.Rows L2
variable [Tabs]
abbrev FOb := DS → Rs (D × DS)
abbrev FObT := DS → Rs (Bool × DS)
section
variable {X : Cx} {pos : Pos} {e a b : Expr} {es rest : List Expr} {fe fb : FE} {fs : FA} {c m x : Str} {i k n : Nat} {ps : List Str} {fo : FOb} {ga gb : FObT}
end
end FD
set_option Elab.async false
set_option linter.all false
set_option maxRecDepth 100000
namespace FD
open PySem PySem.Spec PyProof.Rows L2
variable [Tabs]
section
variable {X : Cx} {pos : Pos} {e a b : Expr} {es rest : List Expr} {fe fb : FE} {fs f1 f2 : FA} {c m x y : Str} {i k n j : Nat} {ps : List Str} {fo : FOb}
end
end FD
set_option Elab.async false
set_option linter.all false
set_option maxRecDepth 100000
namespace FD
open PySem PySem.Spec PyProof.Rows L2
variable [Tabs]
section
variable {X : Cx} {pos : Pos} {e : Expr} {es : List Expr} {fs : FA} {c x : Str} {i k n : Nat} {ps : List Str}
end
section
variable {P : Program} {w : World} {K : PySem.W.Frag} {mg : Str → Option Value} {base : Heap}
end
end FD
set_option Elab.async false
set_option linter.all false
set_option maxRecDepth 100000
namespace FD
open PySem PySem.Spec PyProof.Rows L2
variable [Tabs]
section
variable {X : Cx} {scope : Scope} {tn fr : List Str} {idx : List Nat} {tg iter elt : Expr} {ifs : List Expr} {pos : Pos} {fi : FA} {set : FG} {ft : FT} {fe : FE}
end
section
variable {X : Cx} {pos : Pos} {e tg : Expr} {es : List Expr} {fe : FE} {fs : FA} {c f x : Str} {i : Nat} {C : Addr}
end
end FD
set_option Elab.async false
set_option linter.all false
set_option maxRecDepth 100000
namespace FD
open PySem PySem.Spec PyProof.Rows L2
variable [Tabs]
section
variable {P : Program} {w : World} {K : PySem.W.Frag} {mg : Str → Option Value} {base : Heap}
end
section
variable {X : Cx} {pos : Pos} {e : Expr} {es : List Expr} {fs : FA} {c c2 m x y : Str} {i k n h_ : Nat} {ps : List Str}
end
end FD
set_option Elab.async false
set_option linter.all false
set_option maxRecDepth 100000
namespace FD
open PySem PySem.Spec PyProof.Rows L2
variable [Tabs]
section
variable {X : Cx} {pos : Pos} {e a b : Expr} {es : List Expr} {fe fa fb fi : FE} {C : Addr} {c f x : Str} {i : Nat}
end
end FD
set_option Elab.async false
set_option linter.all false
set_option maxRecDepth 100000
namespace FD
open PySem PySem.Spec PyProof.Rows L2
variable [Tabs]
omit [Tabs] in
theorem vals_ints : ∀ {vs : List Value} {ns : List Int}, IntsAre vs ns → Vals (ns.map V.int) vs
  | _, _, .nil => .nil
  | _, _, .cons n t r => .cons ⟨t, rfl⟩ (vals_ints r)
section
variable {X : Cx} {pins : List (Addr × Obj)} {σ : St} {F H : Hp} {s : Shared} {Q : VK} {E : Value → Shared → Prop}
end
end FD
set_option Elab.async false
set_option linter.all false
set_option maxRecDepth 100000
namespace FD
open PySem PySem.Spec PyProof.Rows L2
variable [Tabs]
section
variable {X : Cx} {pos : Pos} {C : Addr} {c f x : Str} {i : Nat}
end
end FD
set_option Elab.async false
set_option linter.all false
set_option maxRecDepth 100000
namespace FD
open PySem PySem.Spec PyProof.Rows L2 PySem.W
variable [Tabs]
section
variable {P : Program} {w : World} {K : PySem.W.Frag} {mg : Str → Option Value} {base : Heap}
end
end FD
set_option Elab.async false
set_option linter.all false
set_option maxRecDepth 100000
namespace FD
open PySem PySem.Spec PyProof.Rows L2
variable [Tabs]
section
variable {P : Program} {w : World} {K : PySem.W.Frag} {mg : Str → Option Value} {base : Heap}
end
section
variable {X : Cx} {pos : Pos} {e : Expr} {es : List Expr} {fe : FE} {ff : FA} {c m x : Str} {i k n h_ : Nat} {ps : List Str}
end
end FD
set_option Elab.async false
set_option linter.all false
namespace STW
open PySem
abbrev Ris (l : List Nat) : Prop := l.Pairwise (· < ·)
def TT (L : Bool) (t : SetTable) : Prop := t.led = L ∧ t.dummies = #[] ∧ Ris t.place.toList
end STW
set_option Elab.async false
set_option linter.all false
namespace STW
open PySem
section
variable {prog : Program} {w : World} {K : Type} [DecidableEq K] {knd : KeyKind prog w K} {A : Around} {E : Value → Shared → Prop} {s : Shared} {L : Bool} {a : Addr} {S : K → Bool} {n : Nat} {k : K} {x : Value}
def SetT (knd : KeyKind prog w K) (L : Bool) (h : Heap) (a : Addr) (S : K → Bool) (n : Nat) : Prop :=
  ∃ o es ep t, h.get? a = some o ∧ o.ExactSet ∧ o.data = .set es ep t ∧ ElemsOf knd es.toList ∧ (∀ k, S k = true ↔ ∃ e ∈ es.toList, knd.is k e.2 = true) ∧ es.size < scanBound ∧ t.fits es.size = true ∧ es.size = n ∧ TT L t
theorem stored {h : Heap} {o : Obj} {es : Array (Int × Value)} {ep : Nat} {t : SetTable} (ho : h.get? a = some o) (hx : o.ExactSet) (hd : o.data = .set es ep t) {es' : Array (Int × Value)} {t' : SetTable} {S' : K → Bool} (p1 : ElemsOf knd es'.toList)
    (p2 : ∀ k, S' k = true ↔ ∃ e ∈ es'.toList, knd.is k e.2 = true) (p3 : es'.size < scanBound) (p4 : t'.fits es'.size = true) (p5 : TT L t') :
    (h.update a (Obj.putSet es' t')).get? a = some { o with data := .set es' (ep + 1) t' } ∧ SetT knd L (h.update a (Obj.putSet es' t')) a S' es'.size := by
  obtain ⟨g, _⟩ := SetOf_store (knd := knd) ho hx hd p1 p2 p3 p4
  exact ⟨g, _, es', ep + 1, t', g, hx, rfl, p1, p2, p3, p4, rfl, p5⟩
end
end STW
set_option Elab.async false
set_option linter.all false
namespace STW
open PySem PyProof.Rows
section
variable {prog : Program} {w : World} {A : Around} {R : Result → Shared → Prop} {I : Addr} {fp wr : List Addr} {G : Array GenState → Array GenState → Prop} {n : Nat} {P : Nat → Value → Prop} {St : Nat → Shared → Prop} {L : Bool}
end
section
variable {prog : Program} {w : World} {A : Around} {E : Value → Shared → Prop} {s : Shared}
end
end STW
set_option Elab.async false
set_option linter.all false
namespace STW
open PySem PyProof.Rows
section
variable {prog : Program} {w : World} {A : Around} {E : Value → Shared → Prop} {s : Shared}
abbrev fm (ns : List Int) (n : Nat) : List Int := firstMet (fun i => ns.getD i 0) n
end
end STW
set_option Elab.async false
set_option linter.all false
set_option maxRecDepth 100000
namespace STW
open PySem PyProof.Rows
namespace FS
end FS
section
variable {prog : Program} {w : World} {A : Around} {E : Value → Shared → Prop} {s : Shared}
end
end STW
set_option Elab.async false
set_option linter.all false
set_option maxRecDepth 100000
namespace STW
open PySem PyProof.Rows
section
variable {prog : Program} {w : World} {A : Around} {E : Value → Shared → Prop} {s : Shared} {I a : Addr} {es : Array (Int × Value)} {ep : Nat} {t : SetTable} {Q : Option Value → Shared → Prop}
end
end STW
set_option Elab.async false
set_option linter.all false
set_option maxRecDepth 100000
namespace STW
open PySem PyProof.Rows
section
variable {prog : Program} {w : World} {A : Around} {E : Value → Shared → Prop} {s : Shared} {I a : Addr} {es : Array (Int × Value)} {ep : Nat} {t : SetTable}
end
end STW
set_option Elab.async false
set_option linter.all false
set_option maxRecDepth 100000
namespace STW
open PySem PyProof.Rows
section
variable {prog : Program} {w : World} {A : Around} {E : Value → Shared → Prop} {s : Shared} {I a T : Addr} {es : Array (Int × Value)} {ep : Nat} {t : SetTable} {Q : Option Value → Shared → Prop}
end
end STW
set_option Elab.async false
set_option linter.all false
set_option maxRecDepth 100000
namespace STW
open PySem PyProof.Rows
section
variable {prog : Program} {w : World} {A : Around} {E : Value → Shared → Prop} {s : Shared} {a : Addr} {es : Array (Int × Value)} {ep : Nat} {t : SetTable}
end
end STW
set_option Elab.async false
set_option linter.all false
set_option maxRecDepth 100000
namespace STW
open PySem PyProof.Rows
section
variable {prog : Program} {w : World} {A : Around} {E : Value → Shared → Prop} {s : Shared} {a : Addr} {es : Array (Int × Value)} {ep : Nat} {t : SetTable}
end
end STW
set_option Elab.async false
set_option linter.all false
set_option maxRecDepth 100000
namespace STW
open PySem PyProof.Rows
section
variable {prog : Program} {w : World} {A : Around} {E : Value → Shared → Prop} {s : Shared} {a : Addr} {es : Array (Int × Value)} {ep : Nat} {t : SetTable}
end
end STW
set_option Elab.async false
set_option linter.all false
set_option maxRecDepth 100000
namespace STW
open PySem PyProof.Rows
section
variable {prog : Program} {w : World} {A : Around} {E : Value → Shared → Prop} {s : Shared} {a : Addr} {ns : List Int} {n : Nat}
end
end STW
set_option Elab.async false
set_option linter.all false
set_option maxRecDepth 100000
namespace FD
open PySem PySem.Spec PyProof.Rows L2
variable [Tabs]
section
variable {X : Cx} {e : Expr} {pos : Pos} {fs : FA}
end
end FD
set_option Elab.async false
set_option linter.all false
set_option maxRecDepth 100000
namespace FD
open PySem PySem.Spec PyProof.Rows L2
variable [Tabs]
section
variable {X : Cx}
end
end FD
set_option Elab.async false
set_option linter.all false
namespace L2
open PySem PySem.Spec PyProof.Rows
section
variable {κ : Type} [DecidableEq κ]
end
section
variable {P : Program} {w : World} {H : Hp} {h : Heap} {a : Addr}
end
section
variable {X : Cx} {pins : List (Addr × Obj)} {σ : St} {H : Hp} {s : Shared} {a : Addr} {y v : V} {u r : Value} {o : Option V} {A : Around} {E : Value → Shared → Prop}
end
section
variable {X : Cx} {pins : List (Addr × Obj)} {σ : St} {H : Hp} {s : Shared} {a : Addr} {kvs : List (Key × V)} {k : Key} {u : Value} {A : Around} {E : Value → Shared → Prop}
end
section
variable {X : Cx} {o i e value : Expr} {pos pos' tpos : Pos} {td ty tv : TE}
end
section
variable {X : Cx} {pos : Pos}
end
structure M2 (X : Cx) (o : Expr) (m : Str) (apos : Pos) (e f : Expr) (cpos : Pos) : Prop where
  base : attributeBase o m X.env (eval o X.env) = eval o X.env
  few : ((backTo cpos (starEach [e, f] X.env)).all (fun x => !x.1) && (backToKw cpos (keywordEach [] X.env)).all (fun x => x.1.isSome)
    && decide (([e, f] : List Expr).length + ([] : List Keyword).length + (if ([] : List Keyword).isEmpty then 0 else 1) < 30)) = true
  line : (apos.endLine == cpos.line) = true
  trees : backTo cpos (starEach [e, f] X.env) = [(false, eval e X.env), (false, eval f X.env)]
section
variable {X : Cx} {pins : List (Addr × Obj)} {σ : St} {H : Hp} {s : Shared} {a : Addr} {y d : V} {u r : Value} {o : Option V} {A : Around} {E : Value → Shared → Prop}
end
section
variable {X : Cx} {o e f : Expr} {apos cpos : Pos} {td ty tx : TE}
end
section
variable {X : Cx} {pins : List (Addr × Obj)} {σ : St} {H : Hp} {s : Shared} {a : Addr} {kvs : List (Key × V)} {A : Around} {E : Value → Shared → Prop}
end
section
variable {X : Cx} {pins : List (Addr × Obj)} {σ : St} {H : Hp} {s : Shared} {a : Addr} {y : V} {u : Value} {A : Around} {E : Value → Shared → Prop}
end
end L2
namespace L2
open PySem PySem.Spec PyProof.Rows
section
variable {κ : Type} [DecidableEq κ]
end
end L2
set_option Elab.async false
set_option linter.all false
set_option maxRecDepth 100000
namespace STW
open PySem PyProof.Rows
section
variable {prog : Program} {w : World} {K : Type} [DecidableEq K] {knd : KeyKind prog w K} {A : Around} {E : Value → Shared → Prop} {s : Shared} {d : Addr} {kvs : List (K × Value)} {ep : Nat}
end
end STW
set_option Elab.async false
set_option linter.all false
set_option maxRecDepth 100000
namespace STW
open PySem PyProof.Rows
section
variable {prog : Program} {w : World} {K : Type} [DecidableEq K] {knd : KeyKind prog w K} {A : Around} {E : Value → Shared → Prop} {s : Shared} {d : Addr} {kvs : List (K × Value)} {ep : Nat} {ns : List Int} {b : Bool}
end
end STW
set_option Elab.async false
set_option linter.all false
set_option maxRecDepth 100000
namespace FD
open PySem PySem.Spec PyProof.Rows L2
variable [Tabs]
section
variable {X : Cx} {pos pp kp p1 p2 : Pos} {kk : Nat}
end
end FD
set_option Elab.async false
set_option linter.all false
set_option maxRecDepth 100000
namespace FD
open PySem PySem.Spec PyProof.Rows L2
variable [Tabs]
end FD
set_option Elab.async false
set_option linter.all false
set_option maxRecDepth 100000
namespace FD
open PySem PySem.Spec PyProof.Rows L2
variable [Tabs]
section
variable {X : Cx} {i : Nat} {y : Str} {e0 e0' e0'' e1 : Expr} {f0 f1 : FE} {q1 q2 q3 cp sp sp2 lp ap ip atp callp xp : Pos}
end
end FD
set_option Elab.async false
set_option linter.all false
set_option maxRecDepth 100000
namespace FD
open PySem PySem.Spec PyProof.Rows L2
variable [Tabs]
section
variable {X : Cx} {i r : Nat} {x y : Str} {e0 e0' e0'' e1 iter : Expr} {fi : FA} {q1 q2 q3 cp sp sp2 lp ap ip atp callp xp tp pos : Pos}
end
end FD
set_option Elab.async false
set_option linter.all false
set_option maxRecDepth 100000
namespace FD
open PySem PySem.Spec PyProof.Rows L2
variable [Tabs]
end FD
set_option Elab.async false
set_option linter.all false
set_option maxRecDepth 100000
namespace FD
open PySem PySem.Spec PyProof.Rows L2
variable [Tabs]
section
variable {X : Cx} {i r : Nat} {x y c : Str} {iter elt : Expr} {fi : FA} {body : List Stmt} {scope : Scope} {yp tp dp a1 fp rp cpos cp sp p1 p2 kp : Pos} {kk : Nat}
end
end FD
set_option Elab.async false
set_option linter.all false
set_option maxRecDepth 100000
namespace STW
open PySem PyProof.Rows
section
variable {prog : Program} {w : World} {K : Type} [DecidableEq K] {knd : PySem.KeyKind prog w K} {A : Around} {E : Value → Shared → Prop} {s : Shared} {d : Addr} {kvs : List (K × Value)} {ep : Nat} {ss : List Str}
end
end STW
set_option Elab.async false
set_option linter.all false
set_option maxRecDepth 100000
namespace FD
open PySem PySem.Spec PyProof.Rows L2
variable [Tabs]
section
variable {X : Cx}
end
end FD
set_option Elab.async false
set_option linter.all false
set_option maxRecDepth 100000
namespace FD
open PySem PySem.Spec PyProof.Rows L2
variable [Tabs]
def addT (ks : List Str) (k : Str) : List Str := if k ∈ ks then ks else ks ++ [k]
abbrev FG2 := DS → List Str → Option (DS × List Str)
section
variable {X : Cx} {i r : Nat} {x y : Str} {e0 iter : Expr} {fk : FE} {fi : FA} {f : FG2} {q1 sp bp ap tp pos : Pos} {kk : Nat} {body : List Stmt}
end
section
variable {X : Cx} {i r : Nat} {x y sx : Str} {iter : Expr} {f : FG2} {st : Stmt} {yp dp a1 rp p1 pos pp : Pos}
end
end FD
set_option Elab.async false
set_option linter.all false
set_option maxRecDepth 100000
namespace STW
open PySem PyProof.Rows
section
variable {prog : Program} {w : World} {A : Around} {R : Result → Shared → Prop} {I : Addr} {fp wr : List Addr} {G : Array GenState → Array GenState → Prop} {n : Nat} {P : Nat → Value → Prop} {St : Nat → Shared → Prop} {L : Bool}
end
section
variable {prog : Program} {w : World} {A : Around} {E : Value → Shared → Prop} {s : Shared}
end
end STW
set_option Elab.async false
set_option linter.all false
set_option maxRecDepth 100000
namespace STW
open PySem PyProof.Rows
section
variable {prog : Program} {w : World} {A : Around} {E : Value → Shared → Prop} {s : Shared} {a : Addr} {ns : List Str} {n : Nat}
end
end STW
set_option Elab.async false
set_option linter.all false
set_option maxRecDepth 100000
namespace FD
open PySem PySem.Spec PyProof.Rows L2
variable [Tabs]
section
variable {X : Cx} {e : Expr} {pos : Pos} {fs : FA}
end
end FD
set_option Elab.async false
set_option linter.all false
set_option maxRecDepth 100000
namespace STW
open PySem PyProof.Rows
section
variable {prog : Program} {w : World} {K : Type} [DecidableEq K] {knd : KeyKind prog w K} {A : Around} {E : Value → Shared → Prop} {s : Shared} {d : Addr} {kvs : List (K × Value)} {ep : Nat}
end
end STW
set_option Elab.async false
set_option linter.all false
set_option maxRecDepth 100000
namespace FD
open PySem PySem.Spec PyProof.Rows L2
variable [Tabs]
section
variable {X : Cx} {pos apos cpos : Pos} {e o f tg : Expr} {fe fo ff : FE}
end
end FD
set_option Elab.async false
set_option linter.all false
set_option maxRecDepth 100000
namespace FD
open PySem PySem.Spec PyProof.Rows L2
variable [Tabs]
abbrev SI := List (Str × Int)
abbrev FG3 := DS → SI → Option (DS × SI)
section
variable {X : Cx} {i r : Nat} {x y : Str} {e0 e0' ev iter : Expr} {fk fv : FE} {fi : FA} {f : FG3} {q1 q2 sp bp ap tp pos gp gc c0 c1 cp ip : Pos} {k0 k1 : Nat} {body : List Stmt}
end
section
variable {X : Cx} {i : Nat} {y : Str} {f : FG3} {st : Stmt} {yp dp a1 rp p1 : Pos}
end
section
variable {X : Cx} {pos p1 p2 : Pos} {k1 k2 : Nat} {x : Str} {n : Int}
end
end FD
set_option Elab.async false
set_option linter.all false
set_option maxRecDepth 100000
namespace FD
open PySem PySem.Spec PyProof.Rows L2
section
variable {prog : Program} {w : World} {A : Around} {R : Result → Shared → Prop} {E : Value → Shared → Prop} {I S : Addr} {fp wr : List Addr} {n : Nat} {P : Nat → Value → Prop} {St : Nat → Heap → Prop} {kw : List (Str × Value)} {Ph : Heap → Prop}
end
variable [Tabs]
section
variable {X : Cx} {pos pp kp : Pos} {e e2 : Expr} {fe f2 : FE}
end
end FD
set_option Elab.async false
set_option linter.all false
set_option maxRecDepth 100000
namespace FD
open PySem PySem.Spec PyProof.Rows L2
section
open PySem.SeqAt
open PySem.AutoSeq1 (wpAny_loadPart')
open PySem.MeetsSeq PySem.MeetsSeq2 PySem.MeetsSeq3
end
section
variable {prog : Program} {w : World} {A : Around} {E : Value → Shared → Prop} {s : Shared}
end
variable [Tabs]
section
variable {X : Cx}
end
end FD
set_option Elab.async false
set_option linter.all false
set_option maxRecDepth 100000
namespace FD
open PySem PySem.Spec PyProof.Rows L2
variable [Tabs]
section
variable {X : Cx}
end
end FD
set_option Elab.async false
set_option linter.all false
set_option maxRecDepth 100000
namespace FD
open PySem PySem.Spec PyProof.Rows L2
variable [Tabs]
section
variable {X : Cx}
end
end FD
set_option Elab.async false
set_option linter.all false
set_option maxRecDepth 100000
namespace STW
open PySem PyProof.Rows
section
variable {prog : Program} {w : World} {K : Type} [DecidableEq K] {knd : KeyKind prog w K} {A : Around} {R : Result → Shared → Prop} {I d : Addr} {fp wr : List Addr} {n : Nat} {P : Nat → Value → Prop} {St : Nat → Heap → Prop}
end
section
variable {prog : Program} {w : World} {K : Type} [DecidableEq K] {knd : KeyKind prog w K} {A : Around} {E : Value → Shared → Prop} {s : Shared}
end
end STW
set_option Elab.async false
set_option linter.all false
set_option maxRecDepth 100000
namespace FD
open PySem PySem.Spec PyProof.Rows L2
variable [Tabs]
section
variable {X : Cx}
end
section
variable {X : Cx} {e : Expr} {pos : Pos} {fs : FA}
end
end FD
set_option Elab.async false
set_option linter.all false
set_option maxRecDepth 100000
namespace FD
open PySem PySem.Spec PyProof.Rows L2 PySem.W
section
variable {n : Nat} {κ : Nat → List Int}
end
section
variable {prog : Program} {w : World} {A : Around} {E : Value → Shared → Prop} {s : Shared}
end
variable [Tabs]
section
variable {X : Cx} {pins : List (Addr × Obj)} {σ : St} {F H : Hp} {τ : DS} {s : Shared} {Q : VK} {E : Value → Shared → Prop}
end
end FD
set_option Elab.async false
set_option linter.all false
set_option maxRecDepth 100000
namespace FD
open PySem PySem.Spec PyProof.Rows L2
variable [Tabs]
section
variable {P : Program} {w : World} {K : PySem.W.Frag} {mg : Str → Option Value} {base : Heap}
end
section
variable {X : Cx} {pos : Pos} {e a b : Expr} {es rest : List Expr} {fe fb : FE} {fs : FA} {c m x : Str} {i k n : Nat} {ps : List Str} {fo : FOb}
end
end FD
set_option Elab.async false
set_option linter.all false
set_option maxRecDepth 100000
namespace FD
open PySem PySem.Spec PyProof.Rows L2
variable [Tabs]
section
variable {X : Cx} {pins : List (Addr × Obj)} {σ : St} {H : Hp} {s : Shared} {a : Addr} {cls : Value}
end
end FD
set_option Elab.async false
set_option linter.all false
set_option maxRecDepth 100000
namespace FD
open PySem PySem.Spec PyProof.Rows L2
variable [Tabs]
section
variable {X : Cx}
def QE (X : Cx) (e : Expr) (t : TE) : Prop := ∀ (pins : List (Addr × Obj)) (s : Shared) (σ : St) (H : Hp) (Q : VK), 0 < s.toks → Inv X pins σ H s → t σ H Q → wpAny (model X.prog X.w) X.A (eval e X.env) (EP X pins σ Q) X.xe s
def QT (X : Cx) (e : Expr) (t : TT) : Prop := ∀ (pins : List (Addr × Obj)) (s : Shared) (σ : St) (H : Hp) (Q : Bool → Hp → Prop), 0 < s.toks → Inv X pins σ H s → t σ H Q → wpAny (model X.prog X.w) X.A (isTrue e X.env (eval e X.env)) (TP X pins σ Q) X.xe s
def QW (X : Cx) (e : Expr) (t : TT) : Prop := ∀ (whole : Sem Value) (pins : List (Addr × Obj)) (s : Shared) (σ : St) (H : Hp) (Q : Bool → Hp → Prop), 0 < s.toks → Inv X pins σ H s → t σ H Q → wpAny (model X.prog X.w) X.A (isTrue e X.env whole) (TP X pins σ Q) X.xe s
def QS (X : Cx) (st : Stmt) (t : TS) : Prop := ∀ (pins : List (Addr × Obj)) (s : Shared) (σ : St) (H : Hp) (D : Ends), 0 < s.toks → Inv X pins σ H s → t D σ H → wpAny (model X.prog X.w) X.A (exec st X.env) (SP X pins D) X.xe s
def QSs (X : Cx) (st : List Stmt) (t : TS) : Prop := ∀ (pins : List (Addr × Obj)) (s : Shared) (σ : St) (H : Hp) (D : Ends), 0 < s.toks → Inv X pins σ H s → t D σ H → wpAny (model X.prog X.w) X.A (execs st X.env) (SP X pins D) X.xe s
theorem keepTok {α : Type} {M : Model} {A : Around} {t : Sem α} {Q : α → Shared → Prop} {E : Value → Shared → Prop} {s : Shared} (h0 : 0 < s.toks) (h : wpAny M A t (fun a s' => 0 < s'.toks → Q a s') E s) : wpAny M A t Q E s :=
  wpAny_with_toks (n := 1) h0 (wpAny_mono h (fun _ _ q z => q z) fun _ _ q _ => q)
variable {e a b o : Expr} {rest : List Expr} {pos apos cpos : Pos} {t u : TS} {te ta tb : TE} {tA tB' : TT}
theorem PE.q (h : PE X e te) : QE X e te := fun pins s σ H Q _ I q => h pins s σ H Q I q
theorem qs_of {st : Stmt} (h : PS X st t) : QS X st t := fun pins s σ H D _ I q => h pins s σ H D I q
theorem qss_of {st : List Stmt} (h : PSs X st t) : QSs X st t := fun pins s σ H D _ I q => h pins s σ H D I q
theorem qss_cons {st : Stmt} {rest : List Stmt} (h1 : QS X st t) (h2 : QSs X rest u) : QSs X (st :: rest) (tSeq t u) := by
  intro pins s σ H D h0 I h
  refine wpAny_execs_cons (keepTok h0 (thn (h1 pins s σ H { D with nx := u D } h0 I h) fun f s1 q z => ?_))
  cases f with
  | next =>
    obtain ⟨σ', H', I', q⟩ := q
    exact h2 pins s1 σ' H' D z I' q
  | ret v => exact q
  | brk => exact q
  | cont => exact q
theorem qs_if {c : Expr} {sa sb : List Stmt} {tc : TT} (hc : QT X c tc) (ha : PSs X sa t) (hb : PSs X sb u) : QS X (.If c sa sb pos) (tIfS tc t u) := by
  intro pins s σ H D h0 I h
  refine wpAny_If (thn (hc pins s σ H _ h0 I h) fun d s1 ⟨H1, I1, q1⟩ => ?_)
  cases d with
  | true => exact ha pins s1 σ H1 D I1 q1
  | false => exact hb pins s1 σ H1 D I1 q1
theorem qw_or1 (ha : QT X a tA) : QW X (.BoolOp .Or [a] pos) tA := by
  intro wh pins s σ H Q h0 I h
  refine isTrue_or (thn (ha pins s σ H Q h0 I h) fun c s1 e => ?_)
  cases c with
  | false => exact isTrue_or_nil e
  | true => exact e
theorem qw_or (ha : PT X a tA) (hb : QW X (.BoolOp .Or (b :: rest) pos) tB') : QW X (.BoolOp .Or (a :: b :: rest) pos) (tOr tA tB') := by
  intro wh pins s σ H Q h0 I h
  refine isTrue_or (keepTok h0 (thn (ha pins s σ H _ I h) fun c s1 ⟨H1, I1, q1⟩ z => ?_))
  cases c with
  | true => exact ⟨H1, I1, q1⟩
  | false => exact hb wh pins s1 σ H1 Q z I1 q1
theorem qt_cmpR {op : CmpOp} {r : R2} (ho : OpR X (compareOp op) r) (ha : QE X a ta) (hb : PE X b tb) (hm : behindInMarks op b = false) : QT X (.Compare a [op] [b] pos) (tTest (tOp r ta tb)) := by
  intro pins s σ H Q h0 I h
  refine wpAny_isTrue_Compare1 (thn (ha pins s σ H _ h0 I h) fun v s1 ⟨x, H1, I1, r1, q1⟩ => thn (hb pins s1 σ H1 _ I1 q1) fun u s2 ⟨y, H2, I2, r2, q2⟩ =>
    thn (ho pins s2 σ H2 x y v u _ I2 r1 r2 q2) fun c s3 ⟨z, H3, I3, r3, k, e, q3⟩ => ?_) hm
  subst e
  cases r3
  exact wpAny_truthy_bool ⟨H3, I3, q3⟩
def tRepl (y z : Str) (to : TE) : TE := fun σ H Q => to σ H fun v H1 => ∃ x : Str, v = .str x ∧ x.length ≤ 1048576 ∧ Q (.str (Txt.replace x y z)) H1
theorem q_repl {y z : Str} {k1 k2 : Nat} {p1 p2 : Pos} (hyz : (y == z) = false) (hz : z.length ≤ 14) (ho : QE X o te) (m : M2 X o "replace" apos (.Constant (.str y) k1 p1) (.Constant (.str z) k2 p2) cpos) :
    QE X (.Call (.Attribute o "replace" apos) [.Constant (.str y) k1 p1, .Constant (.str z) k2 p2] [] cpos) (tRepl y z te) := by
  intro pins s σ H Q h0 I h
  refine wpAny_Call_method m.base m.few m.line PySem.F.plainAttrs_str PySem.F.slot_str_replace PySem.F.type_str_replace (keepTok h0 (thn (ho pins s σ H _ h0 I h) fun v s1 ⟨x, H1, I1, rx, x', ex, hl, q1⟩ t0 => ?_))
  subst ex
  obtain ⟨tk, rfl⟩ : ∃ tk, v = Value.str x' tk := rx
  refine ⟨rfl, (fun a z => nomatch z), ?_⟩
  rw [m.trees]
  refine Calls.callWith_builtin rfl (Calls.evalArgs_plain (Calls.spliced_cons (Calls.Constant_str (Calls.spliced_cons (Calls.Constant_str (Calls.spliced_nil ?_))))))
  exact PySem.SC.replaceW (Nat.ne_of_gt t0) (Nat.succ_ne_zero _) (Nat.ne_of_lt (Nat.lt_succ_self _)) hyz hl hz fun t' k => ⟨.str _, H1, I1.tok k, ⟨_, rfl⟩, q1⟩
end
end FD
set_option Elab.async false
set_option linter.all false
set_option maxRecDepth 100000
namespace FD
open PySem PySem.Spec PyProof.Rows L2
variable [Tabs]
section
variable {X : Cx} {e a b o c : Expr} {es rest : List Expr} {pos apos cpos : Pos} {fe fa fb : FE} {ga gb : FT} {f g : FS} {st : Stmt} {sts : List Stmt}
def QDE (X : Cx) (e : Expr) (f : FE) : Prop := QE X e (tE X f)
def QDT (X : Cx) (e : Expr) (f : FT) : Prop := QT X e (tTs X f)
def QDW (X : Cx) (e : Expr) (f : FT) : Prop := QW X e (tTs X f)
def QDS (X : Cx) (st : Stmt) (f : FS) : Prop := QS X st (tS X f)
def QDSs (X : Cx) (st : List Stmt) (f : FS) : Prop := QSs X st (tS X f)
theorem qde_of (h : PDE X e fe) : QDE X e fe := PE.q h
theorem qds_of (h : PDS X st f) : QDS X st f := qs_of h
theorem qdss_of (h : PDSs X sts f) : QDSs X sts f := qss_of h
def eRepl (y z : Str) (fe : FE) : FE := fun τ => (fe τ).bind fun d => match d with
  | .str x => if x.length ≤ 1000 then .ok (.str (Txt.replace x y z)) else .no
  | _ => .no
theorem qde_repl {y z : Str} {k1 k2 : Nat} {p1 p2 : Pos} (hyz : (y == z) = false) (hz : z.length ≤ 14) (ho : QDE X o fe) (m : M2 X o "replace" apos (.Constant (.str y) k1 p1) (.Constant (.str z) k2 p2) cpos) :
    QDE X (.Call (.Attribute o "replace" apos) [.Constant (.str y) k1 p1, .Constant (.str z) k2 p2] [] cpos) (eRepl y z fe) := fun pins s σ H Q h0 I ⟨F, τ, R, h⟩ =>
  q_repl hyz hz ho m pins s σ H Q h0 I (tE.of R h.bind fun d v F1 H1 g x R1 r => by
    cases d with
    | str x' =>
      simp only [Rep] at r; subst r
      obtain ⟨z1, g⟩ := ok_ite g
      exact ⟨x', rfl, Nat.le_trans z1 (by decide), g _ F1 H1 x (by simp only [Rep])⟩
    | _ => exact g.elim)
theorem qdt_cmp {o : CmpOp} {op : D → D → Rs D} (ho : OpD X (compareOp o) op) (ha : QDE X a fa) (hb : PDE X b fb) (hm : behindInMarks o b = false) : QDT X (.Compare a [o] [b] pos) (tB (eOp op fa fb)) := by
  obtain ⟨r, h1, h2⟩ := ho
  exact fun pins s σ H Q h0 I h => qt_cmpR h1 ha hb hm pins s σ H Q h0 I (test_of (op_of h2) σ H Q h)
theorem qdw_or1 (ha : QDT X a ga) : QDW X (.BoolOp .Or [a] pos) ga := qw_or1 ha
theorem qdw_or (ha : PDT X a ga) (hb : QDW X (.BoolOp .Or (b :: rest) pos) gb) : QDW X (.BoolOp .Or (a :: b :: rest) pos) (tOrD ga gb) := fun wh pins s σ H Q h0 I ⟨F, τ, R, h⟩ =>
  qw_or ha hb wh pins s σ H Q h0 I (tTs.of R h.bind fun k F1 H1 g x R1 => by
    cases k with
    | false => rw [if_neg (by simp)]; rw [if_neg (by simp)] at g; exact ⟨F1, τ, R1, g.imp fun d e => e.ext x⟩
    | true => rw [if_pos rfl]; rw [if_pos rfl] at g; exact g F1 H1 x)
theorem qdt_w (h : QDW X e ga) : QDT X e ga := h _
theorem qds_if {sa sb : List Stmt} (hc : QDT X c ga) (ha : PDSs X sa f) (hb : PDSs X sb g) : QDS X (.If c sa sb pos) (sIf ga f g) := fun pins s σ H E h0 I ⟨B, Z, F, τ, R, h⟩ =>
  qs_if hc ha hb pins s σ H E h0 I (tTs.of R.rv h.of fun k F1 H1 q x _ => by
    cases k with
    | true => rw [if_pos rfl] at q ⊢; exact ⟨B, Z, F1, τ, R.ext x, q.same x.ff⟩
    | false => rw [if_neg (by simp)] at q ⊢; exact ⟨B, Z, F1, τ, R.ext x, q.same x.ff⟩)
theorem seq_of {E : Ends} {σ : St} {H : Hp} (h : tS X (sSeq f g) E σ H) : tSeq (tS X f) (tS X g) E σ H := by
  obtain ⟨B, Z, F, τ, R, h⟩ := h
  refine ⟨B, Z, F, τ, R, ?_⟩
  unfold sSeq at h
  cases q : f τ with
  | nx τ' => rw [q] at h; exact fun σ' F' H' ff R' => ⟨B, Z, F', τ', R', Post.same h ff⟩
  | rt d => rw [q] at h; exact h
  | bk d => rw [q] at h; exact h
  | ct d => rw [q] at h; exact h
  | ex d => rw [q] at h; exact h
  | no => rw [q] at h; exact h
  | rs c d => rw [q] at h; exact h
  | ro c d => rw [q] at h; exact h
  | rb c d => rw [q] at h; exact h
theorem qdss_cons (h1 : QDS X st f) (h2 : QDSs X sts g) : QDSs X (st :: sts) (sSeq f g) := fun pins s σ H E h0 I h => qss_cons h1 h2 pins s σ H E h0 I (seq_of h)
theorem pos_and {α : Type} {M : Model} {A : Around} {t : Sem α} {Q : α → Shared → Prop} {E : Value → Shared → Prop} {s : Shared} (h0 : 0 < s.toks) (h : wpAny M A t Q E s) : wpAny M A t (fun a s' => 0 < s'.toks ∧ Q a s') E s :=
  wpAny_mono (wpAny_toks_of (n := 1) h0 h) (fun _ _ q => q) fun _ _ q => q.2
theorem pdss_pos {i k : Nat} {x y : Str} {ps : List Str} {p p' pc : Pos} {kc : Nat} {j : Int} {m : List D → Rs D} (hN : X.N.Nodup) (hi : X.N[i]? = some x) (hx : Loc X.env.scope x) (D : DefOk X.prog X.w X.K X.mg X.base y k 2 ps m) (hr : Room k X.A) (hv : PDE X a fa) (h2 : QDSs X sts g)
    (hs : swapsWith (.Call (.Name y p) [a, .Constant (.int j) kc pc] [] cpos) (some (.Name x p')) pos.line X.env = pure false := by rfl) (hf : X.fn x = true ∨ X.env.scope.names.lookup x = some .local := by first | exact .inl rfl | exact .inr rfl | assumption)
    (hg : Gl X y := by rfl) (hdb : (y == ("__debug__" : Str)) = false := by decide)
    (he : starEach [a, .Constant (.int j) kc pc] X.env = (false, eval a X.env) :: starEach [.Constant (.int j) kc pc] X.env := by rfl) (he2 : starEach [.Constant (.int j) kc pc] X.env = [(false, eval (.Constant (.int j) kc pc) X.env)] := by rfl)
    (hpl : (backTo cpos (starEach [.Constant (.int j) kc pc] X.env)).any (·.1) = false := by rfl) :
    PDSs X (.Assign [.Name x p'] (.Call (.Name y p) [a, .Constant (.int j) kc pc] [] cpos) pos :: sts) (sSeq (sSet i (eCall m (aCons fa (aCons (eC (.int j)) aNil)))) g) := by
  obtain ⟨f0, fd, F, hb, hk, hm⟩ := D
  intro pins s σ H E I h
  obtain ⟨B, Z, Fz, τ, R, h⟩ := seq_of h
  refine wpAny_execs_cons (thn (Q := fun f s' => 0 < s'.toks ∧ SP X pins { E with nx := tS X g E } f s') ?_ fun f s1 ⟨z, q⟩ => ?_)
  rotate_left
  · cases f with
    | next =>
      obtain ⟨σ', H', I', q⟩ := q
      exact h2 pins s1 σ' H' E z I' q
    | ret v => exact q
    | brk => exact q
    | cont => exact q
  refine wpAny_Assign_Name ?_ hs
  refine wpAny_Call_Name_kw (ld_glob I hg hm ?_ hdb)
  have h := Post.of h
  unfold eCall at h
  have h := h.bind
  cases q : fa τ with
  | no => unfold aCons at h; rw [q] at h; exact h.elim
  | ex c =>
    unfold aCons at h; rw [q] at h
    refine PySem.W.callWith_K (h₀ := X.base) I.ok.mod.kin hk ?_ he hpl
    rw [he]
    show wpAny _ _ (spliced ((false, eval a X.env) :: backTo cpos (starEach [.Constant (.int j) kc pc] X.env))) _ _ s
    exact Calls.spliced_cons (thn (hv pins s σ H (fun _ _ => False) I ⟨Fz, τ, R.rv, by rw [q]; exact h⟩) fun u s1 ⟨v, H1, I1, r1, z⟩ => z.elim)
  | ok d =>
    have h : Ok X (noEx (m [d, .int j])) (fun d => Post X B Z Fz { E with nx := tS X g E } (.nx (τ.set i (some (.val d))))) := by
      unfold aCons at h; rw [q] at h; exact h
    refine PySem.W.callWith_K (h₀ := X.base) I.ok.mod.kin hk ?_ he hpl
    rw [he]
    show wpAny _ _ (spliced ((false, eval a X.env) :: backTo cpos (starEach [.Constant (.int j) kc pc] X.env))) _ _ s
    rw [he2]
    show wpAny _ _ (spliced ((false, eval a X.env) :: [(false, eval (.Constant (.int j) kc pc) X.env)])) _ _ s
    refine Calls.spliced_cons (thn (hv pins s σ H (fun v H1 => ∃ F1, Ext Fz H F1 H1 ∧ Rep X.K F1 d v) I ⟨Fz, τ, R.rv, by rw [q]; exact fun v F1 H1 x r => ⟨F1, x, r⟩⟩) fun u s1 ⟨v, H1, I1, r1, F1, x1, rp⟩ => ?_)
    refine Calls.spliced_cons (wpAny_Constant_int (Calls.spliced_nil ⟨I1.kIn, ?_⟩))
    cases z : m [d, .int j] with
    | no => rw [z] at h; exact h.elim
    | ex c => rw [z] at h; exact h.elim
    | ok r =>
      rw [z] at h
      have sp : spD X.K 2 m [v, .int j] H1 (fun v' H2 => tS X g E (σ.set i (some v')) H2) E0 := by
        refine ⟨rfl, [d, .int j], F1, x1.fh, x1.tt R.rv.tt, Reps.cons rp (Reps.cons (by simp only [Rep]) Reps.nil), ?_⟩
        rw [z]
        intro v' F2 H2 x2 r2
        have R2 := (R.ext x1).ext x2
        exact h _ F2 H2 (x1.ff.trans x2.ff) (R2.set r2)
      refine keepTok (Nat.succ_pos _) (thn (run_fn F hr hb .nil (E := E0) pass0 (I1.tok _) (vs := [v, .int j]) (.cons r1 (.cons (show RelV (.int j) (Value.int j s1.toks) from ⟨_, rfl⟩) .nil)) sp) fun w s3 ⟨y', H3, I3, r3, q3⟩ z3 => ?_)
      exact pos_and z3 (store_ok I3 hN hi hx r3 (fun s4 I4 => ⟨_, H3, I4, q3⟩) hf)
end
end FD
set_option Elab.async false
set_option linter.all false
namespace FD
open PySem PySem.Spec PyProof.Rows L2
section
variable {τ : DS} {fa fb fc fe fi : FE} {fs : FA} {op : D → D → Rs D} {d x y : D} {i j k : Int} {n m : Nat}
def getV : Option (Option Sl) → Rs D
  | some (some (.val d)) => .ok d
  | _ => .no
def getO : Option (Option Sl) → Rs (List D)
  | some (some (.own d)) => .ok d
  | _ => .no
@[simp] theorem getV_val : getV (some (some (.val d))) = .ok d := rfl
@[simp] theorem getO_own {ds : List D} : getO (some (some (.own ds))) = .ok ds := rfl
theorem eVar_ap : eVar n τ = getV τ[n]? := rfl
theorem ownAt_ap : ownAt τ n = getO τ[n]? := rfl
theorem eC_ap : eC d τ = .ok d := rfl
theorem eOp_ap : eOp op fa fb τ = (fa τ).bind fun x => (fb τ).bind fun y => op x y := rfl
theorem aNil_ap : aNil τ = .ok [] := rfl
theorem aCons_ap : aCons fa fs τ = (fa τ).bind fun x => (fs τ).bind fun r => .ok (x :: r) := rfl
theorem eLst_ap : eLst fs τ = (fs τ).bind fun ds => if ds.length ≤ sizeLine then .ok (.lst ds) else .no := rfl
theorem eTup_ap : eTup fs τ = (fs τ).bind fun ds => if ds.length ≤ sizeLine then .ok (.tup ds) else .no := rfl
theorem eCall_ap {g : List D → Rs D} : eCall g fs τ = (fs τ).bind fun ds => noEx (g ds) := rfl
theorem eBlt_ap {g : List D → Rs D} : eBlt g fs τ = (fs τ).bind g := rfl
theorem eAnd_ap : eAnd fa fb τ = (fa τ).bind fun x => (truD x).bind fun b => if b = true then fb τ else .ok x := rfl
theorem eOr_ap : eOr fa fb τ = (fa τ).bind fun x => (truD x).bind fun b => if b = true then .ok x else fb τ := rfl
theorem eNot_ap : eNot fa τ = (fa τ).bind fun x => (truD x).bind fun b => .ok (.bl (!b)) := rfl
def boolOf : D → Rs Bool
  | .bl b => .ok b
  | _ => .no
@[simp] theorem boolOf_bl {b : Bool} : boolOf (.bl b) = .ok b := rfl
theorem tB_ap : FD.tB fe τ = (fe τ).bind boolOf := rfl
theorem tTru_ap : tTru fe τ = (fe τ).bind truD := rfl
theorem tAnd_ap {f g : FT} : tAndD f g τ = (f τ).bind fun b => if b = true then g τ else .ok false := rfl
theorem tOr_ap {f g : FT} : tOrD f g τ = (f τ).bind fun b => if b = true then .ok true else g τ := rfl
theorem tNot_ap {f : FT} : tNotD f τ = (f τ).bind fun b => .ok (!b) := rfl
theorem eSl_ap {fl fh : FO} : eSl fe fl fh τ = (fe τ).bind fun d => (fl τ).bind fun l => (fh τ).bind fun u => slD d l u := rfl
def someInt : D → Rs (Option Int)
  | .int i => .ok (some i)
  | _ => .no
theorem oSome_ap : oSome fe τ = (fe τ).bind someInt := rfl
def Fl.thn (r : Fl) (g : FS) : Fl := match r with
  | .nx τ => g τ
  | r => r
@[simp] theorem thn_nx {g : FS} : (Fl.nx τ).thn g = g τ := rfl
@[simp] theorem thn_rt {g : FS} : (Fl.rt d).thn g = .rt d := rfl
theorem sSeq_ap {f g : FS} : sSeq f g τ = (f τ).thn g := rfl
theorem sSet_ap : sSet n fe τ = Fl.of (fe τ) fun d => .nx (τ.set n (some (.val d))) := rfl
theorem sSetO_ap : sSetO n fs τ = Fl.of (fs τ) fun ds => .nx (τ.set n (some (.own ds))) := rfl
theorem sIf_ap {g : FT} {f h : FS} : sIf g f h τ = Fl.of (g τ) fun b => if b = true then f τ else h τ := rfl
theorem sRet_ap : sRet fe τ = Fl.of (fe τ) fun d => .rt d := rfl
theorem sRetO_ap : sRetO n τ = Fl.of (ownAt τ n) fun ds => .rt (.lst ds) := rfl
theorem sNext_ap : sNext τ = .nx τ := rfl
theorem sFor_ap {set : FG} {body : FS} : sFor fs set body τ = Fl.of (fs τ) fun ds => loopD set body ds τ := rfl
@[simp] theorem flRes_rt : flRes (.rt d) = .ok d := rfl
@[simp] theorem noEx_ok : noEx (.ok d) = .ok d := rfl
@[simp] theorem addD_i : addD (.int i) (.int j) = .ok (.int (i + j)) := rfl
theorem addD_s {a b : Str} (h : a.length + b.length ≤ sizeLine) : addD (.str a) (.str b) = .ok (.str (a ++ b)) := if_pos h
@[simp] theorem subD_i : subD (.int i) (.int j) = .ok (.int (i - j)) := rfl
theorem mulD_i (h : (-(18446744073709551616) < i ∧ i < 18446744073709551616) ∨ (-(18446744073709551616) < j ∧ j < 18446744073709551616)) : mulD (.int i) (.int j) = .ok (.int (i * j)) := if_pos h
theorem modD_i (h : 0 < j) : modD (.int i) (.int j) = .ok (.int (i % j)) := by
  show (if decide (0 < j) = true then _ else _) = _
  rw [if_pos (by simpa using h)]
theorem fdivD_i (h : 0 < j ∧ j < 1073741824) : fdivD (.int i) (.int j) = .ok (.int (i / j)) := by
  show (if decide (0 < j ∧ j < 1073741824) = true then _ else _) = _
  rw [if_pos (by simpa using h)]
@[simp] theorem ltI_i : ltI (.int i) (.int j) = .ok (.bl (decide (i < j))) := rfl
@[simp] theorem gtD_i : gtD (.int i) (.int j) = .ok (.bl (decide (j < i))) := rfl
@[simp] theorem geD_i : geD (.int i) (.int j) = .ok (.bl (decide (j ≤ i))) := rfl
@[simp] theorem eqD_i : eqD (.int i) (.int j) = .ok (.bl (i == j)) := rfl
@[simp] theorem eqD_s {a b : Str} : eqD (.str a) (.str b) = .ok (.bl (a == b)) := rfl
@[simp] theorem neD_s {a b : Str} : neD (.str a) (.str b) = .ok (.bl (!(a == b))) := rfl
@[simp] theorem inD_s {a b : Str} : inD (.str a) (.str b) = .ok (.bl (strIn a b)) := rfl
theorem strIn_one (c : Nat) (x : Str) : strIn ⟨#[c]⟩ x = decide (c ∈ x.cps.toList) := StrLaws.found_one x c
@[simp] theorem lenD_scr {ns : List Int} : lenD [.scr ns] = .ok (.int ns.length) := rfl
theorem lenD_str {a : Str} (h : a.length ≤ sizeLine) : lenD [.str a] = .ok (.int a.length) := if_pos h
theorem ixD_scr {ns : List Int} {a : Int} (h : atI ns k = some a) : ixD (.scr ns) (.int k) = .ok (.int a) := by
  show (match atI ns k with | some d => Rs.ok (D.int d) | none => .no) = _
  rw [h]
theorem ixD_lst {ds : List D} {a : D} (h : atI ds k = some a) : ixD (.lst ds) (.int k) = .ok a := by
  show (match atI ds k with | some d => Rs.ok d | none => .no) = _
  rw [h]
theorem ixD_str {a : Str} {c : Nat} (h : atI a.cps.toList k = some c) (hz : a.length ≤ sizeLine) : ixD (.str a) (.int k) = .ok (signD c) := by
  show (match atI a.cps.toList k with | some c => if a.length ≤ sizeLine then Rs.ok (D.str ⟨#[c]⟩) else .no | none => .no) = _
  rw [h]
  exact if_pos hz
theorem atI_of {α : Type} {xs : List α} {a : α} (h0 : 0 ≤ k) (h : xs[k.toNat]? = some a) : atI xs k = some a := by
  have := atI_nat (j := k.toNat) h
  rwa [Int.toNat_of_nonneg h0] at this
@[simp] theorem truD_bl {b : Bool} : truD (.bl b) = .ok b := rfl
theorem runF_ap {b : FS} {ds : List D} : runF n b ds = flRes (b (startD n ds)) := rfl
end
theorem eqvAll_nil (l : List PyData) : PyData.eqvAll l [] = l.isEmpty := by cases l <;> simp [PyData.eqvAll]
theorem okD_scr (ns : List Int) : okD (.scr ns) = true := by
  have c : ∀ l : List Int, PyData.canLayAll0 (l.map PyData.int) = true := fun l => by
    induction l with
    | nil => rfl
    | cons a r ih => simp [PyData.canLayAll0, PyData.canLay0, ih]
  have d : ∀ l : List Int, PyData.depthAll (l.map PyData.int) = 0 := fun l => by
    induction l with
    | nil => rfl
    | cons a r ih => simp [PyData.depthAll, PyData.depth, ih]
  simp [okD, plainD, toPy, PyData.canLay0, PyData.depth, c, d]
theorem eqD_scr_nil (ns : List Int) : eqD (.scr ns) (.lst []) = .ok (.bl ns.isEmpty) := by
  have o2 : okD (.lst []) = true := by decide
  have : eqvD (.scr ns) (.lst []) = ns.isEmpty := by
    simp only [eqvD, toPy, toPys, PyData.eqv, eqvAll_nil]
    cases ns <;> rfl
  simp only [eqD, okD_scr, o2, this, and_self, if_true]
end FD
set_option Elab.async false
set_option linter.all false
set_option maxRecDepth 100000
namespace Law
open PySem PySem.Spec PyProof.Rows L2 FD
instance tabs : FD.Tabs := ⟨[], fun c f => false⟩
def b__law_cell : FS := (sSeq (sIf (tB (eOp eqD (eVar 0) (eLst aNil))) (sRet (eOp mulD (eC (.int 7)) (eVar 1))) sNext)
      (sRet (eOp addD (eOp ixD (eVar 0) (eOp modD (eVar 1) (eBlt lenD (aCons (eVar 0) aNil)))) (eOp mulD (eC (.int 6553)) (eOp fdivD (eVar 1) (eBlt lenD (aCons (eVar 0) aNil)))))))
def m__law_cell (ds : List D) : Rs D := runF 2 b__law_cell ds
def b__law_drawn : FS := (sSeq (sSet 3 (eOp modD (eOp addD (eOp mulD (eOp modD (eCall m__law_cell (aCons (eVar 0) (aCons (eVar 1) aNil))) (eC (.int 2147483563))) (eC (.int 69069))) (eOp mulD (eC (.int 104723)) (eOp addD (eVar 1) (eC (.int 1))))) (eC (.int 2147483563))))
      (sSeq (sSet 3 (eOp modD (eOp addD (eOp mulD (eVar 3) (eVar 3)) (eOp fdivD (eVar 3) (eC (.int 3)))) (eC (.int 2147483399))))
      (sRet (eOp modD (eOp fdivD (eOp modD (eOp addD (eOp mulD (eVar 3) (eVar 3)) (eOp fdivD (eVar 3) (eC (.int 7)))) (eC (.int 2147483647))) (eC (.int 11))) (eVar 2)))))
def m__law_drawn (ds : List D) : Rs D := runF 4 b__law_drawn ds
def b__law_name : FS := (sSeq (sSet 2 (eC (.str "")))
      (sSeq (sFor (iRg1 (aCons (eOp addD (eC (.int 1)) (eCall m__law_drawn (aCons (eVar 0) (aCons (eVar 1) (aCons (eC (.int 10)) aNil))))) aNil)) (gNm 3) (sSet 2 (eOp addD (eVar 2) (eOp ixD (eC (.str "abcabABCab1_-./xyz")) (eCall m__law_drawn (aCons (eVar 0) (aCons (eOp addD (eOp addD (eVar 1) (eC (.int 1))) (eVar 3)) (aCons (eC (.int 18)) aNil))))))))
      (sRet (eVar 2))))
def m__law_name (ds : List D) : Rs D := runF 4 b__law_name ds
def b_is_whole : FS := (sRet (eAnd (eBlt isiD (aCons (eVar 0) (aCons (eC (.raw (.ty "int"))) aNil))) (eNot (eBlt isiD (aCons (eVar 0) (aCons (eC (.raw (.ty "bool"))) aNil))))))
def m_is_whole (ds : List D) : Rs D := runF 1 b_is_whole ds
def b_are_rising_places : FS := (sSeq (sSet 2 (eC (.int 0)))
      (sSeq (sFor (iAny (eVar 1)) (gNm 3) (sSeq (sIf (tNotD (tTru (eCall m_is_whole (aCons (eVar 3) aNil)))) (sRet (eC (.bl false))) sNext)
      (sSeq (sIf (tOrD (tB (eOp ltI (eVar 3) (eVar 2))) (tB (eOp geD (eVar 3) (eBlt lenD (aCons (eVar 0) aNil))))) (sRet (eC (.bl false))) sNext)
      (sSet 2 (eOp addD (eVar 3) (eC (.int 1)))))))
      (sRet (eC (.bl true)))))
def m_are_rising_places (ds : List D) : Rs D := runF 4 b_are_rising_places ds
def b_runs : FS := (sSeq (sIf (tNotD (tTru (eCall m_are_rising_places (aCons (eVar 0) (aCons (eVar 1) aNil))))) sNo sNext)
      (sSeq (sSetO 2 (fun τ => (aNil τ).bind fun ds => if ds.length ≤ sizeLine then .ok ds else .no))
      (sSeq (sFor (iAny (eVar 1)) (gNm 3) (sIf (tAndD (tB (eOp gtD (eLenO 2) (eC (.int 0)))) (tB (eOp eqD (eVar 3) (eOp addD (eOp ixD (eIxO 2 (eNeg (eC (.int 1)))) (eC (.int 0))) (eOp ixD (eIxO 2 (eNeg (eC (.int 1)))) (eC (.int 1))))))) (sPut 2 (eNeg (eC (.int 1))) (eTup (aCons (eOp ixD (eIxO 2 (eNeg (eC (.int 1)))) (eC (.int 0))) (aCons (eOp addD (eOp ixD (eIxO 2 (eNeg (eC (.int 1)))) (eC (.int 1))) (eC (.int 1))) aNil)))) (sApp 2 (eTup (aCons (eVar 3) (aCons (eC (.int 1)) aNil))))))
      (sRetO 2))))
def m_runs (ds : List D) : Rs D := runF 4 b_runs ds
def b_shown : FS := (sSeq (sSet 2 (eC (.str "")))
      (sSeq (sSet 3 (eC (.int 0)))
      (sSeq (sFor (iAny (eCall m_runs (aCons (eVar 0) (aCons (eVar 1) aNil)))) (gPr 4 5) (sSeq (sAug 2 strOp0 (eOp addD (eOp addD (eOp addD (eSl (eVar 0) (oSome (eVar 3)) (oSome (eVar 4))) (eC (.str "["))) (eSl (eVar 0) (oSome (eVar 4)) (oSome (eOp addD (eVar 4) (eVar 5))))) (eC (.str "]"))))
      (sSet 3 (eOp addD (eVar 4) (eVar 5)))))
      (sRet (eOp addD (eVar 2) (eSl (eVar 0) (oSome (eVar 3)) oNone))))))
def m_shown (ds : List D) : Rs D := runF 6 b_shown ds
def b_is_query_sign : FS := (sRet (eOr (eOp inD (eVar 0) (eC (.str "abcdefghijklmnopqrstuvwxyz"))) (eOr (eOp inD (eVar 0) (eC (.str "ABCDEFGHIJKLMNOPQRSTUVWXYZ"))) (eOp inD (eVar 0) (eC (.str "0123456789"))))))
def m_is_query_sign (ds : List D) : Rs D := runF 1 b_is_query_sign ds
def b_is_name_sign : FS := (sRet (eOr (eCall m_is_query_sign (aCons (eVar 0) aNil)) (eOp inD (eVar 0) (eC (.str "_-./")))))
def m_is_name_sign (ds : List D) : Rs D := runF 1 b_is_name_sign ds
def b_is_name : FS := (sSeq (sIf (tNotD (tTru (eBlt isiD (aCons (eVar 0) (aCons (eC (.raw (.ty "str"))) aNil))))) (sRet (eC (.bl false))) sNext)
      (sSeq (sIf (tOrD (tB (eOp ltI (eBlt lenD (aCons (eVar 0) aNil)) (eC (.int 1)))) (tB (eOp gtD (eBlt lenD (aCons (eVar 0) aNil)) (eC (.int 24))))) (sRet (eC (.bl false))) sNext)
      (sRet (eBlt allD (aCons (fun τ => ((eComp 1 [] (iAny (eVar 0)) (gNm 0) (fun _ => .ok true) (eCall m_is_name_sign (aCons (eVar 0) aNil))) τ).bind fun ds => .ok (.lst ds)) aNil)))))
def m_is_name (ds : List D) : Rs D := runF 1 b_is_name ds
def b_read_shown : FS := (sSeq (sQuiet (sSet 1 (eC (.str ""))))
      (sSeq (sQuiet (sSetO 2 (fun τ => (aNil τ).bind fun ds => if ds.length ≤ sizeLine then .ok ds else .no)))
      (sSeq (sQuiet (sSet 3 (eC (.bl false))))
      (sSeq (sQuiet (sFor (iAny (eVar 0)) (gNm 4) (sIf (tOrD (tB (eOp eqD (eVar 4) (eC (.str "[")))) (tB (eOp eqD (eVar 4) (eC (.str "]"))))) (sSet 3 (eOp eqD (eVar 4) (eC (.str "[")))) (sSeq (sIf (tTru (eVar 3)) (sApp 2 (eBlt lenD (aCons (eVar 1) aNil))) sNext)
      (sAug 1 strOp0 (eVar 4))))))
      (sSeq (sIf (tOrD (tNotD (tTru (eCall m_is_name (aCons (eVar 1) aNil)))) (tB (eOp neD (eFz (eCall m_shown (aCons (eVar 1) (aCons (eVar 2) aNil)))) (eVar 0)))) (sRaise "NoText") sNext)
      (sQuiet (fun τ => sRet (eTup (aCons (eVar 1) (aCons (eVar 2) aNil))) (frzT τ))))))))
def m_read_shown (ds : List D) : Rs D := runF 5 b_read_shown ds
def b__law_told : FS := (sSeq (sTryAs (sRetX m_read_shown (aCons (eVar 0) aNil)) (fun c => c == "NoText") 1 (sSeq (sSet 2 (eLst (aCons (eIsX [("NoText", true)] (eVar 1)) (aCons (eIsX [("NoText", false)] (eVar 1)) (aCons (eIsX [("NoText", false)] (eVar 1)) aNil)))))
      (sIf (tAndD (tTru (eIsX [("NoText", true)] (eVar 1))) (tB (eOp eqD (eVar 2) (eLst (aCons (eC (.bl true)) (aCons (eC (.bl false)) (aCons (eC (.bl false)) aNil))))))) (sRet (eC .non)) sNext)))
      (sRet (eC (.bl false))))
def m__law_told (ds : List D) : Rs D := runF 3 b__law_told ds
def b__law_read : FS := (sSeq (sSet 1 (eC (.str "abcdefghijklmnopqrstuvwxyzABCDEFGHIJKLMNOPQRSTUVWXYZ0123456789_-./")))
      (sSeq (sSet 2 (eC (.str "")))
      (sSeq (sSetO 3 (fun τ => (aNil τ).bind fun ds => if ds.length ≤ sizeLine then .ok ds else .no))
      (sSeq (sSet 4 (eC (.str "]")))
      (sSeq (sFor (iEnS (aCons (eVar 0) aNil)) (gPr 5 6) (sIf (tB (eOp inD (eVar 6) (eC (.str "[]")))) (sSeq (sIf (tOrD (tB (eOp eqD (eVar 6) (eVar 4))) (tOrD (tB (eOp eqD (eSl (eVar 0) (oSome (eOp subD (eVar 5) (eC (.int 1)))) (oSome (eVar 5))) (eC (.str "[")))) (tAndD (tB (eOp eqD (eVar 6) (eC (.str "[")))) (tB (eOp eqD (eSl (eVar 0) (oSome (eOp subD (eVar 5) (eC (.int 1)))) (oSome (eVar 5))) (eC (.str "]"))))))) (sRet (eC .non)) sNext)
      (sSet 4 (eVar 6))) (sIf (tB (eOp notInD (eVar 6) (eVar 1))) (sRet (eC .non)) (sSeq (sIf (tB (eOp eqD (eVar 4) (eC (.str "[")))) (sApp 3 (eBlt lenD (aCons (eVar 2) aNil))) sNext)
      (sSet 2 (eOp addD (eVar 2) (eVar 6)))))))
      (sSeq (sIf (tOrD (tB (eOp eqD (eVar 4) (eC (.str "[")))) (tNotD (tB (eChain leD leD (eC (.int 1)) (eBlt lenD (aCons (eVar 2) aNil)) (eC (.int 24)))))) (sRet (eC .non)) sNext)
      (fun τ => sRet (eTup (aCons (eVar 2) (aCons (eVar 3) aNil))) (frzT τ))))))))
def m__law_read (ds : List D) : Rs D := runF 7 b__law_read ds
def b_law : FS := (sSeq (sSet 1 (eCall m__law_name (aCons (eVar 0) (aCons (eC (.int 0)) aNil))))
      (sSeq (sSet 2 fun τ => ((eComp 1 [0] (iRg1 (aCons (eBlt lenD (aCons (eVar 1) aNil)) aNil)) (gNm 0) (tB (eOp eqD (eCall m__law_drawn (aCons (eVar 1) (aCons (eOp addD (eC (.int 20)) (eVar 0)) (aCons (eC (.int 2)) aNil)))) (eC (.int 0)))) (eVar 0)) τ).bind fun ds => .ok (.lst ds))
      (sSeq (sSet 3 (eCall m_shown (aCons (eVar 1) (aCons (eVar 2) aNil))))
      (sSeq (sIf (tOrD (tB (eOp neD (eCall m_read_shown (aCons (eVar 3) aNil)) (eTup (aCons (eVar 1) (aCons (eVar 2) aNil))))) (tB (eOp neD (eRepl "]" "" (eRepl "[" "" (eVar 3))) (eVar 1)))) (sRet (eC (.bl false))) sNext)
      (sSeq (sSet 4 (eCall m_runs (aCons (eVar 1) (aCons (eVar 2) aNil))))
      (sSeq (sSet 5 (eLst aNil))
      (sSeq (sFor (iAny (eVar 4)) (gPr 6 7) (sSeq (sIf (tOrD (tB (eOp ltI (eVar 7) (eC (.int 1)))) (tAndD (tB (eOp neD (eVar 5) (eLst aNil))) (tB (eOp leD (eVar 6) (eOp addD (eOp ixD (eVar 5) (eNeg (eC (.int 1)))) (eC (.int 1))))))) (sRet (eC (.bl false))) sNext)
      (sSet 5 (eOp addD (eVar 5) (fun τ => ((lstRg (iRg2 (aCons (eVar 6) (aCons (eOp addD (eVar 6) (eVar 7)) aNil)))) τ).bind fun ds => .ok (.lst ds))))))
      (sSeq (sIf (tB (eOp neD (eVar 5) (eVar 2))) (sRet (eC (.bl false))) sNext)
      (sSeq (sSet 8 (eCall m__law_drawn (aCons (eVar 0) (aCons (eC (.int 40)) (aCons (eOp addD (eBlt lenD (aCons (eVar 3) aNil)) (eC (.int 1))) aNil)))))
      (sSeq (sSet 9 (eOp ixD (eC (.str "[]a_ [")) (eCall m__law_drawn (aCons (eVar 0) (aCons (eC (.int 41)) (aCons (eC (.int 6)) aNil))))))
      (sSeq (sSet 10 (eLst (aCons (eOp addD (eOp addD (eSl (eVar 3) oNone (oSome (eVar 8))) (eVar 9)) (eSl (eVar 3) (oSome (eVar 8)) oNone)) (aCons (eOp addD (eSl (eVar 3) oNone (oSome (eVar 8))) (eSl (eVar 3) (oSome (eOp addD (eVar 8) (eC (.int 1)))) oNone)) (aCons (eOp addD (eOp addD (eSl (eVar 3) oNone (oSome (eVar 8))) (eVar 9)) (eSl (eVar 3) (oSome (eOp addD (eVar 8) (eC (.int 1)))) oNone)) (aCons (eC (.str "")) (aCons (eC (.str "[]")) (aCons (eC (.str "[a]")) aNil))))))))
      (sSeq (sFor (iAny (eOp addD (eVar 10) (eLst (aCons (eSl (eVar 3) (oSome (eVar 8)) oNone) (aCons (eOp mulSD (eVar 3) (eC (.int 3))) aNil))))) (gNm 11) (sIf (tB (eOp neD (eCall m__law_told (aCons (eVar 11) aNil)) (eCall m__law_read (aCons (eVar 11) aNil)))) (sRet (eC (.bl false))) sNext))
      (sRet (eC (.bl true)))))))))))))))
def m_law (ds : List D) : Rs D := runF 12 b_law ds
end Law
set_option Elab.async false
set_option linter.all false
namespace Law
open PySem PySem.Spec PyProof.Rows L2 FD
def cellZ (ns : List Int) (k : Int) : Int := if ns = [] then 7 * k else ns.getD (k % ns.length).toNat 0 + 6553 * (k / ns.length)
theorem sizeLine_v : sizeLine = 16777216 := sizeLine_eq
theorem cell_ok (ns : List Int) (k : Int) (h63 : ns.length ≤ 63) (h0 : 0 ≤ k) : m__law_cell [.scr ns, .int k] = .ok (.int (cellZ ns k)) := by
  have st : startD 2 [D.scr ns, .int k] = [some (.val (.scr ns)), some (.val (.int k))] := rfl
  unfold m__law_cell b__law_cell
  rw [runF_ap, st]
  simp only [sSeq_ap, sIf_ap, tB_ap, eOp_ap, eVar_ap, eLst_ap, aNil_ap, List.getElem?_cons_zero, getV_val, Rs.bind_ok, List.length_nil, Nat.zero_le, if_true, eqD_scr_nil, boolOf_bl, Fl.of_ok]
  cases ns with
  | nil =>
    simp only [List.isEmpty_nil, if_true, sRet_ap, eOp_ap, eC_ap, eVar_ap, List.getElem?_cons_zero, List.getElem?_cons_succ, getV_val, Rs.bind_ok, mulD_i (i := 7) (j := k) (.inl ⟨by decide, by decide⟩), Fl.of_ok, thn_rt, flRes_rt, cellZ]
  | cons a r =>
    have hl : (0 : Int) < ((a :: r).length : Int) := by simp only [List.length_cons]; omega
    have hm0 := Int.emod_nonneg k (show ((a :: r).length : Int) ≠ 0 by omega)
    have hm1 := Int.emod_lt_of_pos k hl
    have hat : atI (a :: r) (k % ((a :: r).length : Int)) = some ((a :: r).getD (k % ((a :: r).length : Int)).toNat 0) := by
      refine atI_of hm0 ?_
      have : (k % ((a :: r).length : Int)).toNat < (a :: r).length := by omega
      rw [List.getD_eq_getElem?_getD, List.getElem?_eq_getElem this]; rfl
    have hdv : fdivD (.int k) (.int ((a :: r).length : Int)) = .ok (.int (k / ((a :: r).length : Int))) := fdivD_i ⟨hl, by omega⟩
    have hmd : modD (.int k) (.int ((a :: r).length : Int)) = .ok (.int (k % ((a :: r).length : Int))) := modD_i hl
    have hml := mulD_i (i := 6553) (j := k / ((a :: r).length : Int)) (.inl ⟨by decide, by decide⟩)
    simp only [List.isEmpty_cons, Bool.false_eq_true, if_false, sNext_ap, thn_nx, sRet_ap, eOp_ap, eC_ap, eVar_ap, eBlt_ap, aCons_ap, aNil_ap, List.getElem?_cons_zero, List.getElem?_cons_succ, getV_val, Rs.bind_ok, lenD_scr, hmd, hdv, hml, ixD_scr hat, addD_i, Fl.of_ok, flRes_rt]
    simp [cellZ]
def d1 (ns : List Int) (k : Int) : Int := (cellZ ns k % 2147483563 * 69069 + 104723 * (k + 1)) % 2147483563
def d2 (ns : List Int) (k : Int) : Int := (d1 ns k * d1 ns k + d1 ns k / 3) % 2147483399
def drawZ (ns : List Int) (k m : Int) : Int := (d2 ns k * d2 ns k + d2 ns k / 7) % 2147483647 / 11 % m
theorem draw_ok (ns : List Int) (k m : Int) (h63 : ns.length ≤ 63) (h0 : 0 ≤ k) (hk : k < 1000000) (hm : 0 < m) : m__law_drawn [.scr ns, .int k, .int m] = .ok (.int (drawZ ns k m)) := by
  have st : startD 4 [D.scr ns, .int k, .int m] = [some (.val (.scr ns)), some (.val (.int k)), some (.val (.int m)), none] := rfl
  have b1 : 0 ≤ d1 ns k ∧ d1 ns k < 2147483563 := ⟨Int.emod_nonneg _ (by decide), Int.emod_lt_of_pos _ (by decide)⟩
  have b2 : 0 ≤ d2 ns k ∧ d2 ns k < 2147483399 := ⟨Int.emod_nonneg _ (by decide), Int.emod_lt_of_pos _ (by decide)⟩
  have c0 := Int.emod_lt_of_pos (cellZ ns k) (show (0 : Int) < 2147483563 by decide)
  have c1 := Int.emod_nonneg (cellZ ns k) (show (2147483563 : Int) ≠ 0 by decide)
  have q1 := mulD_i (i := cellZ ns k % 2147483563) (j := 69069) (.inr ⟨by decide, by decide⟩)
  have q2 := mulD_i (i := 104723) (j := k + 1) (.inl ⟨by decide, by decide⟩)
  have q3 := mulD_i (i := d1 ns k) (j := d1 ns k) (.inl ⟨by omega, by omega⟩)
  have q4 := mulD_i (i := d2 ns k) (j := d2 ns k) (.inl ⟨by omega, by omega⟩)
  have e1 : (cellZ ns k % 2147483563 * 69069 + 104723 * (k + 1)) % 2147483563 = d1 ns k := rfl
  have e2 : (d1 ns k * d1 ns k + d1 ns k / 3) % 2147483399 = d2 ns k := rfl
  have m1 := fun i => modD_i (i := i) (j := 2147483563) (by decide)
  have m2 := fun i => modD_i (i := i) (j := 2147483399) (by decide)
  have m3 := fun i => modD_i (i := i) (j := 2147483647) (by decide)
  have m4 := fun i => modD_i (i := i) (j := m) hm
  have f3 := fun i => fdivD_i (i := i) (j := 3) ⟨by decide, by decide⟩
  have f7 := fun i => fdivD_i (i := i) (j := 7) ⟨by decide, by decide⟩
  have f11 := fun i => fdivD_i (i := i) (j := 11) ⟨by decide, by decide⟩
  unfold m__law_drawn b__law_drawn
  rw [runF_ap, st]
  simp only [sSeq_ap, sSet_ap, sRet_ap, eOp_ap, eVar_ap, eC_ap, eCall_ap, aCons_ap, aNil_ap, List.getElem?_cons_zero, List.getElem?_cons_succ, getV_val, Rs.bind_ok, cell_ok ns k h63 h0, noEx_ok, m1, q1, addD_i, q2, e1, Fl.of_ok, thn_nx, List.set_cons_succ, List.set_cons_zero, q3, f3, m2, e2, q4, f7, m3, f11, m4, flRes_rt]
  rfl
theorem draw_lt (ns : List Int) (k : Int) {m : Int} (hm : 0 < m) : 0 ≤ drawZ ns k m ∧ drawZ ns k m < m := ⟨Int.emod_nonneg _ (by omega), Int.emod_lt_of_pos _ hm⟩
end Law
set_option Elab.async false
set_option linter.all false
namespace FD
open PySem PySem.Spec PyProof.Rows L2
theorem loop_from {set : FG} {body : FS} (f : Nat → D) (S : Nat → DS) : ∀ (m j : Nat), (∀ k, j ≤ k → k < j + m → ∃ τ1, set (f k) (S k) = .ok τ1 ∧ body τ1 = .nx (S (k + 1))) → loopD set body ((List.range' j m).map f) (S j) = .nx (S (j + m))
  | 0, j, _ => rfl
  | m + 1, j, h => by
    obtain ⟨τ1, h1, h2⟩ := h j (Nat.le_refl _) (by omega)
    rw [List.range'_succ, List.map_cons, loopD, h1, Fl.of_ok]
    simp only [h2]
    rw [loop_from f S m (j + 1) fun k hk hk2 => h k (by omega) (by omega)]
    congr 2; omega
theorem loop_range {set : FG} {body : FS} (f : Nat → D) (S : Nat → DS) (n : Nat) (h : ∀ k, k < n → ∃ τ1, set (f k) (S k) = .ok τ1 ∧ body τ1 = .nx (S (k + 1))) : loopD set body ((List.range n).map f) (S 0) = .nx (S n) := by
  have := loop_from f S n 0 fun k _ hk => h k (by omega)
  rw [Nat.zero_add] at this
  rwa [List.range_eq_range']
theorem rg1_ok {fs : FA} {τ : DS} {j : Int} (h : fs τ = .ok [.int j]) (h1 : -(2 ^ 62) ≤ j) (h2 : j < 2 ^ 62) : iRg1 fs τ = .ok (rngD 0 j.toNat) := by
  unfold iRg1
  rw [h]
  simp only [Rs.bind_ok, int1]
  rw [if_pos ⟨h1, h2⟩]
theorem str_app (a : List Nat) (c : Nat) : (⟨a.toArray⟩ : Str) ++ (⟨#[c]⟩ : Str) = ⟨(a ++ [c]).toArray⟩ := by
  show Str.mk _ = _
  simp
theorem gNm_ap {n : Nat} {d : D} {τ : DS} : gNm n d τ = .ok (τ.set n (some (.val d))) := rfl
end FD
namespace Law
open PySem PySem.Spec PyProof.Rows L2 FD
def A18 : List Nat := [97, 98, 99, 97, 98, 65, 66, 67, 97, 98, 49, 95, 45, 46, 47, 120, 121, 122]
def nameN (ns : List Int) (a : Int) : Nat := (1 + drawZ ns a 10).toNat
def nameC (ns : List Int) (a : Int) (k : Nat) : Nat := A18.getD (drawZ ns (a + 1 + k) 18).toNat 0
def nameL (ns : List Int) (a : Int) (n : Nat) : List Nat := (List.range n).map (nameC ns a)
theorem a18 : ("abcabABCab1_-./xyz" : Str).cps.toList = A18 := by decide +kernel
theorem name_ok (ns : List Int) (a : Int) (h63 : ns.length ≤ 63) (h0 : 0 ≤ a) (ha : a < 900000) : m__law_name [.scr ns, .int a] = .ok (.str ⟨(nameL ns a (nameN ns a)).toArray⟩) := by
  have st : startD 4 [D.scr ns, .int a] = [some (.val (.scr ns)), some (.val (.int a)), none, none] := rfl
  have dl := draw_lt ns a (m := 10) (by decide)
  unfold m__law_name b__law_name
  rw [runF_ap, st, sSeq_ap, sSet_ap, eC_ap, Fl.of_ok, thn_nx, sSeq_ap, sFor_ap]
  have r1 := rg1_ok (fs := aCons (eOp addD (eC (.int 1)) (eCall m__law_drawn (aCons (eVar 0) (aCons (eVar 1) (aCons (eC (.int 10)) aNil))))) aNil) (τ := [some (.val (.scr ns)), some (.val (.int a)), some (.val (.str "")), none]) (j := 1 + drawZ ns a 10)
    (by simp only [aCons_ap, aNil_ap, eOp_ap, eC_ap, eCall_ap, eVar_ap, List.getElem?_cons_zero, List.getElem?_cons_succ, getV_val, Rs.bind_ok, draw_ok ns a 10 h63 h0 (by omega) (by decide), noEx_ok, addD_i]) (by omega) (by omega)
  simp only [List.set_cons_succ, List.set_cons_zero]
  rw [r1, Fl.of_ok]
  let S : Nat → DS := fun k => [some (.val (.scr ns)), some (.val (.int a)), some (.val (.str ⟨(nameL ns a k).toArray⟩)), if k = 0 then none else some (.val (.int ((k : Int) - 1)))]
  have s0 : S 0 = [some (.val (.scr ns)), some (.val (.int a)), some (.val (.str "")), none] := by
    simp only [S, nameL, List.range_zero, List.map_nil, if_true]
    rfl
  rw [← s0]
  have lp := loop_range (set := gNm 3) (body := (sSet 2 (eOp addD (eVar 2) (eOp ixD (eC (.str "abcabABCab1_-./xyz")) (eCall m__law_drawn (aCons (eVar 0) (aCons (eOp addD (eOp addD (eVar 1) (eC (.int 1))) (eVar 3)) (aCons (eC (.int 18)) aNil)))))))) (fun (k : Nat) => D.int (0 + k)) S (1 + drawZ ns a 10).toNat fun k hk => by
    refine ⟨_, gNm_ap, ?_⟩
    have hk' : (k : Int) < 20 := by omega
    have dk := draw_lt ns (a + 1 + (0 + (k : Int))) (m := 18) (by decide)
    have hd := draw_ok ns (a + 1 + (0 + (k : Int))) 18 h63 (by omega) (by omega) (by decide)
    have hix := ixD_str (a := "abcabABCab1_-./xyz") (k := drawZ ns (a + 1 + (0 + (k : Int))) 18) (c := A18.getD (drawZ ns (a + 1 + (0 + (k : Int))) 18).toNat 0) (atI_of dk.1 (by
      rw [a18]
      have : (drawZ ns (a + 1 + (0 + (k : Int))) 18).toNat < A18.length := by
        have : A18.length = 18 := rfl
        omega
      rw [List.getD_eq_getElem?_getD, List.getElem?_eq_getElem this]; rfl)) (by decide +kernel)
    have hadd := addD_s (a := ⟨(nameL ns a k).toArray⟩) (b := ⟨#[A18.getD (drawZ ns (a + 1 + (0 + (k : Int))) 18).toNat 0]⟩) (by
      show (nameL ns a k).toArray.size + 1 ≤ sizeLine
      rw [sizeLine_v, List.size_toArray]
      simp only [nameL, List.length_map, List.length_range]; omega)
    simp only [S, List.set_cons_succ, List.set_cons_zero, sSet_ap, eOp_ap, eC_ap, eCall_ap, aCons_ap, aNil_ap, eVar_ap, List.getElem?_cons_zero, List.getElem?_cons_succ, getV_val, Rs.bind_ok, addD_i, hd, noEx_ok, hix, signD, hadd, Fl.of_ok, str_app]
    have e1 : nameL ns a k ++ [A18.getD (drawZ ns (a + 1 + (0 + (k : Int))) 18).toNat 0] = nameL ns a (k + 1) := by
      simp only [nameL, List.range_succ, List.map_append, List.map_cons, List.map_nil, nameC, Int.zero_add]
    rw [e1]
    simp
  unfold rngD
  rw [lp, thn_nx]
  simp only [S, sRet_ap, eVar_ap, List.getElem?_cons_zero, List.getElem?_cons_succ, getV_val, Fl.of_ok, flRes_rt]
  rfl
end Law
set_option Elab.async false
set_option linter.all false
namespace FD
open PySem PySem.Spec PyProof.Rows L2
end FD
namespace Law
open PySem PySem.Spec PyProof.Rows L2 FD
def QS : List Nat := [97, 98, 99, 120, 121, 122, 65, 66, 49]
def MK : List Nat := [95, 45, 46, 47]
theorem mk_l : ("_-./" : Str).cps.toList = MK := by decide +kernel
theorem slice_ss (x : List Nat) {i j : Int} (h0 : 0 ≤ i) (h1 : i ≤ j) (h2 : j ≤ x.length) : Txt.slice (⟨x.toArray⟩ : Str) (some i) (some j) = ⟨((x.drop i.toNat).take (j - i).toNat).toArray⟩ := by
  have := slice_closesL (x := ⟨x.toArray⟩) (i := i) (j := j) h0 h1 (by show j ≤ ((x.toArray.size : Nat) : Int); simpa using h2)
  exact eq_of_beq this
def NS : List Nat := [97, 98, 99, 65, 66, 67, 49, 95, 45, 46, 47, 120, 121, 122]
theorem name_sign (ns : List Int) (a : Int) (k : Nat) (h : 0 ≤ a + 1 + k) : nameC ns a k ∈ NS := by
  have d := draw_lt ns (a + 1 + k) (m := 18) (by decide)
  have hall : ∀ n, n < 18 → A18.getD n 0 ∈ NS := by decide
  exact hall _ (by omega)
end Law
set_option Elab.async false
set_option linter.all false
set_option maxHeartbeats 1000000
namespace Law
open PySem PySem.Spec PyProof.Rows L2 FD
def meetC (c d : Nat) : Bool := c == d || (decide (97 ≤ c ∧ c ≤ 122) && up1 c == d)
end Law
set_option Elab.async false
set_option linter.all false
set_option maxHeartbeats 1000000
namespace FD
open PySem PySem.Spec PyProof.Rows L2
section
variable {τ : DS} {fa fb fe fi : FE} {fs : FA} {n : Nat} {i : Int}
theorem eLenO_ap : eLenO n τ = (getO τ[n]?).bind fun ds => .ok (.int ds.length) := rfl
theorem sApp_ap : sApp n fe τ = Fl.of (getO τ[n]?) fun ds => Fl.of (fe τ) fun d => if ds.length < sizeLine then .nx (τ.set n (some (.own (ds ++ [d])))) else .no := rfl
theorem iAny_ap : iAny fe τ = (fe τ).bind iterD := rfl
@[simp] theorem iter_str {x : Str} : iterD (.str x) = .ok (signsD x) := rfl
@[simp] theorem iter_lst {ds : List D} : iterD (.lst ds) = .ok ds := rfl
def putAt (n : Nat) (ds : List D) (d : D) (τ : DS) : D → Fl
  | .int k => match ixN ds.length k with
    | some j => .nx (τ.set n (some (.own (ds.set j d))))
    | none => .no
  | _ => .no
theorem sPut_ap : sPut n fi fe τ = Fl.of (fe τ) fun d => Fl.of (getO τ[n]?) fun ds => Fl.of (fi τ) (putAt n ds d τ) := by
  unfold sPut ownAt
  cases fe τ <;> rfl
def ixO (ds : List D) : D → Rs D
  | .int k => match atI ds k with
    | some d => .ok d
    | none => .no
  | _ => .no
theorem eIxO_ap : eIxO n fi τ = (getO τ[n]?).bind fun ds => (fi τ).bind (ixO ds) := by
  unfold eIxO
  show (getO τ[n]?).bind _ = _
  cases getO τ[n]? <;> rfl
end
end FD
namespace Law
open PySem PySem.Spec PyProof.Rows L2 FD
abbrev tx (x : List Nat) : D := .str ⟨x.toArray⟩
abbrev nts (x : List Nat) : D := .lst (x.map fun (k : Nat) => D.int k)
theorem tx_len (x : List Nat) (h : x.length ≤ 1000) : lenD [tx x] = .ok (.int x.length) := by
  rw [lenD_str (by rw [sizeLine_v]; show x.toArray.size ≤ _; simp; omega)]
  show Rs.ok (D.int ((x.toArray.size : Nat) : Int)) = _
  simp
theorem tx_ix (x : List Nat) (j : Nat) (c : Nat) (h : x[j]? = some c) (hl : x.length ≤ 1000) : ixD (tx x) (.int j) = .ok (signD c) := by
  refine ixD_str (atI_of (by omega) (by simpa using h)) (by rw [sizeLine_v]; show x.toArray.size ≤ _; simp; omega)
theorem tx_signs (x : List Nat) : signsD ⟨x.toArray⟩ = x.map signD := by simp [signsD]
end Law
set_option Elab.async false
set_option linter.all false
set_option maxHeartbeats 1000000
namespace Law
open PySem PySem.Spec PyProof.Rows L2 FD
abbrev its (x : List Int) : D := .lst (x.map D.int)
theorem nts_its (x : List Nat) : nts x = its (x.map fun (k : Nat) => (k : Int)) := by simp [nts, its]
theorem whole_ok (i : Int) : m_is_whole [.int i] = .ok (.bl true) := by
  have st : startD 1 [D.int i] = [some (.val (.int i))] := rfl
  unfold m_is_whole b_is_whole
  rw [runF_ap, st]
  simp only [sRet_ap, eVar_ap, eC_ap, aNil_ap, aCons_ap, eBlt_ap, eAnd_ap, eNot_ap, List.getElem?_cons_zero, getV_val, Rs.bind_ok, Fl.of_ok, flRes_rt, truD_bl, if_true, Bool.not_false, show isiD [.int i, .raw (.ty "int")] = .ok (.bl true) from rfl, show isiD [.int i, .raw (.ty "bool")] = .ok (.bl false) from rfl]
def risI (n : Int) : Int → List Int → Bool
  | _, [] => true
  | a, t :: r => if t < a ∨ n ≤ t then false else risI n (t + 1) r
def riBody : FS := (sSeq (sIf (tNotD (tTru (eCall m_is_whole (aCons (eVar 3) aNil)))) (sRet (eC (.bl false))) sNext)
      (sSeq (sIf (tOrD (FD.tB (eOp ltI (eVar 3) (eVar 2))) (FD.tB (eOp geD (eVar 3) (eBlt lenD (aCons (eVar 0) aNil))))) (sRet (eC (.bl false))) sNext)
      (sSet 2 (eOp addD (eVar 3) (eC (.int 1))))))
theorem ri_loop (x : List Nat) (hx : x.length ≤ 1000) (z : D) : ∀ (l : List Int) (a : Int) (s : Option Sl),
    (risI x.length a l = false ∧ loopD (gNm 3) riBody (l.map D.int) [some (.val (tx x)), some (.val z), some (.val (.int a)), s] = .rt (.bl false)) ∨
    (risI x.length a l = true ∧ ∃ τ', loopD (gNm 3) riBody (l.map D.int) [some (.val (tx x)), some (.val z), some (.val (.int a)), s] = .nx τ')
  | [], a, s => .inr ⟨rfl, _, rfl⟩
  | t :: r, a, s => by
    by_cases h : t < a ∨ (x.length : Int) ≤ t
    · refine .inl ⟨by simp [risI, h], ?_⟩
      rw [List.map_cons, loopD, gNm_ap, Fl.of_ok]
      have : riBody [some (.val (tx x)), some (.val z), some (.val (.int a)), some (.val (.int t))] = .rt (.bl false) := by
        unfold riBody
        simp only [sSeq_ap, sIf_ap, sRet_ap, sNext_ap, tB_ap, tTru_ap, tOr_ap, tNot_ap, eOp_ap, eVar_ap, eC_ap, aNil_ap, aCons_ap, eCall_ap, eBlt_ap, List.getElem?_cons_zero, List.getElem?_cons_succ, getV_val, Rs.bind_ok, Fl.of_ok, thn_nx, noEx_ok, boolOf_bl, truD_bl, ltI_i, geD_i, Bool.false_eq_true, if_false, Bool.not_true, whole_ok, tx_len x hx]
        by_cases h1 : t < a
        · simp only [Fl.of_ok, thn_rt, if_true, h1, decide_true]
        · have h2 := h.resolve_left h1
          simp only [Fl.of_ok, thn_rt, if_true, Bool.false_eq_true, if_false, h1, decide_false, h2, decide_true]
      simp only [List.set_cons_succ, List.set_cons_zero, this]
    · have : riBody [some (.val (tx x)), some (.val z), some (.val (.int a)), some (.val (.int t))] = .nx [some (.val (tx x)), some (.val z), some (.val (.int (t + 1))), some (.val (.int t))] := by
        unfold riBody
        have h1 : ¬ t < a := fun h1 => h (.inl h1)
        have h2 : ¬ (x.length : Int) ≤ t := fun h2 => h (.inr h2)
        simp only [sSeq_ap, sSet_ap, sIf_ap, sRet_ap, sNext_ap, tB_ap, tTru_ap, tOr_ap, tNot_ap, eOp_ap, eVar_ap, eC_ap, aNil_ap, aCons_ap, eCall_ap, eBlt_ap, List.getElem?_cons_zero, List.getElem?_cons_succ, List.set_cons_succ, List.set_cons_zero, getV_val, Rs.bind_ok, Fl.of_ok, thn_nx, noEx_ok, boolOf_bl, truD_bl, addD_i, ltI_i, geD_i, Bool.false_eq_true, if_false, Bool.not_true, whole_ok, tx_len x hx, h1, h2, decide_false]
      have e : risI x.length a (t :: r) = risI x.length (t + 1) r := by simp [risI, h]
      rw [List.map_cons, loopD, gNm_ap, Fl.of_ok, e]
      simp only [List.set_cons_succ, List.set_cons_zero, this]
      exact ri_loop x hx z r (t + 1) _
theorem rising_ok (x : List Nat) (l : List Int) (hx : x.length ≤ 1000) : m_are_rising_places [tx x, its l] = .ok (.bl (risI x.length 0 l)) := by
  have st : startD 4 [tx x, its l] = [some (.val (tx x)), some (.val (its l)), none, none] := rfl
  have := ri_loop x hx (its l) l 0 none
  unfold riBody at this
  unfold m_are_rising_places b_are_rising_places
  rw [runF_ap, st]
  simp only [sSeq_ap, sSet_ap, sFor_ap, iAny_ap, iter_lst, eVar_ap, eC_ap, List.getElem?_cons_zero, List.getElem?_cons_succ, List.set_cons_succ, List.set_cons_zero, getV_val, Rs.bind_ok, Fl.of_ok, thn_nx]
  rcases this with ⟨h1, h2⟩ | ⟨h1, τ', h2⟩
  · rw [h2, h1]; rfl
  · rw [h2, h1]; rfl
theorem bools_bl : ∀ bs : List Bool, boolsOf (bs.map D.bl) = some bs
  | [] => rfl
  | b :: r => by simp only [List.map_cons, boolsOf, bools_bl r]; rfl
theorem comp_map {set : FG} {fe : FE} {τ : DS} {α β : Type} (f : α → D) (g : β → D) (h : α → β) : ∀ (xs : List α), (∀ a ∈ xs, ∃ τ1, set (f a) τ = .ok τ1 ∧ fe τ1 = .ok (g (h a))) → compL set (fun _ => .ok true) fe τ (xs.map f) = .ok ((xs.map h).map g)
  | [], _ => rfl
  | a :: xs, hs => by
    obtain ⟨τ1, h1, h2⟩ := hs a (List.mem_cons_self ..)
    rw [List.map_cons, compL, h1]
    simp only [h2, comp_map f g h xs fun b hb => hs b (List.mem_cons_of_mem _ hb), Rs.bind_ok, List.map_cons]
end Law
set_option Elab.async false
set_option linter.all false
set_option maxHeartbeats 1000000
namespace FD
open PySem PySem.Spec PyProof.Rows L2
theorem mk_len (x : List Nat) : (⟨x.toArray⟩ : Str).length = x.length := by show x.toArray.size = _; simp
theorem slice_to (x : List Nat) (n : Nat) : Txt.slice (⟨x.toArray⟩ : Str) none (some (n : Int)) = ⟨(x.take n).toArray⟩ := by
  have := eq_of_beq (slice_to_min_closes (x := ⟨x.toArray⟩) (n := (n : Int)) (m := _) (by omega) rfl)
  rw [this]
  congr 2
  rw [mk_len]
  show (List.drop (0 : Int).toNat x).take _ = _
  rw [show (0 : Int).toNat = 0 from rfl, List.drop_zero]
  split
  · rw [List.take_of_length_le (by omega), List.take_of_length_le (by omega)]
  · congr 1
theorem slice_from (x : List Nat) (i : Nat) (h : i ≤ x.length) : Txt.slice (⟨x.toArray⟩ : Str) (some (i : Int)) none = ⟨(x.drop i).toArray⟩ := by
  have := eq_of_beq (slice_closes_fromL (x := ⟨x.toArray⟩) (i := (i : Int)) (b := _) (by omega) (by rw [mk_len]; omega) rfl)
  rw [this]
  congr 2
  rw [mk_len, Int.toNat_natCast]
  show (List.drop i x).take _ = _
  rw [List.take_of_length_le (by rw [List.length_drop]; omega)]
theorem slice_mid (x : List Nat) (i j : Nat) (h1 : i ≤ j) (h2 : j ≤ x.length) : Txt.slice (⟨x.toArray⟩ : Str) (some (i : Int)) (some (j : Int)) = ⟨((x.drop i).take (j - i)).toArray⟩ := by
  rw [Law.slice_ss x (by omega) (by omega) (by omega), Int.toNat_natCast]
  congr 3
  omega
theorem str_cat (a b : List Nat) : (⟨a.toArray⟩ : Str) ++ (⟨b.toArray⟩ : Str) = ⟨(a ++ b).toArray⟩ := by
  show Str.mk _ = _
  simp
theorem comp_filter {set : FG} {ft : FT} {fe : FE} {τ : DS} {α : Type} (f g : α → D) (p : α → Bool) : ∀ (xs : List α), (∀ a ∈ xs, ∃ τ1, set (f a) τ = .ok τ1 ∧ ft τ1 = .ok (p a) ∧ fe τ1 = .ok (g a)) → compL set ft fe τ (xs.map f) = .ok ((xs.filter p).map g)
  | [], _ => rfl
  | a :: xs, hs => by
    obtain ⟨τ1, h1, h2, h3⟩ := hs a (List.mem_cons_self ..)
    have ih := comp_filter f g p xs fun b hb => hs b (List.mem_cons_of_mem _ hb)
    rw [List.map_cons, compL, h1]
    cases hp : p a
    · rw [hp] at h2
      simp only [h2, ih, List.filter_cons, hp, Bool.false_eq_true, if_false]
    · rw [hp] at h2
      simp only [h2, h3, ih, List.filter_cons, hp, if_true, Rs.bind_ok, List.map_cons]
end FD
namespace Law
open PySem PySem.Spec PyProof.Rows L2 FD
def low (x : List Nat) : List Nat := x.map lo1
theorem f1 : ∀ a ∈ QS, ∀ c ∈ NS, meetC (lo1 a) c = meetC (lo1 a) (lo1 c) := by decide
theorem f2 : ∀ a ∈ QS, ∀ c ∈ NS, meetC a c = true → meetC (lo1 a) c = true := by decide
theorem f3 : ∀ a ∈ QS, ∀ c ∈ NS, meetC a c = true → lo1 c = lo1 a := by decide
theorem f5 : ∀ c ∈ NS, c < 128 ∧ lo1 c < 128 := by decide
theorem f6 : ∀ c ∈ QS, c < 128 ∧ lo1 c < 128 := by decide
abbrev toI (l : List Nat) : List Int := l.map fun (t : Nat) => (t : Int)
end Law
set_option Elab.async false
set_option linter.all false
set_option maxHeartbeats 1000000
namespace FD
open PySem PySem.Spec PyProof.Rows L2
theorem sAug_ap {n : Nat} {op : D → D → Rs D} {fe : FE} {τ : DS} : sAug n op fe τ = Fl.of (eVar n τ) fun x => Fl.of (fe τ) fun y => Fl.of (op x y) fun z => .nx (τ.set n (some (.val z))) := rfl
end FD
namespace Law
open PySem PySem.Spec PyProof.Rows L2 FD
theorem get_some (x : List Nat) (j : Nat) (h : j < x.length) : x[j]? = some (x.getD j 0) := by
  rw [List.getD_eq_getElem?_getD, List.getElem?_eq_getElem h]; rfl
theorem sQuiet_rt {f : FS} {τ : DS} {d : D} (h : f τ = .rt d) : sQuiet f τ = .rt d := by unfold sQuiet; rw [h]
end Law
set_option Elab.async false
set_option linter.all false
set_option maxHeartbeats 1000000
namespace FD
open PySem PySem.Spec PyProof.Rows L2
end FD
namespace Law
open PySem PySem.Spec PyProof.Rows L2 FD
theorem size2 : ∀ a b : D, ([a, b] : List D).length ≤ sizeLine := fun a b => by rw [sizeLine_v]; exact Nat.le_of_ble_eq_true rfl
theorem tup2 {fa fb : FE} {τ : DS} {a b : D} (h1 : fa τ = .ok a) (h2 : fb τ = .ok b) : eTup (aCons fa (aCons fb aNil)) τ = .ok (.tup [a, b]) := by
  rw [eTup_ap, aCons_ap, h1, Rs.bind_ok, aCons_ap, h2, Rs.bind_ok, aNil_ap, Rs.bind_ok, Rs.bind_ok, Rs.bind_ok]
  exact if_pos (size2 a b)
theorem call1 {f : List D → Rs D} {fa : FE} {τ : DS} {a d : D} (h1 : fa τ = .ok a) (h : f [a] = .ok d) : eCall f (aCons fa aNil) τ = .ok d := by
  rw [eCall_ap, aCons_ap, h1, Rs.bind_ok, aNil_ap, Rs.bind_ok, Rs.bind_ok, h]; rfl
theorem call2 {f : List D → Rs D} {fa fb : FE} {τ : DS} {a b d : D} (h1 : fa τ = .ok a) (h2 : fb τ = .ok b) (h : f [a, b] = .ok d) : eCall f (aCons fa (aCons fb aNil)) τ = .ok d := by
  rw [eCall_ap, aCons_ap, h1, Rs.bind_ok, aCons_ap, h2, Rs.bind_ok, aNil_ap, Rs.bind_ok, Rs.bind_ok, Rs.bind_ok, h]; rfl
theorem call3 {f : List D → Rs D} {fa fb fc : FE} {τ : DS} {a b c d : D} (h1 : fa τ = .ok a) (h2 : fb τ = .ok b) (h3 : fc τ = .ok c) (h : f [a, b, c] = .ok d) : eCall f (aCons fa (aCons fb (aCons fc aNil))) τ = .ok d := by
  rw [eCall_ap, aCons_ap, h1, Rs.bind_ok, aCons_ap, h2, Rs.bind_ok, aCons_ap, h3, Rs.bind_ok, aNil_ap, Rs.bind_ok, Rs.bind_ok, Rs.bind_ok, Rs.bind_ok, h]; rfl
theorem op2 {op : D → D → Rs D} {fa fb : FE} {τ : DS} {a b : D} {r : Rs D} (h1 : fa τ = .ok a) (h2 : fb τ = .ok b) (h : op a b = r) : eOp op fa fb τ = r := by
  rw [eOp_ap, h1, Rs.bind_ok, h2, Rs.bind_ok, h]
theorem var_ok {n : Nat} {τ : DS} {d : D} (h : τ[n]? = some (some (.val d))) : eVar n τ = .ok d := by rw [eVar_ap, h]; rfl
theorem comp_ok {k : Nat} {idx : List Nat} {fi : FA} {set : FG} {ft : FT} {fe : FE} {τ : DS} {ds xs : List D} (h1 : fi τ = .ok ds) (h2 : compL set ft fe (tau0 k idx τ) ds = .ok xs) (h3 : xs.length ≤ 1000) : eComp k idx fi set ft fe τ = .ok xs := by
  unfold eComp
  rw [h1, Rs.bind_ok, h2]
  exact if_pos (by rw [sizeLine_v]; omega)
theorem tru_ok {fe : FE} {τ : DS} {b : Bool} (h : fe τ = .ok (.bl b)) : tTru fe τ = .ok b := by rw [tTru_ap, h]; rfl
theorem tB_ok {fe : FE} {τ : DS} {b : Bool} (h : fe τ = .ok (.bl b)) : FD.tB fe τ = .ok b := by rw [tB_ap, h]; rfl
theorem rng_ok {fa : FE} {τ : DS} {n : Nat} (h : fa τ = .ok (.int (n : Int))) (hn : n ≤ 1000) : iRg1 (aCons fa aNil) τ = .ok ((List.range n).map fun (k : Nat) => D.int (0 + k)) := by
  rw [rg1_ok (j := (n : Int)) (by rw [aCons_ap, h, Rs.bind_ok, aNil_ap, Rs.bind_ok]) (by omega) (by omega), Int.toNat_natCast]; rfl
theorem blt1 {g : List D → Rs D} {fa : FE} {τ : DS} {a d : D} (h1 : fa τ = .ok a) (h : g [a] = .ok d) : eBlt g (aCons fa aNil) τ = .ok d := by
  rw [eBlt_ap, aCons_ap, h1, Rs.bind_ok, aNil_ap, Rs.bind_ok, Rs.bind_ok, h]
end Law
set_option Elab.async false
set_option linter.all false
set_option maxHeartbeats 1000000
namespace FD
open PySem PySem.Spec PyProof.Rows L2
theorem lst_ok {fi : FA} {τ : DS} {ds : List D} (h : fi τ = .ok ds) (hl : ds.length ≤ 2000) : lstRg fi τ = .ok ds := by
  unfold lstRg
  rw [h, Rs.bind_ok]
  exact if_pos (by omega)
theorem tn_ok {g : FT} {τ : DS} {b : Bool} (h : g τ = .ok b) : tNotD g τ = .ok (!b) := by rw [tNot_ap, h]; rfl
theorem sl_ok {fe : FE} {fl fh : FO} {τ : DS} {d r : D} {l u : Option Int} (h1 : fe τ = .ok d) (h2 : fl τ = .ok l) (h3 : fh τ = .ok u) (h : slD d l u = .ok r) : eSl fe fl fh τ = .ok r := by
  rw [eSl_ap, h1, Rs.bind_ok, h2, Rs.bind_ok, h3, Rs.bind_ok, h]
theorem os_ok {fe : FE} {τ : DS} {i : Int} (h : fe τ = .ok (.int i)) : oSome fe τ = .ok (some i) := by rw [oSome_ap, h]; rfl
theorem or_l {fa fb : FE} {τ : DS} (h1 : fa τ = .ok (.bl true)) : eOr fa fb τ = .ok (.bl true) := by
  rw [eOr_ap, h1, Rs.bind_ok, truD_bl, Rs.bind_ok, if_pos rfl]
theorem or_r {fa fb : FE} {τ : DS} {d : D} (h1 : fa τ = .ok (.bl false)) (h2 : fb τ = .ok d) : eOr fa fb τ = .ok d := by
  rw [eOr_ap, h1, Rs.bind_ok, truD_bl, Rs.bind_ok, if_neg (by simp), h2]
theorem or_tl {f g : FT} {τ : DS} (h1 : f τ = .ok true) : tOrD f g τ = .ok true := by rw [tOr_ap, h1, Rs.bind_ok, if_pos rfl]
theorem or_tr {f g : FT} {τ : DS} {b : Bool} (h1 : f τ = .ok false) (h2 : g τ = .ok b) : tOrD f g τ = .ok b := by rw [tOr_ap, h1, Rs.bind_ok, if_neg (by simp), h2]
end FD
namespace Law
open PySem PySem.Spec PyProof.Rows L2 FD
end Law
set_option Elab.async false
set_option linter.all false
set_option maxHeartbeats 1000000
namespace FD
open PySem PySem.Spec PyProof.Rows L2
theorem comp_okB {k : Nat} {idx : List Nat} {fi : FA} {set : FG} {ft : FT} {fe : FE} {τ : DS} {ds xs : List D} (h1 : fi τ = .ok ds) (h2 : compL set ft fe (tau0 k idx τ) ds = .ok xs) (h3 : xs.length ≤ 1000000) : eComp k idx fi set ft fe τ = .ok xs := by
  unfold eComp
  rw [h1, Rs.bind_ok, h2]
  exact if_pos (by rw [Law.sizeLine_v]; omega)
theorem rg2_ok {fa fb : FE} {τ : DS} {i n : Nat} (h1 : fa τ = .ok (.int (i : Int))) (h2 : fb τ = .ok (.int (n : Int))) (hi : i ≤ 100000) (hn : n ≤ 100000) : iRg2 (aCons fa (aCons fb aNil)) τ = .ok ((List.range (n - i)).map fun (k : Nat) => D.int ((i : Int) + k)) := by
  unfold iRg2
  rw [aCons_ap, h1, Rs.bind_ok, aCons_ap, h2, Rs.bind_ok, aNil_ap, Rs.bind_ok, Rs.bind_ok, Rs.bind_ok]
  simp only [int2]
  rw [if_pos ⟨⟨by omega, by omega⟩, by omega, by omega⟩]
  unfold rngD
  have : ((n : Int) - (i : Int)).toNat = n - i := by omega
  rw [this]
theorem addL {a b : List D} (h : a.length + b.length ≤ 1000000) : addD (.lst a) (.lst b) = .ok (.lst (a ++ b)) := by
  show (if _ then Rs.ok (D.lst _) else Rs.no) = _
  exact if_pos (by rw [Law.sizeLine_v]; omega)
theorem nilE {τ : DS} : eLst aNil τ = .ok (.lst []) := by
  rw [eLst_ap, aNil_ap, Rs.bind_ok]; exact if_pos (Nat.zero_le _)
end FD
namespace Law
open PySem PySem.Spec PyProof.Rows L2 FD
def stt (l : List Nat) : Nat := match l.getLast? with
  | some p => p + 1
  | none => 0
def ext (a : Nat) (x l : List Nat) : List (List Nat) := (((List.range (x.length - stt l)).map (stt l + ·)).filter fun k => meetC a (x.getD k 0)).map fun k => l ++ [k]
end Law
set_option Elab.async false
set_option linter.all false
set_option maxHeartbeats 1000000
namespace FD
open PySem PySem.Spec PyProof.Rows L2
theorem okD_nats (l : List Nat) : okD (.lst (l.map fun (k : Nat) => D.int k)) = true := by
  have a : ∀ l : List Nat, plainDs (l.map fun (k : Nat) => D.int k) = true := fun l => by
    induction l with
    | nil => rfl
    | cons a r ih => simp [plainDs, plainD, ih]
  have b : ∀ l : List Nat, PyData.canLayAll0 (toPys (l.map fun (k : Nat) => D.int k)) = true := fun l => by
    induction l with
    | nil => rfl
    | cons a r ih => simp [toPys, toPy, PyData.canLayAll0, PyData.canLay0, ih]
  have c : ∀ l : List Nat, PyData.depthAll (toPys (l.map fun (k : Nat) => D.int k)) = 0 := fun l => by
    induction l with
    | nil => rfl
    | cons a r ih => simp [toPys, toPy, PyData.depthAll, PyData.depth, ih]
  simp [okD, plainD, toPy, PyData.canLay0, PyData.depth, a, b l, c]
theorem okD_nil : okD (.lst []) = true := by decide
theorem eqv_nil (ds : List D) : eqvD (.lst ds) (.lst []) = ds.isEmpty := by
  simp only [eqvD, toPy, toPys, PyData.eqv, eqvAll_nil]
  cases ds <;> rfl
theorem ne_nil (ds : List D) (h : okD (.lst ds) = true) : neD (.lst ds) (.lst []) = .ok (.bl (!ds.isEmpty)) := by
  simp only [neD, h, okD_nil, and_self, if_true, eqv_nil]
end FD
namespace Law
open PySem PySem.Spec PyProof.Rows L2 FD
theorem neg_nts (l : List Nat) (h : l ≠ []) : ixD (nts l) (.int (-1)) = .ok (.int (l.getD (l.length - 1) 0 : Nat)) := by
  have hp : 0 < l.length := List.length_pos_iff.mpr h
  refine ixD_lst ?_
  have e : ixN (l.map fun (k : Nat) => D.int k).length (-1) = some (l.length - 1) := by
    unfold ixN
    rw [List.length_map, if_neg (by omega), if_pos (by omega)]
    congr 1; omega
  unfold atI
  rw [e]
  show (l.map fun (k : Nat) => D.int k)[l.length - 1]? = _
  rw [List.getElem?_map, get_some l (l.length - 1) (by omega)]; rfl
end Law
set_option Elab.async false
set_option linter.all false
set_option maxHeartbeats 1000000
namespace Law
open PySem PySem.Spec PyProof.Rows L2 FD
theorem sQuiet_nx {f : FS} {τ τ' : DS} (h : f τ = .nx τ') : sQuiet f τ = .nx τ' := by unfold sQuiet; rw [h]
theorem lst3 {fa fb fc : FE} {τ : DS} {a b c : D} (h1 : fa τ = .ok a) (h2 : fb τ = .ok b) (h3 : fc τ = .ok c) : eLst (aCons fa (aCons fb (aCons fc aNil))) τ = .ok (.lst [a, b, c]) := by
  rw [eLst_ap, aCons_ap, h1, Rs.bind_ok, aCons_ap, h2, Rs.bind_ok, aCons_ap, h3, Rs.bind_ok, aNil_ap, Rs.bind_ok, Rs.bind_ok, Rs.bind_ok, Rs.bind_ok]
  exact if_pos (by rw [sizeLine_v]; show 3 ≤ _; omega)
theorem lst2e {fa fb : FE} {τ : DS} {a b : D} (h1 : fa τ = .ok a) (h2 : fb τ = .ok b) : eLst (aCons fa (aCons fb aNil)) τ = .ok (.lst [a, b]) := by
  rw [eLst_ap, aCons_ap, h1, Rs.bind_ok, aCons_ap, h2, Rs.bind_ok, aNil_ap, Rs.bind_ok, Rs.bind_ok, Rs.bind_ok]
  exact if_pos (by rw [sizeLine_v]; show 2 ≤ _; omega)
end Law
set_option Elab.async false
set_option linter.all false
set_option maxHeartbeats 1000000
namespace Law
open PySem PySem.Spec PyProof.Rows L2 FD
abbrev Run := Nat × Nat
def Ris (P : List Nat) : Prop := P.Pairwise (· < ·)
def mrg (r : Run) : List Run → List Run
  | [] => [r]
  | s :: t => if r.1 + r.2 = s.1 then (r.1, r.2 + s.2) :: t else r :: s :: t
def runR : List Nat → List Run
  | [] => []
  | p :: P => mrg (p, 1) (runR P)
def stepR (found : List Run) (p : Nat) : List Run := match found.getLast? with
  | some (s, l) => if p = s + l then found.dropLast ++ [(s, l + 1)] else found ++ [(p, 1)]
  | none => found ++ [(p, 1)]
theorem step_last (acc : List Run) (s l p : Nat) : stepR (acc ++ [(s, l)]) p = if p = s + l then acc ++ [(s, l + 1)] else acc ++ [(s, l)] ++ [(p, 1)] := by
  unfold stepR
  rw [List.getLast?_concat, List.dropLast_concat]
theorem mrg_mrg (s l : Nat) (t : List Run) : mrg (s, l) (mrg (s + l, 1) t) = mrg (s, l + 1) t := by
  cases t with
  | nil => simp [mrg]
  | cons u t =>
    simp only [mrg]
    by_cases h : s + l + 1 = u.1
    · rw [if_pos h, if_pos (show s + (l + 1) = u.1 by omega)]
      simp only [if_pos]
      rw [show l + (1 + u.2) = l + 1 + u.2 by omega]
    · rw [if_neg h, if_neg (show ¬ s + (l + 1) = u.1 by omega)]
      simp
theorem fold_run : ∀ (P : List Nat) (acc : List Run) (s l : Nat), P.foldl stepR (acc ++ [(s, l)]) = acc ++ mrg (s, l) (runR P)
  | [], acc, s, l => by simp [runR, mrg]
  | p :: P, acc, s, l => by
    rw [List.foldl_cons, step_last]
    by_cases h : p = s + l
    · subst h
      rw [if_pos rfl, fold_run P acc s (l + 1), runR, mrg_mrg]
    · rw [if_neg h, fold_run P (acc ++ [(s, l)]) p 1, runR]
      have : mrg (s, l) (mrg (p, 1) (runR P)) = (s, l) :: mrg (p, 1) (runR P) := by
        cases e : runR P with
        | nil => simp only [mrg]; rw [if_neg (fun z => h z.symm)]
        | cons u t =>
          by_cases z : p + 1 = u.1
          · simp only [mrg, if_pos z]; rw [if_neg (fun z => h z.symm)]
          · simp only [mrg, if_neg z]; rw [if_neg (fun z => h z.symm)]
      rw [this, List.append_assoc]; rfl
theorem runs_fold (P : List Nat) : P.foldl stepR [] = runR P := by
  cases P with
  | nil => rfl
  | cons p P => exact fold_run P [] p 1
def isS (P : List Nat) (p : Nat) : Bool := !P.any fun r => r + 1 == p
def isE (P : List Nat) (p : Nat) : Bool := !P.any fun r => r == p + 1
def stL (P : List Nat) : List Nat := P.filter (isS P)
def enL (P : List Nat) : List Nat := P.filter (isE P)
theorem isS_cons (p q : Nat) (P : List Nat) : isS (p :: P) q = (!(p + 1 == q) && isS P q) := by simp [isS]
theorem isE_cons (p q : Nat) (P : List Nat) : isE (p :: P) q = (!(p == q + 1) && isE P q) := by simp [isE]
theorem isS_low (P : List Nat) (p : Nat) (h : ∀ q ∈ P, p < q) : isS P p = true := by
  simp only [isS, Bool.not_eq_true', List.any_eq_false, beq_iff_eq]
  intro r hr
  have := h r hr; omega
theorem en_cons (p : Nat) (P : List Nat) (h : ∀ q ∈ P, p < q) : enL (p :: P) = if isE P p = true then p :: enL P else enL P := by
  unfold enL
  have e : P.filter (isE (p :: P)) = P.filter (isE P) := by
    apply List.filter_congr
    intro q hq
    have := h q hq
    rw [isE_cons]
    have : (p == q + 1) = false := by simp; omega
    rw [this]; rfl
  rw [List.filter_cons, e, isE_cons]
  have : (p == p + 1) = false := by simp
  rw [this]
  simp only [Bool.not_false, Bool.true_and]
theorem st_cons (p : Nat) (P : List Nat) (h : ∀ q ∈ P, p < q) : stL (p :: P) = p :: P.filter (fun q => !(p + 1 == q) && isS P q) := by
  unfold stL
  rw [List.filter_cons, isS_cons, isS_low P p h]
  have : (p + 1 == p) = false := by simp
  rw [this]
  simp only [Bool.not_false, Bool.true_and, if_true]
  congr 1
  apply List.filter_congr
  intro q _
  exact isS_cons p q P
def Ok2 : Nat → Nat → List Run → Prop
  | _, _, [] => True
  | b, n, r :: t => b ≤ r.1 ∧ 1 ≤ r.2 ∧ r.1 + r.2 ≤ n ∧ Ok2 (r.1 + r.2 + 1) n t
theorem Ok2.mono {b c n : Nat} (h : b ≤ c) : ∀ {rs : List Run}, Ok2 c n rs → Ok2 b n rs
  | [], _ => trivial
  | r :: t, ⟨h1, h2, h3, h4⟩ => ⟨by omega, h2, h3, h4⟩
theorem run_ok (n : Nat) : ∀ (P : List Nat), Ris P → (∀ q ∈ P, q < n) → ∀ b, (∀ q ∈ P, b ≤ q) → Ok2 b n (runR P)
  | [], _, _, _, _ => trivial
  | p :: P, h, hn, b, hb => by
    obtain ⟨h1, h2⟩ := List.pairwise_cons.mp h
    have ih := run_ok n P h2 (fun q hq => hn q (List.mem_cons_of_mem _ hq)) (p + 1) (fun q hq => h1 q hq)
    have hp := hn p (List.mem_cons_self ..)
    have hbp := hb p (List.mem_cons_self ..)
    show Ok2 b n (mrg (p, 1) (runR P))
    cases e : runR P with
    | nil => exact ⟨hbp, Nat.le_refl _, by simp only []; omega, trivial⟩
    | cons u t =>
      rw [e] at ih
      obtain ⟨i1, i2, i3, i4⟩ := ih
      simp only [mrg]
      split
      · rename_i z
        exact ⟨hbp, by show 1 ≤ 1 + u.2; omega, by show p + (1 + u.2) ≤ n; omega, Ok2.mono (by show p + (1 + u.2) + 1 ≤ _; omega) i4⟩
      · rename_i z
        exact ⟨hbp, Nat.le_refl _, by show p + 1 ≤ n; omega, by show p + 1 + 1 ≤ u.1; omega, i2, i3, i4⟩
theorem due_run : ∀ (P : List Nat), Ris P → stL P = (runR P).map (·.1) ∧ enL P = (runR P).map fun r => r.1 + r.2 - 1
  | [], _ => ⟨rfl, rfl⟩
  | p :: P, h => by
    obtain ⟨h1, h2⟩ := List.pairwise_cons.mp h
    obtain ⟨i1, i2⟩ := due_run P h2
    have ok := run_ok (P.foldl (· + ·) 0 + 1 + p + 1 + (P.foldl max 0)) P h2 (fun q hq => by
      have : ∀ (P : List Nat) (m : Nat), m ≤ P.foldl max m ∧ ∀ q ∈ P, q ≤ P.foldl max m := fun P => by
        induction P with
        | nil => exact fun m => ⟨Nat.le_refl _, fun q hq => by cases hq⟩
        | cons a P ih =>
          intro m
          obtain ⟨j1, j2⟩ := ih (max m a)
          refine ⟨Nat.le_trans (Nat.le_max_left _ _) j1, fun q hq => ?_⟩
          rcases List.mem_cons.mp hq with rfl | hq
          · exact Nat.le_trans (Nat.le_max_right _ _) j1
          · exact j2 q hq
      have := (this P 0).2 q hq
      omega) (p + 1) (fun q hq => h1 q hq)
    rw [st_cons p P h1, en_cons p P h1]
    show _ = (mrg (p, 1) (runR P)).map _ ∧ _ = (mrg (p, 1) (runR P)).map _
    have hS : P.filter (fun q => !(p + 1 == q) && isS P q) = (stL P).filter (fun q => !(p + 1 == q)) := by
      unfold stL
      rw [List.filter_filter]
    rw [hS, i1]
    cases e : runR P with
    | nil =>
      have hP : P = [] := by
        cases P with
        | nil => rfl
        | cons a P =>
          exfalso
          have : runR (a :: P) ≠ [] := by
            show mrg (a, 1) (runR P) ≠ []
            cases runR P <;> simp only [mrg] <;> (try split) <;> simp
          exact this e
      subst hP
      simp [mrg, isE, enL]
    | cons u t =>
      rw [e] at ok i1 i2
      obtain ⟨o1, o2, o3, o4⟩ := ok
      have low : ∀ (b : Nat) (t : List Run) (n : Nat), Ok2 b n t → ∀ q ∈ t.map (·.1), b ≤ q := fun b t => by
        induction t generalizing b with
        | nil => exact fun n _ q hq => by cases hq
        | cons v t ih =>
          rintro n ⟨z1, z2, z3, z4⟩ q hq
          rcases List.mem_cons.mp hq with rfl | hq
          · exact z1
          · have := ih (v.1 + v.2 + 1) n z4 q hq
            omega
      have ht : (t.map (·.1)).filter (fun q => !(p + 1 == q)) = t.map (·.1) := by
        rw [List.filter_eq_self]
        intro q hq
        have := low _ t _ o4 q hq
        simp; omega
      have mem1 : isE P p = !(p + 1 == u.1) := by
        have hu : u.1 ∈ P := by
          have : u.1 ∈ stL P := by rw [i1]; exact List.mem_cons_self ..
          exact (List.mem_filter.mp this).1
        unfold isE
        congr 1
        rw [Bool.eq_iff_iff]
        simp only [List.any_eq_true, beq_iff_eq]
        constructor
        · rintro ⟨r, hr, hrp⟩
          subst hrp
          have : (p + 1) ∈ stL P := by
            refine List.mem_filter.mpr ⟨hr, ?_⟩
            simp only [isS, Bool.not_eq_true', List.any_eq_false, beq_iff_eq]
            intro z hz
            have := h1 z hz; omega
          rw [i1] at this
          rcases List.mem_cons.mp this with z | z
          · exact z
          · have := low _ t _ o4 _ z
            omega
        · intro z
          exact ⟨u.1, hu, z.symm⟩
      rw [List.map_cons, List.filter_cons, ht, mem1, i2]
      simp only [mrg]
      by_cases z : p + 1 = u.1
      · have zb : (p + 1 == u.1) = true := by simpa using z
        rw [zb, if_pos z]
        simp only [Bool.not_true, Bool.false_eq_true, if_false, List.map_cons]
        refine ⟨trivial, ?_⟩
        congr 1
        omega
      · have zb : (p + 1 == u.1) = false := by simpa using z
        rw [zb, if_neg z]
        simp only [Bool.not_false, if_true, List.map_cons]
        refine ⟨trivial, ?_⟩
        congr 1
def mkT (S E : Nat → Bool) (x : List Nat) (a m : Nat) : List Nat := (List.range' a m).flatMap fun k => (if S k = true then [91] else []) ++ ([x.getD k 0] ++ if E k = true then [93] else [])
theorem mkT_app (S E : Nat → Bool) (x : List Nat) (a m k : Nat) : mkT S E x a (m + k) = mkT S E x a m ++ mkT S E x (a + m) k := by
  unfold mkT
  rw [← List.range'_append_1, List.flatMap_append]
theorem mkT_one (S E : Nat → Bool) (x : List Nat) (a m : Nat) : mkT S E x a (m + 1) = ((if S a = true then [91] else []) ++ ([x.getD a 0] ++ if E a = true then [93] else [])) ++ mkT S E x (a + 1) m := by
  unfold mkT
  rw [List.range'_succ, List.flatMap_cons]
theorem take_one (x : List Nat) (a m : Nat) (h : a < x.length) : (x.drop a).take (m + 1) = x.getD a 0 :: (x.drop (a + 1)).take m := by
  rw [List.drop_eq_getElem_cons h, List.take_succ_cons, List.getD_eq_getElem?_getD, List.getElem?_eq_getElem h]; rfl
theorem mkT_plain (S E : Nat → Bool) (x : List Nat) : ∀ (m a : Nat), a + m ≤ x.length → (∀ k, a ≤ k → k < a + m → S k = false ∧ E k = false) → mkT S E x a m = (x.drop a).take m
  | 0, a, _, _ => by simp [mkT]
  | m + 1, a, hl, h => by
    obtain ⟨h1, h2⟩ := h a (Nat.le_refl _) (by omega)
    rw [mkT_one, mkT_plain S E x m (a + 1) (by omega) (fun k z1 z2 => h k (by omega) (by omega)), take_one x a m (by omega), h1, h2]; rfl
theorem mkT_close (S E : Nat → Bool) (x : List Nat) : ∀ (m a : Nat), a + (m + 1) ≤ x.length → (∀ k, a ≤ k → k < a + (m + 1) → S k = false ∧ E k = decide (k = a + m)) → mkT S E x a (m + 1) = (x.drop a).take (m + 1) ++ [93]
  | 0, a, hl, h => by
    obtain ⟨h1, h2⟩ := h a (Nat.le_refl _) (by omega)
    rw [mkT_one, take_one x a 0 (by omega), h1, h2]
    simp [mkT]
  | m + 1, a, hl, h => by
    obtain ⟨h1, h2⟩ := h a (Nat.le_refl _) (by omega)
    rw [mkT_one, mkT_close S E x m (a + 1) (by omega) (fun k z1 z2 => by
      obtain ⟨y1, y2⟩ := h k (by omega) (by omega)
      exact ⟨y1, by rw [y2]; congr 1; rw [eq_iff_iff]; omega⟩), take_one x a (m + 1) (by omega), h1, h2, decide_eq_false (by omega)]
    rfl
theorem mkT_run (S E : Nat → Bool) (x : List Nat) (m a : Nat) (hl : a + (m + 1) ≤ x.length) (h : ∀ k, a ≤ k → k < a + (m + 1) → S k = decide (k = a) ∧ E k = decide (k = a + m)) : mkT S E x a (m + 1) = [91] ++ (x.drop a).take (m + 1) ++ [93] := by
  obtain ⟨h1, h2⟩ := h a (Nat.le_refl _) (by omega)
  rw [mkT_one, h1, h2, decide_eq_true rfl]
  cases m with
  | zero => rw [take_one x a 0 (by omega)]; simp [mkT]
  | succ m =>
    rw [mkT_close S E x m (a + 1) (by omega) (fun k z1 z2 => by
      obtain ⟨y1, y2⟩ := h k (by omega) (by omega)
      exact ⟨by rw [y1]; simp; omega, by rw [y2]; congr 1; rw [eq_iff_iff]; omega⟩), take_one x a (m + 1) (by omega), decide_eq_false (by omega)]
    rfl
def shR (x : List Nat) : Nat → List Run → List Nat
  | b, [] => x.drop b
  | b, r :: t => (x.drop b).take (r.1 - b) ++ [91] ++ (x.drop r.1).take r.2 ++ [93] ++ shR x (r.1 + r.2) t
theorem sh_mk (x : List Nat) (S E : Nat → Bool) : ∀ (rs : List Run) (b : Nat), b ≤ x.length → Ok2 b x.length rs → (∀ k, b ≤ k → S k = (rs.map (·.1)).contains k ∧ E k = (rs.map fun r => r.1 + r.2 - 1).contains k) → mkT S E x b (x.length - b) = shR x b rs
  | [], b, hb, _, h => by
    rw [mkT_plain S E x _ b (by omega) (fun k z1 _ => by
      obtain ⟨y1, y2⟩ := h k z1
      exact ⟨by rw [y1]; rfl, by rw [y2]; rfl⟩)]
    show _ = x.drop b
    rw [List.take_of_length_le (by simp)]
  | r :: t, b, hb, ⟨o1, o2, o3, o4⟩, h => by
    have low : ∀ (t : List Run) (c : Nat), Ok2 c x.length t → (∀ k, k < c → (t.map (·.1)).contains k = false ∧ (t.map fun r => r.1 + r.2 - 1).contains k = false) := fun t => by
      induction t with
      | nil => exact fun _ _ _ _ => ⟨rfl, rfl⟩
      | cons v t ih =>
        rintro c ⟨z1, z2, z3, z4⟩ k hk
        obtain ⟨y1, y2⟩ := ih _ z4 k (by omega)
        refine ⟨?_, ?_⟩
        · rw [List.map_cons, List.contains_cons, y1]; simp; omega
        · rw [List.map_cons, List.contains_cons, y2]; simp; omega
    have hk : ∀ k, b ≤ k → S k = (decide (k = r.1) || (t.map (·.1)).contains k) ∧ E k = (decide (k = r.1 + r.2 - 1) || (t.map fun r => r.1 + r.2 - 1).contains k) := fun k z => by
      obtain ⟨y1, y2⟩ := h k z
      refine ⟨?_, ?_⟩
      · rw [y1, List.map_cons, List.contains_cons]; congr 1
      · rw [y2, List.map_cons, List.contains_cons]; congr 1
    obtain ⟨m, hm⟩ : ∃ m, r.2 = m + 1 := ⟨r.2 - 1, by omega⟩
    have e : x.length - b = (r.1 - b) + (r.2 + (x.length - (r.1 + r.2))) := by omega
    rw [e, mkT_app, show b + (r.1 - b) = r.1 by omega, mkT_app]
    rw [mkT_plain S E x (r.1 - b) b (by omega) (fun k z1 z2 => by
      obtain ⟨y1, y2⟩ := hk k z1
      obtain ⟨l1, l2⟩ := low t _ o4 k (by omega)
      refine ⟨by rw [y1, l1]; simp; omega, by rw [y2, l2]; simp; omega⟩)]
    rw [hm, mkT_run S E x m r.1 (by omega) (fun k z1 z2 => by
      obtain ⟨y1, y2⟩ := hk k (by omega)
      obtain ⟨l1, l2⟩ := low t _ o4 k (by omega)
      refine ⟨by rw [y1, l1, Bool.or_false], by rw [y2, l2, Bool.or_false]; congr 1; rw [eq_iff_iff]; omega⟩)]
    rw [← hm, sh_mk x S E t (r.1 + r.2) (by omega) (Ok2.mono (by omega) o4) (fun k z => by
      obtain ⟨y1, y2⟩ := hk k (by omega)
      refine ⟨by rw [y1, decide_eq_false (by omega), Bool.false_or], by rw [y2, decide_eq_false (by omega), Bool.false_or]⟩)]
    show _ = (x.drop b).take (r.1 - b) ++ [91] ++ (x.drop r.1).take r.2 ++ [93] ++ shR x (r.1 + r.2) t
    simp only [List.append_assoc]
end Law
set_option Elab.async false
set_option linter.all false
set_option maxHeartbeats 1000000
namespace Law
open PySem PySem.Spec PyProof.Rows L2 FD
abbrev isB (c : Nat) : Bool := c == 91 || c == 93
def fl : Bool → List Nat → List (Nat × Bool)
  | _, [] => []
  | w, c :: t => if isB c = true then fl (c == 91) t else (c, w) :: fl w t
def idx : Nat → List (Nat × Bool) → List Nat
  | _, [] => []
  | n, p :: r => if p.2 = true then n :: idx (n + 1) r else idx (n + 1) r
def cn : Bool → List (Nat × Bool) → List Nat
  | w, [] => if w = true then [93] else []
  | w, p :: r => (if w = true ∧ p.2 = false then [93] else if w = false ∧ p.2 = true then [91] else []) ++ p.1 :: cn p.2 r
def fm : Option Nat → Bool → List Nat → Bool
  | _, w, [] => !w
  | p, w, c :: t => if c = 91 then !w && !(p == some 91) && !(p == some 93) && fm (some 91) true t
    else if c = 93 then w && !(p == some 91) && fm (some 93) false t
    else fm (some c) w t
theorem fl_b91 (w : Bool) (t : List Nat) : fl w (91 :: t) = fl true t := rfl
theorem fl_b93 (w : Bool) (t : List Nat) : fl w (93 :: t) = fl false t := rfl
theorem fl_s {c : Nat} (h : isB c = false) (w : Bool) (t : List Nat) : fl w (c :: t) = (c, w) :: fl w t := by
  show (if isB c = true then _ else _) = _
  rw [h]; rfl
theorem isB_ne {c : Nat} (h1 : c ≠ 91) (h2 : c ≠ 93) : isB c = false := by simp [isB, h1, h2]
theorem cn_same (c : Nat) (w : Bool) (r : List (Nat × Bool)) : cn w ((c, w) :: r) = c :: cn w r := by cases w <;> rfl
def brk (p : Option Nat) : Bool := p == some 91 || p == some 93
theorem fm_cn : ∀ (t : List Nat) (p : Option Nat) (w : Bool), (p = some 91 → w = true) → (p = some 93 → w = false) → fm p w t = true →
    (brk p = true → (t = [] ∧ w = false) ∨ ∃ c t', t = c :: t' ∧ isB c = false ∧ t' = cn w (fl w t')) ∧ (brk p = false → t = cn w (fl w t)) := fun t => by
  induction t with
  | nil =>
    intro p w _ _ h
    have hw : w = false := by simpa [fm] using h
    subst hw
    exact ⟨fun _ => .inl ⟨rfl, rfl⟩, fun _ => rfl⟩
  | cons c t ih =>
    intro p w h1 h3 h
    unfold fm at h
    by_cases e1 : c = 91
    · subst e1
      simp only [if_true, Bool.and_eq_true, Bool.not_eq_true'] at h
      obtain ⟨⟨⟨a, b⟩, c⟩, d⟩ := h
      subst a
      have nb : brk p = false := by unfold brk; rw [b, c]; rfl
      obtain ⟨i1, _⟩ := ih (some 91) true (fun _ => rfl) (fun z => by cases z) d
      refine ⟨fun z => absurd z (by rw [nb]; simp), fun _ => ?_⟩
      rcases i1 rfl with ⟨_, z⟩ | ⟨c, t', rfl, hc, ht⟩
      · cases z
      · rw [fl_b91, fl_s hc]
        show _ = [91] ++ c :: cn true (fl true t')
        rw [← ht]; rfl
    · rw [if_neg e1] at h
      by_cases e2 : c = 93
      · subst e2
        simp only [if_true, Bool.and_eq_true, Bool.not_eq_true'] at h
        obtain ⟨⟨a, b⟩, d⟩ := h
        subst a
        have np : p ≠ some 93 := fun z => by have := h3 z; cases this
        have nb : brk p = false := by
          unfold brk
          rw [b]
          simpa using np
        obtain ⟨i1, _⟩ := ih (some 93) false (fun z => by cases z) (fun _ => rfl) d
        refine ⟨fun z => absurd z (by rw [nb]; simp), fun _ => ?_⟩
        rcases i1 rfl with ⟨rfl, _⟩ | ⟨c, t', rfl, hc, ht⟩
        · rfl
        · rw [fl_b93, fl_s hc]
          show _ = [93] ++ c :: cn false (fl false t')
          rw [← ht]; rfl
      · rw [if_neg e2] at h
        have hc := isB_ne e1 e2
        obtain ⟨_, i2⟩ := ih (some c) w (fun z => absurd (Option.some.inj z) e1) (fun z => absurd (Option.some.inj z) e2) h
        have i2 := i2 (by unfold brk; simp [e1, e2])
        refine ⟨fun _ => .inr ⟨c, t, rfl, hc, i2⟩, fun _ => ?_⟩
        rw [fl_s hc, cn_same, ← i2]
theorem cn_fm : ∀ (r : List (Nat × Bool)) (p : Option Nat) (w : Bool), (∀ q ∈ r, isB q.1 = false) → brk p = false → fm p w (cn w r) = true := fun r => by
  induction r with
  | nil =>
    intro p w _ hp
    unfold brk at hp
    rw [Bool.or_eq_false_iff] at hp
    cases w with
    | false => rfl
    | true =>
      show (if (93 : Nat) = 91 then _ else if (93 : Nat) = 93 then true && !(p == some 91) && fm (some 93) false [] else _) = true
      rw [if_neg (by decide), if_pos rfl, hp.1]; rfl
  | cons q r ih =>
    intro p w hr hp
    obtain ⟨c, f⟩ := q
    have hc : isB c = false := hr (c, f) List.mem_cons_self
    have hc' : c ≠ 91 ∧ c ≠ 93 := by simpa [isB] using hc
    have i := ih (some c) f (fun q hq => hr q (List.mem_cons_of_mem _ hq)) (by unfold brk; simp [hc'])
    have s : ∀ (p : Option Nat), fm p f (c :: cn f r) = true := fun p => by
      unfold fm
      rw [if_neg hc'.1, if_neg hc'.2]; exact i
    unfold brk at hp
    rw [Bool.or_eq_false_iff] at hp
    cases w with
    | false =>
      cases f with
      | false => exact s p
      | true =>
        show fm p false (91 :: c :: cn true r) = true
        unfold fm
        rw [if_pos rfl, hp.1, hp.2, s (some 91)]; rfl
    | true =>
      cases f with
      | true => exact s p
      | false =>
        show fm p true (93 :: c :: cn false r) = true
        unfold fm
        rw [if_neg (by decide), if_pos rfl, hp.1, s (some 93)]; rfl
theorem fl_signs : ∀ (t : List Nat) (w : Bool), ∀ q ∈ fl w t, isB q.1 = false := fun t => by
  induction t with
  | nil => intro w q hq; cases hq
  | cons c t ih =>
    intro w q hq
    cases h : isB c with
    | true => unfold fl at hq; rw [h, if_pos rfl] at hq; exact ih _ q hq
    | false =>
      rw [fl_s h] at hq
      rcases List.mem_cons.mp hq with rfl | hq
      · exact h
      · exact ih _ q hq
theorem fm_iff (t : List Nat) : fm none false t = true ↔ t = cn false (fl false t) := by
  constructor
  · intro h
    exact (fm_cn t none false (fun z => by cases z) (fun z => by cases z) h).2 rfl
  · intro h
    rw [h]
    exact cn_fm _ none false (fl_signs t false) rfl
theorem fl_cn : ∀ (r : List (Nat × Bool)) (w : Bool), (∀ q ∈ r, isB q.1 = false) → fl w (cn w r) = r := fun r => by
  induction r with
  | nil => intro w _; cases w <;> rfl
  | cons q r ih =>
    intro w hr
    obtain ⟨c, f⟩ := q
    have hc : isB c = false := hr (c, f) List.mem_cons_self
    have i := fun w => ih w (fun q hq => hr q (List.mem_cons_of_mem _ hq))
    cases w with
    | false =>
      cases f with
      | false => rw [cn_same, fl_s hc, i]
      | true =>
        show fl false (91 :: c :: cn true r) = _
        rw [fl_b91, fl_s hc, i]
    | true =>
      cases f with
      | true => rw [cn_same, fl_s hc, i]
      | false =>
        show fl true (93 :: c :: cn false r) = _
        rw [fl_b93, fl_s hc, i]
theorem idx_low : ∀ (r : List (Nat × Bool)) (n : Nat), ∀ k ∈ idx n r, n ≤ k ∧ k < n + r.length := fun r => by
  induction r with
  | nil => intro n k hk; cases hk
  | cons q r ih =>
    intro n k hk
    unfold idx at hk
    split at hk
    · rcases List.mem_cons.mp hk with rfl | hk
      · exact ⟨Nat.le_refl _, by simp⟩
      · have := ih (n + 1) k hk; simp; omega
    · have := ih (n + 1) k hk; simp; omega
theorem idx_ris : ∀ (r : List (Nat × Bool)) (n : Nat), Ris (idx n r) := fun r => by
  induction r with
  | nil => intro n; exact List.Pairwise.nil
  | cons q r ih =>
    intro n
    unfold idx
    split
    · exact List.pairwise_cons.mpr ⟨fun k hk => by have := idx_low r (n + 1) k hk; omega, ih (n + 1)⟩
    · exact ih (n + 1)
def flag (r : List (Nat × Bool)) (k : Nat) : Bool := (r.getD k (0, false)).2
theorem idx_mem : ∀ (r : List (Nat × Bool)) (n k : Nat), k ∈ idx n r ↔ n ≤ k ∧ flag r (k - n) = true := fun r => by
  induction r with
  | nil => intro n k; simp [idx, flag]
  | cons q r ih =>
    intro n k
    have hs : ∀ k, n + 1 ≤ k → flag (q :: r) (k - n) = flag r (k - (n + 1)) := fun k hk => by
      rw [show k - n = (k - (n + 1)) + 1 by omega]; rfl
    unfold idx
    split
    · rename_i h
      rw [List.mem_cons, ih]
      constructor
      · rintro (rfl | ⟨a, b⟩)
        · exact ⟨Nat.le_refl _, by rw [Nat.sub_self]; exact h⟩
        · exact ⟨by omega, by rw [hs k a]; exact b⟩
      · rintro ⟨a, b⟩
        by_cases z : k = n
        · exact .inl z
        · exact .inr ⟨by omega, by rw [← hs k (by omega)]; exact b⟩
    · rename_i h
      rw [ih]
      constructor
      · rintro ⟨a, b⟩
        exact ⟨by omega, by rw [hs k a]; exact b⟩
      · rintro ⟨a, b⟩
        by_cases z : k = n
        · subst z; rw [Nat.sub_self] at b; exact absurd b h
        · exact ⟨by omega, by rw [← hs k (by omega)]; exact b⟩
def hd (r : List (Nat × Bool)) : Bool := flag r 0
def mk : Bool → List (Nat × Bool) → List Nat
  | _, [] => []
  | w, q :: r => (if w = false ∧ q.2 = true then [91] else []) ++ ([q.1] ++ ((if q.2 = true ∧ hd r = false then [93] else []) ++ mk q.2 r))
theorem cn_mk : ∀ (r : List (Nat × Bool)) (w : Bool), cn w r = (if w = true ∧ hd r = false then [93] else []) ++ mk w r := fun r => by
  induction r with
  | nil => intro w; cases w <;> rfl
  | cons q r ih =>
    intro w
    obtain ⟨c, f⟩ := q
    show _ ++ c :: cn f r = _ ++ (_ ++ ([c] ++ (_ ++ mk f r)))
    rw [ih f]
    have e : hd ((c, f) :: r) = f := rfl
    rw [e]
    cases w <;> cases f <;> simp
def Sf (r : List (Nat × Bool)) (k : Nat) : Bool := flag r k && !(decide (0 < k) && flag r (k - 1))
def Ef (r : List (Nat × Bool)) (k : Nat) : Bool := flag r k && !flag r (k + 1)
theorem mk_T (r : List (Nat × Bool)) : ∀ (m a : Nat), a + m = r.length → mk (decide (0 < a) && flag r (a - 1)) (r.drop a) = mkT (Sf r) (Ef r) (r.map (·.1)) a m := fun m => by
  induction m with
  | zero =>
    intro a h
    rw [List.drop_eq_nil_of_le (by omega)]; rfl
  | succ m ih =>
    intro a h
    have ha : a < r.length := by omega
    have i := ih (a + 1) (by omega)
    rw [Nat.add_sub_cancel, decide_eq_true (Nat.succ_pos a), Bool.true_and] at i
    have fa : flag r a = (r[a]).2 := by unfold flag; simp [ha]
    have h1 : hd (r.drop (a + 1)) = flag r (a + 1) := by
      unfold hd flag
      rw [List.getD_eq_getElem?_getD, List.getD_eq_getElem?_getD, List.getElem?_drop, Nat.add_zero]
    rw [List.drop_eq_getElem_cons ha, mkT_one]
    show (if _ then _ else _) ++ ([(r[a]).1] ++ ((if (r[a]).2 = true ∧ hd (r.drop (a + 1)) = false then [93] else []) ++ mk (r[a]).2 (r.drop (a + 1)))) = _
    rw [← fa, i, h1]
    have g : (r.map (·.1)).getD a 0 = (r[a]).1 := by simp [ha]
    rw [g]
    unfold Sf Ef
    simp only [Bool.and_eq_true, Bool.not_eq_true', List.append_assoc]
    congr 1
    cases flag r a <;> cases (decide (0 < a) && flag r (a - 1)) <;> simp
theorem sh_cn (r : List (Nat × Bool)) : shR (r.map (·.1)) 0 (runR (idx 0 r)) = cn false r := by
  have hr := idx_ris r 0
  have hl : ∀ q ∈ idx 0 r, q < (r.map (·.1)).length := fun q hq => by have := idx_low r 0 q hq; simp; omega
  obtain ⟨d1, d2⟩ := due_run (idx 0 r) hr
  have mem : ∀ k, (idx 0 r).contains k = flag r k := fun k => by
    rw [Bool.eq_iff_iff, List.contains_iff_mem, idx_mem]
    simp
  have h := sh_mk (r.map (·.1)) (Sf r) (Ef r) (runR (idx 0 r)) 0 (Nat.zero_le _) (run_ok _ _ hr hl 0 fun _ _ => Nat.zero_le _) fun k _ => by
    rw [← d1, ← d2]
    unfold stL enL
    refine ⟨?_, ?_⟩
    · rw [Bool.eq_iff_iff, List.contains_iff_mem, List.mem_filter, ← List.contains_iff_mem, mem]
      unfold Sf isS
      simp only [Bool.and_eq_true, Bool.not_eq_true', List.any_eq_false, beq_iff_eq]
      constructor
      · rintro ⟨a, b⟩
        refine ⟨a, fun z hz e => ?_⟩
        have hz := (idx_mem r 0 z).mp hz
        rw [Nat.sub_zero] at hz
        rw [← e, decide_eq_true (Nat.succ_pos z), Nat.add_sub_cancel, hz.2] at b
        cases b
      · rintro ⟨a, b⟩
        refine ⟨a, ?_⟩
        cases k with
        | zero => rfl
        | succ k =>
          rw [Nat.add_sub_cancel]
          cases e : flag r k with
          | false => simp
          | true => exact absurd rfl (b k ((idx_mem r 0 k).mpr ⟨Nat.zero_le _, by rw [Nat.sub_zero]; exact e⟩))
    · rw [Bool.eq_iff_iff, List.contains_iff_mem, List.mem_filter, ← List.contains_iff_mem, mem]
      unfold Ef isE
      simp only [Bool.and_eq_true, Bool.not_eq_true', List.any_eq_false, beq_iff_eq]
      constructor
      · rintro ⟨a, b⟩
        refine ⟨a, fun z hz e => ?_⟩
        have hz := (idx_mem r 0 z).mp hz
        rw [Nat.sub_zero, e, b] at hz
        cases hz.2
      · rintro ⟨a, b⟩
        refine ⟨a, ?_⟩
        cases e : flag r (k + 1) with
        | false => rfl
        | true => exact absurd rfl (b (k + 1) ((idx_mem r 0 (k + 1)).mpr ⟨Nat.zero_le _, by rw [Nat.sub_zero]; exact e⟩))
  rw [← h, cn_mk]
  have m := mk_T r r.length 0 (by omega)
  rw [List.drop_zero] at m
  have e : (if (false = true ∧ hd r = false) then [93] else ([] : List Nat)) = [] := if_neg (fun z => by cases z.1)
  rw [e, List.nil_append, Nat.sub_zero, List.length_map]
  exact m.symm
end Law
set_option Elab.async false
set_option linter.all false
set_option maxHeartbeats 1000000
namespace Law
open PySem PySem.Spec PyProof.Rows L2 FD
theorem slD_from (x : List Nat) (hx : x.length ≤ 1000) (n : Nat) (h : n ≤ x.length) : slD (tx x) (some (n : Int)) none = .ok (tx (x.drop n)) := by
  simp only [slD]
  rw [if_pos (by rw [mk_len, sizeLine_v]; omega), slice_from x n h]
theorem slD_mid (x : List Nat) (hx : x.length ≤ 1000) (i j : Nat) (h1 : i ≤ j) (h2 : j ≤ x.length) : slD (tx x) (some (i : Int)) (some (j : Int)) = .ok (tx ((x.drop i).take (j - i))) := by
  simp only [slD]
  rw [if_pos (by rw [mk_len, sizeLine_v]; omega), slice_mid x i j h1 h2]
abbrev rnD (r : Run) : D := .tup [.int r.1, .int r.2]
theorem rn_0 (r : Run) : ixD (rnD r) (.int 0) = .ok (.int r.1) := rfl
theorem rn_1 (r : Run) : ixD (rnD r) (.int 1) = .ok (.int r.2) := rfl
theorem own_neg (acc : List Run) (r : Run) : ixO ((acc ++ [r]).map rnD) (.int (-1)) = .ok (rnD r) := by
  have e : ixN ((acc ++ [r]).map rnD).length (-1) = some acc.length := by
    unfold ixN
    rw [if_neg (by omega), if_pos (by simp; omega)]
    congr 1
    simp
    omega
  unfold ixO
  simp only [atI, e, Option.bind_some]
  simp
theorem put_neg (acc : List Run) (r v : Run) (n : Nat) (τ : DS) : putAt n ((acc ++ [r]).map rnD) (rnD v) τ (.int (-1)) = .nx (τ.set n (some (.own ((acc ++ [v]).map rnD)))) := by
  have e : ixN ((acc ++ [r]).map rnD).length (-1) = some acc.length := by
    unfold ixN
    rw [if_neg (by omega), if_pos (by simp; omega)]
    congr 1
    simp
    omega
  unfold FD.putAt
  simp only [e]
  congr 3
  simp
def ruB : FS := (sIf (tAndD (FD.tB (eOp gtD (eLenO 2) (eC (.int 0)))) (FD.tB (eOp eqD (eVar 3) (eOp addD (eOp ixD (eIxO 2 (eNeg (eC (.int 1)))) (eC (.int 0))) (eOp ixD (eIxO 2 (eNeg (eC (.int 1)))) (eC (.int 1))))))) (sPut 2 (eNeg (eC (.int 1))) (eTup (aCons (eOp ixD (eIxO 2 (eNeg (eC (.int 1)))) (eC (.int 0))) (aCons (eOp addD (eOp ixD (eIxO 2 (eNeg (eC (.int 1)))) (eC (.int 1))) (eC (.int 1))) aNil)))) (sApp 2 (eTup (aCons (eVar 3) (aCons (eC (.int 1)) aNil)))))
abbrev Q4 (a0 a1 : D) (found : List Run) (s3 : Option Sl) : DS := [some (.val a0), some (.val a1), some (.own (found.map rnD)), s3]
theorem neg1 (τ : DS) : eNeg (eC (.int 1)) τ = .ok (.int (-1)) := rfl
theorem ixo_ok (a0 a1 : D) (acc : List Run) (r : Run) (s3 : Option Sl) : eIxO 2 (eNeg (eC (.int 1))) (Q4 a0 a1 (acc ++ [r]) s3) = .ok (rnD r) := by
  rw [eIxO_ap]
  show (Rs.ok ((acc ++ [r]).map rnD)).bind _ = _
  rw [Rs.bind_ok, neg1, Rs.bind_ok, own_neg]
theorem ru_step (a0 a1 : D) (found : List Run) (p : Nat) (hf : found.length ≤ 1000) : ruB (Q4 a0 a1 found (some (.val (.int (p : Nat))))) = .nx (Q4 a0 a1 (stepR found p) (some (.val (.int (p : Nat))))) := by
  have hlen : eLenO 2 (Q4 a0 a1 found (some (.val (.int (p : Nat))))) = .ok (.int found.length) := by
    rw [eLenO_ap]
    show (Rs.ok (found.map rnD)).bind _ = _
    rw [Rs.bind_ok, List.length_map]
  have app : sApp 2 (eTup (aCons (eVar 3) (aCons (eC (.int 1)) aNil))) (Q4 a0 a1 found (some (.val (.int (p : Nat))))) = .nx (Q4 a0 a1 (found ++ [(p, 1)]) (some (.val (.int (p : Nat))))) := by
    rw [sApp_ap]
    show Fl.of (Rs.ok (found.map rnD)) _ = _
    rw [Fl.of_ok, tup2 (var_ok rfl) rfl, Fl.of_ok, if_pos (by rw [List.length_map, sizeLine_v]; omega)]
    simp
  unfold ruB
  rcases List.eq_nil_or_concat found with e | ⟨acc, r, e⟩
  · subst e
    have g : tAndD (FD.tB (eOp gtD (eLenO 2) (eC (.int 0)))) (FD.tB (eOp eqD (eVar 3) (eOp addD (eOp ixD (eIxO 2 (eNeg (eC (.int 1)))) (eC (.int 0))) (eOp ixD (eIxO 2 (eNeg (eC (.int 1)))) (eC (.int 1)))))) (Q4 a0 a1 [] (some (.val (.int (p : Nat))))) = .ok false := by
      rw [tAnd_ap, tB_ok (op2 hlen rfl gtD_i), Rs.bind_ok]
      rfl
    rw [sIf_ap, g, Fl.of_ok, if_neg (by simp), app]
    rfl
  · rw [List.concat_eq_append] at e
    subst e
    obtain ⟨s, l⟩ := r
    have ix := ixo_ok a0 a1 acc (s, l) (some (.val (.int (p : Nat))))
    have g : tAndD (FD.tB (eOp gtD (eLenO 2) (eC (.int 0)))) (FD.tB (eOp eqD (eVar 3) (eOp addD (eOp ixD (eIxO 2 (eNeg (eC (.int 1)))) (eC (.int 0))) (eOp ixD (eIxO 2 (eNeg (eC (.int 1)))) (eC (.int 1)))))) (Q4 a0 a1 (acc ++ [(s, l)]) (some (.val (.int (p : Nat))))) = .ok (decide (p = s + l)) := by
      have t1 : FD.tB (eOp gtD (eLenO 2) (eC (.int 0))) (Q4 a0 a1 (acc ++ [(s, l)]) (some (.val (.int (p : Nat))))) = .ok true := by
        rw [tB_ok (op2 hlen rfl gtD_i)]; congr 1; simp
      rw [tAnd_ap, t1, Rs.bind_ok, if_pos rfl]
      refine tB_ok (op2 (var_ok rfl) (op2 (op2 ix rfl (rn_0 _)) (op2 ix rfl (rn_1 _)) addD_i) ?_)
      rw [eqD_i]
      congr 2
      rw [Bool.eq_iff_iff]; simp; omega
    rw [sIf_ap, g, Fl.of_ok, step_last]
    by_cases z : p = s + l
    · rw [decide_eq_true z, if_pos rfl, if_pos z, sPut_ap, tup2 (op2 ix rfl (rn_0 _)) (op2 (op2 ix rfl (rn_1 _)) rfl addD_i), Fl.of_ok]
      show Fl.of (Rs.ok ((acc ++ [(s, l)]).map rnD)) _ = _
      rw [Fl.of_ok, neg1, Fl.of_ok]
      exact put_neg acc (s, l) (s, l + 1) 2 _
    · rw [decide_eq_false z, if_neg (by simp), if_neg z, app]
theorem stepR_len (found : List Run) (p : Nat) : (stepR found p).length ≤ found.length + 1 := by
  unfold stepR
  split
  · split
    · simp
    · simp
  · simp
theorem ru_loop (a0 a1 : D) : ∀ (P : List Nat) (found : List Run) (s3 : Option Sl), found.length + P.length ≤ 1000 → ∃ t3, loopD (gNm 3) ruB (P.map fun (k : Nat) => D.int k) (Q4 a0 a1 found s3) = .nx (Q4 a0 a1 (P.foldl stepR found) t3)
  | [], found, s3, _ => ⟨s3, rfl⟩
  | p :: P, found, s3, h => by
    simp only [List.length_cons] at h
    have h1 := ru_step a0 a1 found p (by omega)
    have hl := stepR_len found p
    obtain ⟨t3, h2⟩ := ru_loop a0 a1 P (stepR found p) (some (.val (.int (p : Nat)))) (by omega)
    refine ⟨t3, ?_⟩
    rw [List.map_cons, loopD, gNm_ap, Fl.of_ok]
    have h1' : ruB ((Q4 a0 a1 found s3).set 3 (some (.val (.int (p : Nat))))) = .nx (Q4 a0 a1 (stepR found p) (some (.val (.int (p : Nat))))) := h1
    rw [h1']
    exact h2
theorem runs_b : b_runs = (sSeq (sIf (tNotD (tTru (eCall m_are_rising_places (aCons (eVar 0) (aCons (eVar 1) aNil))))) sNo sNext) (sSeq (sSetO 2 (fun τ => (aNil τ).bind fun ds => if ds.length ≤ sizeLine then .ok ds else .no)) (sSeq (sFor (iAny (eVar 1)) (gNm 3) ruB) (sRetO 2)))) := by unfold b_runs ruB; rfl
theorem gen_runs (f : List D → Rs D) (ff it : FA) (bd : FS) (A B : D) (L R : List D) (t3 : Option Sl) (hly : f [A, B] = .ok (.bl true)) (hf : ff [some (.val A), some (.val B), none, none] = .ok []) (k : it [some (.val A), some (.val B), some (.own []), none] = .ok L) (l : loopD (gNm 3) bd L [some (.val A), some (.val B), some (.own []), none] = .nx [some (.val A), some (.val B), some (.own R), t3]) :
    runF 4 (sSeq (sIf (tNotD (tTru (eCall f (aCons (eVar 0) (aCons (eVar 1) aNil))))) sNo sNext) (sSeq (sSetO 2 ff) (sSeq (sFor it (gNm 3) bd) (sRetO 2)))) [A, B] = .ok (.lst R) := by
  have st : startD 4 [A, B] = [some (.val A), some (.val B), none, none] := rfl
  rw [runF_ap, st]
  simp only [sSeq_ap, sSetO_ap, sIf_ap, sRetO_ap, ownAt_ap, sNext_ap, sFor_ap, tTru_ap, tNot_ap, eVar_ap, aNil_ap, aCons_ap, eCall_ap, List.getElem?_cons_zero, List.getElem?_cons_succ, List.set_cons_succ, List.set_cons_zero, getV_val, getO_own, Rs.bind_ok, Fl.of_ok, thn_nx, flRes_rt, noEx_ok, truD_bl, Bool.false_eq_true, if_false, Bool.not_true, hly, hf, k, l]
theorem ris_ok (n : Nat) : ∀ (P : List Nat) (b : Nat), Ris P → (∀ q ∈ P, b ≤ q ∧ q < n) → risI n b (toI P) = true := fun P => by
  induction P with
  | nil => intro b _ _; rfl
  | cons p P ih =>
    intro b h hb
    obtain ⟨h1, h2⟩ := List.pairwise_cons.mp h
    have hp := hb p List.mem_cons_self
    have i := ih (p + 1) h2 fun q hq => ⟨h1 q hq, (hb q (List.mem_cons_of_mem _ hq)).2⟩
    show risI n b ((p : Int) :: toI P) = true
    unfold risI
    rw [if_neg (by omega)]
    exact i
theorem runs_ok (x P : List Nat) (hx : x.length ≤ 1000) (hP : P.length ≤ 1000) (h : risI x.length 0 (toI P) = true) : m_runs [tx x, nts P] = .ok (.lst ((runR P).map rnD)) := by
  have hr := rising_ok x (toI P) hx
  rw [h] at hr
  have hr' : m_are_rising_places [tx x, nts P] = .ok (.bl true) := by rw [nts_its]; exact hr
  obtain ⟨t3, l⟩ := ru_loop (tx x) (nts P) P [] none (by simpa using hP)
  rw [runs_fold] at l
  unfold m_runs
  rw [runs_b]
  exact gen_runs _ _ _ _ _ _ _ _ _ hr' (by rw [aNil_ap, Rs.bind_ok]; exact if_pos (Nat.zero_le _)) rfl l
def shB : FS := (sSeq (sAug 2 strOp0 (eOp addD (eOp addD (eOp addD (eSl (eVar 0) (oSome (eVar 3)) (oSome (eVar 4))) (eC (.str "["))) (eSl (eVar 0) (oSome (eVar 4)) (oSome (eOp addD (eVar 4) (eVar 5))))) (eC (.str "]")))) (sSet 3 (eOp addD (eVar 4) (eVar 5))))
theorem br : ("[" : Str) = ⟨([91] : List Nat).toArray⟩ ∧ ("]" : Str) = ⟨([93] : List Nat).toArray⟩ ∧ ("" : Str) = ⟨([] : List Nat).toArray⟩ := by decide +kernel
abbrev Q6 (x : List Nat) (a1 : D) (t : List Nat) (b : Nat) (s4 s5 : Option Sl) : DS := [some (.val (tx x)), some (.val a1), some (.val (tx t)), some (.val (.int (b : Nat))), s4, s5]
theorem strOp_ok (a b : List Nat) (h : a.length + b.length ≤ 10000) : strOp0 (tx a) (tx b) = .ok (tx (a ++ b)) := by
  show (if _ then _ else _) = _
  rw [if_pos (by rw [mk_len, mk_len, sizeLine_v]; omega), str_cat]
theorem addT (a b : List Nat) (h : a.length + b.length ≤ 10000) : addD (tx a) (tx b) = .ok (tx (a ++ b)) := strOp_ok a b h
theorem sh_step (x : List Nat) (a1 : D) (t : List Nat) (b : Nat) (r : Run) (hx : x.length ≤ 100) (ht : t.length ≤ 5000) (h1 : b ≤ r.1) (h2 : r.1 + r.2 ≤ x.length) :
    shB (Q6 x a1 t b (some (.val (.int (r.1 : Nat)))) (some (.val (.int (r.2 : Nat))))) = .nx (Q6 x a1 (t ++ ((x.drop b).take (r.1 - b) ++ [91] ++ (x.drop r.1).take r.2 ++ [93])) (r.1 + r.2) (some (.val (.int (r.1 : Nat)))) (some (.val (.int (r.2 : Nat))))) := by
  have m1 := slD_mid x (by omega) b r.1 h1 (by omega)
  have m2 := slD_mid x (by omega) r.1 (r.1 + r.2) (by omega) h2
  rw [Nat.add_sub_cancel_left] at m2
  have l1 : ((x.drop b).take (r.1 - b)).length ≤ 100 := by simp; omega
  have l2 : ((x.drop r.1).take r.2).length ≤ 100 := by simp; omega
  have eB : ∀ τ : DS, eC (.str "[") τ = .ok (tx [91]) := fun τ => by rw [eC_ap, br.1]
  have eE : ∀ τ : DS, eC (.str "]") τ = .ok (tx [93]) := fun τ => by rw [eC_ap, br.2.1]
  have sm : ∀ s : DS, s[4]? = some (some (.val (.int (r.1 : Nat)))) → s[5]? = some (some (.val (.int (r.2 : Nat)))) → eOp addD (eVar 4) (eVar 5) s = .ok (.int ((r.1 + r.2 : Nat) : Int)) := fun s e4 e5 => by
    rw [op2 (var_ok e4) (var_ok e5) addD_i]; rfl
  have val : (eOp addD (eOp addD (eOp addD (eSl (eVar 0) (oSome (eVar 3)) (oSome (eVar 4))) (eC (.str "["))) (eSl (eVar 0) (oSome (eVar 4)) (oSome (eOp addD (eVar 4) (eVar 5))))) (eC (.str "]"))) (Q6 x a1 t b (some (.val (.int (r.1 : Nat)))) (some (.val (.int (r.2 : Nat))))) = .ok (tx ((x.drop b).take (r.1 - b) ++ [91] ++ (x.drop r.1).take r.2 ++ [93])) := by
    refine op2 (op2 (op2 (sl_ok (var_ok rfl) (os_ok (var_ok rfl)) (os_ok (var_ok rfl)) m1) (eB _) (addT _ _ (by simp; omega))) (sl_ok (var_ok rfl) (os_ok (var_ok rfl)) (os_ok (sm _ rfl rfl)) m2) (addT _ _ (by simp; omega))) (eE _) (addT _ _ (by simp; omega))
  unfold shB
  rw [sSeq_ap, sAug_ap, var_ok (d := tx t) rfl, Fl.of_ok, val, Fl.of_ok, strOp_ok _ _ (by simp; omega), Fl.of_ok, thn_nx, sSet_ap]
  simp only [List.set_cons_succ, List.set_cons_zero]
  rw [sm _ rfl rfl, Fl.of_ok]
theorem shR_app (x : List Nat) (a1 : D) (hx : x.length ≤ 24) : ∀ (rs : List Run) (t : List Nat) (b : Nat) (s4 s5 : Option Sl), b ≤ x.length → Ok2 b x.length rs → t.length + 60 * rs.length ≤ 5000 →
    ∃ t' b' u4 u5, b' ≤ x.length ∧ t'.length ≤ 5000 ∧ loopD (gPr 4 5) shB (rs.map rnD) (Q6 x a1 t b s4 s5) = .nx (Q6 x a1 t' b' u4 u5) ∧ t' ++ x.drop b' = t ++ shR x b rs
  | [], t, b, s4, s5, hb, _, hl => ⟨t, b, s4, s5, hb, by simpa using hl, rfl, rfl⟩
  | r :: rs, t, b, s4, s5, hb, ⟨o1, o2, o3, o4⟩, hl => by
    simp only [List.length_cons] at hl
    have h1 := sh_step x a1 t b r (by omega) (by omega) o1 o3
    obtain ⟨t', b', u4, u5, z0, z1, z2, z3⟩ := shR_app x a1 hx rs (t ++ ((x.drop b).take (r.1 - b) ++ [91] ++ (x.drop r.1).take r.2 ++ [93])) (r.1 + r.2) (some (.val (.int (r.1 : Nat)))) (some (.val (.int (r.2 : Nat)))) o3 (Ok2.mono (by omega) o4) (by simp; omega)
    refine ⟨t', b', u4, u5, z0, z1, ?_, ?_⟩
    · rw [List.map_cons, loopD]
      have : gPr 4 5 (rnD r) (Q6 x a1 t b s4 s5) = .ok (Q6 x a1 t b (some (.val (.int (r.1 : Nat)))) (some (.val (.int (r.2 : Nat))))) := rfl
      rw [this, Fl.of_ok, h1]
      exact z2
    · rw [z3]
      show _ = t ++ ((x.drop b).take (r.1 - b) ++ [91] ++ (x.drop r.1).take r.2 ++ [93] ++ shR x (r.1 + r.2) rs)
      simp only [List.append_assoc]
theorem shown_b : b_shown = (sSeq (sSet 2 (eC (.str ""))) (sSeq (sSet 3 (eC (.int 0))) (sSeq (sFor (iAny (eCall m_runs (aCons (eVar 0) (aCons (eVar 1) aNil)))) (gPr 4 5) shB) (sRet (eOp addD (eVar 2) (eSl (eVar 0) (oSome (eVar 3)) oNone)))))) := by unfold b_shown shB; rfl
theorem gen_sh (it : FA) (set : FG) (bd : FS) (e : FE) (A B T T2 N2 R : D) (e2 : FE) (L : List D) (u4 u5 : Option Sl) (h2 : e2 [some (.val A), some (.val B), none, none, none, none] = .ok T) (hg : it [some (.val A), some (.val B), some (.val T), some (.val (.int 0)), none, none] = .ok L)
    (l : loopD set bd L [some (.val A), some (.val B), some (.val T), some (.val (.int 0)), none, none] = .nx [some (.val A), some (.val B), some (.val T2), some (.val N2), u4, u5]) (he : e [some (.val A), some (.val B), some (.val T2), some (.val N2), u4, u5] = .ok R) :
    runF 6 (sSeq (sSet 2 e2) (sSeq (sSet 3 (eC (.int 0))) (sSeq (sFor it set bd) (sRet e)))) [A, B] = .ok R := by
  have st : startD 6 [A, B] = [some (.val A), some (.val B), none, none, none, none] := rfl
  have q1 : sSet 2 e2 [some (.val A), some (.val B), none, none, none, none] = .nx [some (.val A), some (.val B), some (.val T), none, none, none] := by simp only [sSet_ap, List.set_cons_succ, List.set_cons_zero, Fl.of_ok, h2]
  have q2 : sSet 3 (eC (.int 0)) [some (.val A), some (.val B), some (.val T), none, none, none] = .nx [some (.val A), some (.val B), some (.val T), some (.val (.int 0)), none, none] := by simp only [sSet_ap, eC_ap, List.set_cons_succ, List.set_cons_zero, Fl.of_ok]
  rw [runF_ap, st, sSeq_ap, q1, thn_nx, sSeq_ap, q2, thn_nx, sSeq_ap, sFor_ap, hg, Fl.of_ok, l, thn_nx, sRet_ap, he, Fl.of_ok]; rfl
theorem emptyE (τ : DS) : eC (.str "") τ = .ok (tx []) := by rw [eC_ap, br.2.2]
theorem runR_len : ∀ P : List Nat, (runR P).length ≤ P.length
  | [] => Nat.le_refl _
  | p :: P => by
    have := runR_len P
    show (mrg (p, 1) (runR P)).length ≤ _
    cases e : runR P with
    | nil => simp [mrg]
    | cons u t =>
      rw [e] at this
      simp only [mrg]
      split <;> simp at this ⊢ <;> omega
theorem shown_ok (x P : List Nat) (hx : x.length ≤ 24) (hr : Ris P) (hn : ∀ q ∈ P, q < x.length) (hP : P.length ≤ 24) : m_shown [tx x, nts P] = .ok (tx (shR x 0 (runR P))) := by
  have hg := runs_ok x P (by omega) (by omega) (ris_ok x.length P 0 hr fun q hq => ⟨Nat.zero_le _, hn q hq⟩)
  have hl := runR_len P
  obtain ⟨t', b', u4, u5, z0, z1, z2, z3⟩ := shR_app x (nts P) (by omega) (runR P) [] 0 none none (Nat.zero_le _) (run_ok x.length P hr hn 0 fun _ _ => Nat.zero_le _) (by simp; omega)
  unfold m_shown
  rw [shown_b]
  refine gen_sh _ _ _ _ _ _ _ _ _ _ _ _ _ _ (emptyE _) (show iAny _ _ = _ from ?_) z2 ?_
  · rw [iAny_ap, call2 (var_ok rfl) (var_ok rfl) hg]; rfl
  · rw [op2 (var_ok rfl) (sl_ok (var_ok rfl) (os_ok (var_ok rfl)) rfl (slD_from x (by omega) b' z0)) (addT t' (x.drop b') (by simp; omega)), z3]
    rfl
end Law
set_option Elab.async false
set_option linter.all false
set_option maxHeartbeats 1000000
namespace Law
open PySem PySem.Spec PyProof.Rows L2 FD
theorem seq_nx {f g : FS} {τ τ' : DS} (h : f τ = .nx τ') : sSeq f g τ = g τ' := by rw [sSeq_ap, h, thn_nx]
theorem seq_rt {f g : FS} {τ : DS} {d : D} (h : f τ = .rt d) : sSeq f g τ = .rt d := by rw [sSeq_ap, h]; rfl
theorem if_nx {g : FT} {a : FS} {τ : DS} (h : g τ = .ok false) : sIf g a sNext τ = .nx τ := by rw [sIf_ap, h, Fl.of_ok, if_neg (by simp)]; rfl
theorem sif_t {g : FT} {a b : FS} {τ : DS} (h : g τ = .ok true) : sIf g a b τ = a τ := by rw [sIf_ap, h, Fl.of_ok, if_pos rfl]
theorem sif_f {g : FT} {a b : FS} {τ : DS} (h : g τ = .ok false) : sIf g a b τ = b τ := by rw [sIf_ap, h, Fl.of_ok, if_neg (by simp)]
theorem set_nx {i : Nat} {fe : FE} {τ : DS} {d : D} (h : fe τ = .ok d) : sSet i fe τ = .nx (τ.set i (some (.val d))) := by rw [sSet_ap, h, Fl.of_ok]
theorem setO_nx {i : Nat} {ff : FA} {τ : DS} {ds : List D} (h : ff τ = .ok ds) : sSetO i ff τ = .nx (τ.set i (some (.own ds))) := by rw [sSetO_ap, h, Fl.of_ok]
theorem ret_rt {fe : FE} {τ : DS} {d : D} (h : fe τ = .ok d) : sRet fe τ = .rt d := by rw [sRet_ap, h, Fl.of_ok]
theorem or_v {fa fb : FE} {τ : DS} {a b : Bool} (h1 : fa τ = .ok (.bl a)) (h2 : fb τ = .ok (.bl b)) : eOr fa fb τ = .ok (.bl (a || b)) := by
  cases a with
  | true => exact or_l h1
  | false => exact or_r h1 h2
theorem or_b {f g : FT} {τ : DS} {b c : Bool} (h1 : f τ = .ok b) (h2 : b = false → g τ = .ok c) : tOrD f g τ = .ok (b || c) := by
  cases b with
  | true => exact or_tl h1
  | false => exact or_tr h1 (h2 rfl)
def LT : List Nat := ("abcdefghijklmnopqrstuvwxyzABCDEFGHIJKLMNOPQRSTUVWXYZ0123456789_-./" : Str).cps.toList
def A1 : List Nat := ("abcdefghijklmnopqrstuvwxyz" : Str).cps.toList
def A2 : List Nat := ("ABCDEFGHIJKLMNOPQRSTUVWXYZ" : Str).cps.toList
def A3 : List Nat := ("0123456789" : Str).cps.toList
theorem LT_eq : LT = A1 ++ (A2 ++ (A3 ++ MK)) := by decide +kernel
theorem LT_nb : ∀ c ∈ LT, isB c = false := by decide +kernel
theorem in_sg (c : Nat) (s : Str) : inD (signD c) (.str s) = .ok (.bl (decide (c ∈ s.cps.toList))) := by
  show inD (.str ⟨#[c]⟩) (.str s) = _
  rw [inD_s, strIn_one]
theorem qsg_ok (c : Nat) : m_is_query_sign [signD c] = .ok (.bl (decide (c ∈ A1) || (decide (c ∈ A2) || decide (c ∈ A3)))) := by
  have st : startD 1 [signD c] = [some (.val (signD c))] := rfl
  unfold m_is_query_sign b_is_query_sign
  rw [runF_ap, st, ret_rt (or_v (op2 (var_ok rfl) rfl (in_sg c _)) (or_v (op2 (var_ok rfl) rfl (in_sg c _)) (op2 (var_ok rfl) rfl (in_sg c _))))]; rfl
theorem nsg_ok (c : Nat) : m_is_name_sign [signD c] = .ok (.bl (decide (c ∈ LT))) := by
  have st : startD 1 [signD c] = [some (.val (signD c))] := rfl
  unfold m_is_name_sign b_is_name_sign
  rw [runF_ap, st, ret_rt (or_v (call1 (var_ok rfl) (qsg_ok c)) (op2 (var_ok rfl) rfl (in_sg c _))), mk_l]
  show Rs.ok (D.bl _) = _
  congr 2
  rw [LT_eq, Bool.eq_iff_iff]
  simp only [Bool.or_eq_true, decide_eq_true_eq, List.mem_append]
  constructor
  · rintro ((h | h | h) | h)
    · exact .inl h
    · exact .inr (.inl h)
    · exact .inr (.inr (.inl h))
    · exact .inr (.inr (.inr h))
  · rintro (h | h | h | h)
    · exact .inl (.inl h)
    · exact .inl (.inr (.inl h))
    · exact .inl (.inr (.inr h))
    · exact .inr h
def isNm (ys : List Nat) : Bool := decide (1 ≤ ys.length ∧ ys.length ≤ 24) && ys.all fun c => decide (c ∈ LT)
theorem all_bl {fe : FE} {τ : DS} {l : List Bool} (h : fe τ = .ok (.lst (l.map D.bl))) : eBlt allD (aCons fe aNil) τ = .ok (.bl (l.all id)) := by
  refine blt1 h ?_
  show allD [.lst (l.map D.bl)] = _
  simp only [allD, bools_bl]
theorem isname_ok (ys : List Nat) (hy : ys.length ≤ 1000) : m_is_name [tx ys] = .ok (.bl (isNm ys)) := by
  have st : startD 1 [tx ys] = [some (.val (tx ys))] := rfl
  have cm := comp_map (set := gNm 0) (fe := eCall m_is_name_sign (aCons (eVar 0) aNil)) (τ := [none]) signD D.bl (fun c => decide (c ∈ LT)) ys fun a _ => ⟨[some (.val (signD a))], rfl, call1 (var_ok rfl) (nsg_ok a)⟩
  have it : iAny (eVar 0) [some (.val (tx ys))] = .ok (ys.map signD) := by rw [iAny_ap, var_ok (d := tx ys) rfl, Rs.bind_ok, iter_str, tx_signs]
  have ec := comp_ok (k := 1) (idx := []) (τ := [some (.val (tx ys))]) it cm (by simp; omega)
  have hall : eBlt allD (aCons (fun τ => ((eComp 1 [] (iAny (eVar 0)) (gNm 0) (fun _ => .ok true) (eCall m_is_name_sign (aCons (eVar 0) aNil))) τ).bind fun ds => .ok (.lst ds)) aNil) [some (.val (tx ys))] = .ok (.bl ((ys.map fun c => decide (c ∈ LT)).all id)) := all_bl (by simp only [ec, Rs.bind_ok])
  have ln : eBlt lenD (aCons (eVar 0) aNil) [some (.val (tx ys))] = .ok (.int ys.length) := blt1 (var_ok rfl) (tx_len ys hy)
  have t2 : tOrD (FD.tB (eOp ltI (eBlt lenD (aCons (eVar 0) aNil)) (eC (.int 1)))) (FD.tB (eOp gtD (eBlt lenD (aCons (eVar 0) aNil)) (eC (.int 24)))) [some (.val (tx ys))] = .ok (!decide (1 ≤ ys.length ∧ ys.length ≤ 24)) := by
    rw [or_b (tB_ok (op2 ln rfl ltI_i)) fun _ => tB_ok (op2 ln rfl gtD_i)]
    congr 1
    rw [Bool.eq_iff_iff, Bool.or_eq_true, Bool.not_eq_true', decide_eq_true_eq, decide_eq_true_eq, decide_eq_false_iff_not]
    omega
  have t1 : tNotD (tTru (eBlt isiD (aCons (eVar 0) (aCons (eC (.raw (.ty "str"))) aNil)))) [some (.val (tx ys))] = .ok false := rfl
  unfold m_is_name b_is_name isNm
  rw [runF_ap, st, seq_nx (if_nx t1), sSeq_ap, sIf_ap, t2, Fl.of_ok]
  by_cases h : 1 ≤ ys.length ∧ ys.length ≤ 24
  · rw [decide_eq_true h, if_neg (by simp), sNext_ap, thn_nx, sRet_ap, hall]
    simp
  · rw [decide_eq_false h]; rfl
theorem sg91 (c : Nat) : eqD (signD c) (.str "[") = .ok (.bl (c == 91)) := by
  show eqD (.str ⟨#[c]⟩) (.str "[") = _
  rw [br.1, eqD_s]
  congr 2
  rw [Bool.eq_iff_iff]; simp
theorem sg93 (c : Nat) : eqD (signD c) (.str "]") = .ok (.bl (c == 93)) := by
  show eqD (.str ⟨#[c]⟩) (.str "]") = _
  rw [br.2.1, eqD_s]
  congr 2
  rw [Bool.eq_iff_iff]; simp
def rsB : FS := (sIf (tOrD (FD.tB (eOp eqD (eVar 4) (eC (.str "[")))) (FD.tB (eOp eqD (eVar 4) (eC (.str "]"))))) (sSet 3 (eOp eqD (eVar 4) (eC (.str "[")))) (sSeq (sIf (tTru (eVar 3)) (sApp 2 (eBlt lenD (aCons (eVar 1) aNil))) sNext)
      (sAug 1 strOp0 (eVar 4))))
abbrev R5 (t : D) (x P : List Nat) (w : Bool) (s4 : Option Sl) : DS := [some (.val t), some (.val (tx x)), some (.own (P.map fun (k : Nat) => D.int k)), some (.val (.bl w)), s4]
theorem app_nat {τ : DS} {i : Nat} {P : List Nat} {fe : FE} {n : Nat} (h : τ[i]? = some (some (.own (P.map fun (k : Nat) => D.int k)))) (he : fe τ = .ok (.int (n : Int))) (hl : P.length < 1000) : sApp i fe τ = .nx (τ.set i (some (.own ((P ++ [n]).map fun (k : Nat) => D.int k)))) := by
  rw [sApp_ap, h]
  show Fl.of (Rs.ok (P.map fun (k : Nat) => D.int k)) _ = _
  rw [Fl.of_ok, he, Fl.of_ok, if_pos (by rw [List.length_map, sizeLine_v]; omega)]
  simp
theorem rs_step (t : D) (x P : List Nat) (w : Bool) (c : Nat) (hx : x.length ≤ 1000) (hP : P.length < 1000) : rsB (R5 t x P w (some (.val (signD c)))) = .nx (if isB c = true then R5 t x P (c == 91) (some (.val (signD c))) else R5 t (x ++ [c]) (if w = true then P ++ [x.length] else P) w (some (.val (signD c)))) := by
  have g : tOrD (FD.tB (eOp eqD (eVar 4) (eC (.str "[")))) (FD.tB (eOp eqD (eVar 4) (eC (.str "]")))) (R5 t x P w (some (.val (signD c)))) = .ok (isB c) := or_b (tB_ok (op2 (var_ok rfl) rfl (sg91 c))) fun _ => tB_ok (op2 (var_ok rfl) rfl (sg93 c))
  have aug : ∀ P' : List Nat, sAug 1 strOp0 (eVar 4) (R5 t x P' w (some (.val (signD c)))) = .nx (R5 t (x ++ [c]) P' w (some (.val (signD c)))) := fun P' => by
    rw [sAug_ap, var_ok (d := tx x) rfl, Fl.of_ok, var_ok (d := tx [c]) rfl, Fl.of_ok, strOp_ok _ _ (by simp; omega), Fl.of_ok]; rfl
  unfold rsB
  cases h : isB c with
  | true =>
    rw [h] at g
    rw [sif_t g, if_pos rfl, set_nx (op2 (var_ok rfl) rfl (sg91 c))]; rfl
  | false =>
    rw [h] at g
    rw [sif_f g, if_neg (by simp)]
    cases w with
    | false => rw [seq_nx (if_nx (tru_ok (var_ok rfl))), aug]; rfl
    | true =>
      have a : sApp 2 (eBlt lenD (aCons (eVar 1) aNil)) (R5 t x P true (some (.val (signD c)))) = .nx (R5 t x (P ++ [x.length]) true (some (.val (signD c)))) := app_nat rfl (blt1 (var_ok rfl) (tx_len x hx)) hP
      rw [seq_nx (by rw [sif_t (tru_ok (var_ok rfl))]; exact a), aug]; rfl
theorem loop_nx {set : FG} {body : FS} {d : D} {ds : List D} {τ τ1 τ2 : DS} (h1 : set d τ = .ok τ1) (h2 : body τ1 = .nx τ2) : loopD set body (d :: ds) τ = loopD set body ds τ2 := by rw [loopD, h1, Fl.of_ok, h2]
theorem loop_rt {set : FG} {body : FS} {d r : D} {ds : List D} {τ τ1 : DS} (h1 : set d τ = .ok τ1) (h2 : body τ1 = .rt r) : loopD set body (d :: ds) τ = .rt r := by rw [loopD, h1, Fl.of_ok, h2]
theorem rs_loop (t : D) : ∀ (u x P : List Nat) (w : Bool) (s4 : Option Sl), x.length + u.length ≤ 1000 → P.length + u.length ≤ 1000 → ∃ w' s4', loopD (gNm 4) rsB (u.map signD) (R5 t x P w s4) = .nx (R5 t (x ++ (fl w u).map (·.1)) (P ++ idx x.length (fl w u)) w' s4') := fun u => by
  induction u with
  | nil => intro x P w s4 _ _; exact ⟨w, s4, by simp [fl, idx, loopD]⟩
  | cons c u ih =>
    intro x P w s4 h1 h2
    rw [List.length_cons] at h1 h2
    have st := rs_step t x P w c (by omega) (by omega)
    cases h : isB c with
    | true =>
      rw [h, if_pos rfl] at st
      obtain ⟨w', s4', e⟩ := ih x P (c == 91) (some (.val (signD c))) (by omega) (by omega)
      refine ⟨w', s4', ?_⟩
      have ef : fl w (c :: u) = fl (c == 91) u := by
        show (if isB c = true then _ else _) = _
        rw [h]; rfl
      rw [List.map_cons, loop_nx (τ1 := R5 t x P w (some (.val (signD c)))) rfl st, ef]
      exact e
    | false =>
      rw [h, if_neg (by simp)] at st
      obtain ⟨w', s4', e⟩ := ih (x ++ [c]) (if w = true then P ++ [x.length] else P) w (some (.val (signD c))) (by simp; omega) (by split <;> (try rw [List.length_append, List.length_singleton]) <;> omega)
      refine ⟨w', s4', ?_⟩
      rw [List.map_cons, loop_nx (τ1 := R5 t x P w (some (.val (signD c)))) rfl st, fl_s h]
      have e2 : R5 t (x ++ ((c, w) :: fl w u).map (·.1)) (P ++ idx x.length ((c, w) :: fl w u)) w' s4' = R5 t (x ++ [c] ++ (fl w u).map (·.1)) ((if w = true then P ++ [x.length] else P) ++ idx (x ++ [c]).length (fl w u)) w' s4' := by
        cases w <;> simp [idx]
      rw [e2]
      exact e
end Law
set_option Elab.async false
set_option linter.all false
set_option maxHeartbeats 1000000
namespace Law
open PySem PySem.Spec PyProof.Rows L2 FD
def nmT (t : List Nat) : List Nat := (fl false t).map (·.1)
def plT (t : List Nat) : List Nat := idx 0 (fl false t)
def okT (t : List Nat) : Bool := isNm (nmT t) && decide (cn false (fl false t) = t)
theorem fl_len : ∀ (t : List Nat) (w : Bool), (fl w t).length ≤ t.length := fun t => by
  induction t with
  | nil => intro w; exact Nat.le_refl _
  | cons c t ih =>
    intro w
    cases h : isB c with
    | true =>
      have : fl w (c :: t) = fl (c == 91) t := by
        show (if isB c = true then _ else _) = _
        rw [h]; rfl
      rw [this]; have := ih (c == 91); simp; omega
    | false => rw [fl_s h]; have := ih w; simp; omega
theorem idx_len : ∀ (r : List (Nat × Bool)) (n : Nat), (idx n r).length ≤ r.length := fun r => by
  induction r with
  | nil => intro n; exact Nat.le_refl _
  | cons q r ih =>
    intro n
    have := ih (n + 1)
    unfold idx
    split <;> simp <;> omega
theorem tx_ne (a b : List Nat) : neD (tx a) (tx b) = .ok (.bl (!decide (a = b))) := by
  rw [neD_s]
  congr 3
  rw [Bool.eq_iff_iff]
  simp
theorem nilO (τ : DS) : (fun τ => (aNil τ).bind fun ds => if ds.length ≤ sizeLine then Rs.ok ds else Rs.no) τ = .ok [] := by
  show (if ([] : List D).length ≤ sizeLine then Rs.ok [] else Rs.no) = _
  exact if_pos (Nat.zero_le sizeLine)
def rsG : FT := (tOrD (tNotD (tTru (eCall m_is_name (aCons (eVar 1) aNil)))) (FD.tB (eOp neD (eFz (eCall m_shown (aCons (eVar 1) (aCons (eVar 2) aNil)))) (eVar 0))))
def rsE : FS := (fun τ => sRet (eTup (aCons (eVar 1) (aCons (eVar 2) aNil))) (frzT τ))
theorem rsh_b : b_read_shown = (sSeq (sQuiet (sSet 1 (eC (.str "")))) (sSeq (sQuiet (sSetO 2 (fun τ => (aNil τ).bind fun ds => if ds.length ≤ sizeLine then .ok ds else .no))) (sSeq (sQuiet (sSet 3 (eC (.bl false)))) (sSeq (sQuiet (sFor (iAny (eVar 0)) (gNm 4) rsB)) (sSeq (sIf rsG (sRaise "NoText") sNext) (sQuiet rsE)))))) := by unfold b_read_shown rsB rsG rsE; rfl
theorem guard_ok (t : List Nat) (ht : t.length ≤ 1000) (w : Bool) (s4 : Option Sl) : rsG (R5 (tx t) (nmT t) (plT t) w s4) = .ok (!okT t) := by
  have hl : (nmT t).length ≤ 1000 := by unfold nmT; rw [List.length_map]; have := fl_len t false; omega
  have h1 : tNotD (tTru (eCall m_is_name (aCons (eVar 1) aNil))) (R5 (tx t) (nmT t) (plT t) w s4) = .ok (!isNm (nmT t)) := tn_ok (tru_ok (call1 (var_ok rfl) (isname_ok (nmT t) hl)))
  unfold rsG okT
  cases hn : isNm (nmT t) with
  | false => rw [hn] at h1; exact or_tl h1
  | true =>
    rw [hn] at h1
    have h24 : (nmT t).length ≤ 24 := by
      unfold isNm at hn
      rw [Bool.and_eq_true, decide_eq_true_eq] at hn
      exact hn.1.2
    have hi := idx_len (fl false t) 0
    have hs : m_shown [tx (nmT t), nts (plT t)] = .ok (tx (cn false (fl false t))) := by
      rw [shown_ok (nmT t) (plT t) h24 (idx_ris _ 0) (fun q hq => by
        have := idx_low (fl false t) 0 q hq
        unfold nmT; rw [List.length_map]; omega) (by unfold plT; unfold nmT at h24; rw [List.length_map] at h24; omega)]
      unfold nmT plT
      rw [sh_cn]
    have hz : eFz (eCall m_shown (aCons (eVar 1) (aCons (eVar 2) aNil))) (R5 (tx t) (nmT t) (plT t) w s4) = .ok (tx (cn false (fl false t))) := by
      unfold eFz
      rw [call2 (a := tx (nmT t)) (b := nts (plT t)) (var_ok rfl) (var_ok rfl) hs]
      rfl
    rw [or_tr h1 (tB_ok (op2 hz (var_ok rfl) (tx_ne _ _)))]
    rfl
theorem read_ok (t : List Nat) (ht : t.length ≤ 1000) : m_read_shown [tx t] = if okT t = true then .ok (.tup [tx (nmT t), nts (plT t)]) else .ex "NoText" := by
  have st : startD 5 [tx t] = [some (.val (tx t)), none, none, none, none] := rfl
  obtain ⟨w', s4', lp⟩ := rs_loop (tx t) t [] [] false none (by simpa using ht) (by simpa using ht)
  rw [List.nil_append, List.nil_append] at lp
  have it : iAny (eVar 0) (R5 (tx t) [] [] false none) = .ok (t.map signD) := by rw [iAny_ap, var_ok (d := tx t) rfl, Rs.bind_ok, iter_str, tx_signs]
  unfold m_read_shown
  rw [rsh_b, runF_ap, st, seq_nx (sQuiet_nx (set_nx (emptyE _)))]
  show flRes (sSeq _ _ [some (.val (tx t)), some (.val (tx [])), none, none, none]) = _
  rw [seq_nx (sQuiet_nx (setO_nx (nilO _)))]
  show flRes (sSeq _ _ [some (.val (tx t)), some (.val (tx [])), some (.own []), none, none]) = _
  rw [seq_nx (sQuiet_nx (set_nx (d := .bl false) rfl))]
  show flRes (sSeq _ _ (R5 (tx t) [] [] false none)) = _
  rw [seq_nx (sQuiet_nx (by rw [sFor_ap, it, Fl.of_ok]; exact lp))]
  have g := guard_ok t ht w' s4'
  show flRes (sSeq _ _ (R5 (tx t) (nmT t) (plT t) w' s4')) = _
  cases h : okT t with
  | true =>
    rw [h] at g
    rw [seq_nx (if_nx g), if_pos rfl, sQuiet_rt (f := rsE) (d := .tup [tx (nmT t), nts (plT t)]) (by unfold rsE; exact ret_rt (tup2 (var_ok rfl) (var_ok rfl)))]; rfl
  | false =>
    rw [h] at g
    rw [sSeq_ap, sif_t g, if_neg (by simp)]; rfl
def ans (t : List Nat) : D := if okT t = true then .tup [tx (nmT t), nts (plT t)] else .non
theorem isx (b : Bool) : excTb [("NoText", b)] (.exc "NoText") = .ok (.bl b) := by simp [excTb, List.lookup]
theorem eq_bls : eqD (.lst [.bl true, .bl false, .bl false]) (.lst [.bl true, .bl false, .bl false]) = .ok (.bl true) := by
  simp [eqD, okD, plainD, plainDs, eqvD, toPy, toPys, PyData.canLay0, PyData.canLayAll0, PyData.depth, PyData.depthAll, PyData.eqv, PyData.eqvAll]
theorem and_v {f g : FT} {τ : DS} {b : Bool} (h1 : f τ = .ok true) (h2 : g τ = .ok b) : tAndD f g τ = .ok b := by rw [tAnd_ap, h1, Rs.bind_ok, if_pos rfl, h2]
theorem told_ok (t : List Nat) (ht : t.length ≤ 1000) : m__law_told [tx t] = .ok (ans t) := by
  have st : startD 3 [tx t] = [some (.val (tx t)), none, none] := rfl
  have a1 : aCons (eVar 0) aNil [some (.val (tx t)), none, none] = .ok [tx t] := rfl
  have rd := read_ok t ht
  unfold m__law_told b__law_told ans
  rw [runF_ap, st, sSeq_ap]
  unfold sTryAs
  rw [if_pos (by rfl)]
  cases h : okT t with
  | true =>
    rw [h, if_pos rfl] at rd
    have hb : sRetX m_read_shown (aCons (eVar 0) aNil) [some (.val (tx t)), none, none] = .rt (.tup [tx (nmT t), nts (plT t)]) := by
      unfold sRetX
      rw [a1, Fl.of_ok]
      simp only [rd]
    rw [hb]; rfl
  | false =>
    rw [h, if_neg (by simp)] at rd
    have hb : sRetX m_read_shown (aCons (eVar 0) aNil) [some (.val (tx t)), none, none] = .rs "NoText" [some (.val (tx t)), none, none] := by
      unfold sRetX
      rw [a1, Fl.of_ok]
      simp only [rd]
    have ix : ∀ (b : Bool) (τ : DS), τ[1]? = some (some (.val (.exc "NoText"))) → eIsX [("NoText", b)] (eVar 1) τ = .ok (.bl b) := fun b τ h => by
      unfold eIsX
      rw [var_ok h, Rs.bind_ok]; exact isx b
    have l1 := lst3 (τ := [some (.val (tx t)), some (.val (.exc "NoText")), none]) (ix true _ rfl) (ix false _ rfl) (ix false _ rfl)
    have l2 := lst3 (τ := [some (.val (tx t)), some (.val (.exc "NoText")), some (.val (.lst [.bl true, .bl false, .bl false]))]) (fa := eC (.bl true)) (fb := eC (.bl false)) (fc := eC (.bl false)) rfl rfl rfl
    rw [hb]
    simp only [beq_self_eq_true, if_true, List.set_cons_succ, List.set_cons_zero]
    rw [seq_nx (set_nx l1)]
    simp only [List.set_cons_succ, List.set_cons_zero]
    rw [sif_t (and_v (tru_ok (ix true _ rfl)) (tB_ok (op2 (var_ok rfl) l2 eq_bls))), ret_rt (d := .non) rfl]; rfl
end Law
set_option Elab.async false
set_option linter.all false
set_option maxHeartbeats 1000000
namespace Law
open PySem PySem.Spec PyProof.Rows L2 FD
def ga : Option Nat → Bool → List Nat → Option Bool
  | _, w, [] => some w
  | p, w, c :: u => if c = 91 then (if w = true ∨ p = some 91 ∨ p = some 93 then none else ga (some 91) true u)
    else if c = 93 then (if w = false ∨ p = some 91 then none else ga (some 93) false u)
    else if c ∈ LT then ga (some c) w u else none
theorem ga_fm : ∀ (u : List Nat) (p : Option Nat) (w : Bool), ga p w u = some false ↔ fm p w u = true ∧ ∀ q ∈ fl w u, q.1 ∈ LT := fun u => by
  induction u with
  | nil =>
    intro p w
    constructor
    · intro h
      have : w = false := by simpa [ga] using h
      subst this
      exact ⟨rfl, fun q hq => by cases hq⟩
    · rintro ⟨h, _⟩
      have : w = false := by simpa [fm] using h
      subst this; rfl
  | cons c u ih =>
    intro p w
    unfold ga fm
    by_cases e1 : c = 91
    · subst e1
      rw [if_pos rfl, if_pos rfl, fl_b91]
      by_cases z : w = true ∨ p = some 91 ∨ p = some 93
      · rw [if_pos z]
        constructor
        · intro h; cases h
        · rintro ⟨h, _⟩
          simp only [Bool.and_eq_true, Bool.not_eq_true', beq_eq_false_iff_ne] at h
          rcases z with z | z | z
          · rw [z] at h; cases h.1.1.1
          · exact absurd z h.1.1.2
          · exact absurd z h.1.2
      · rw [if_neg z, ih]
        simp only [not_or] at z
        have w0 : w = false := by simpa using z.1
        have b1 : (p == some 91) = false := by simpa using z.2.1
        have b2 : (p == some 93) = false := by simpa using z.2.2
        rw [w0, b1, b2]
        simp
    · rw [if_neg e1, if_neg e1]
      by_cases e2 : c = 93
      · subst e2
        rw [if_pos rfl, if_pos rfl, fl_b93]
        by_cases z : w = false ∨ p = some 91
        · rw [if_pos z]
          constructor
          · intro h; cases h
          · rintro ⟨h, _⟩
            simp only [Bool.and_eq_true, Bool.not_eq_true', beq_eq_false_iff_ne] at h
            rcases z with z | z
            · rw [z] at h; cases h.1.1
            · exact absurd z h.1.2
        · rw [if_neg z, ih]
          simp only [not_or] at z
          have w0 : w = true := by simpa using z.1
          have b1 : (p == some 91) = false := by simpa using z.2
          rw [w0, b1]
          simp
      · rw [if_neg e2, if_neg e2, fl_s (isB_ne e1 e2)]
        by_cases z : c ∈ LT
        · rw [if_pos z, ih]
          constructor
          · rintro ⟨a, b⟩
            refine ⟨a, fun q hq => ?_⟩
            rcases List.mem_cons.mp hq with rfl | hq
            · exact z
            · exact b q hq
          · rintro ⟨a, b⟩
            exact ⟨a, fun q hq => b q (List.mem_cons_of_mem _ hq)⟩
        · rw [if_neg z]
          constructor
          · intro h; cases h
          · rintro ⟨_, b⟩
            exact absurd (b (c, w) List.mem_cons_self) z
theorem ok_ga (t : List Nat) : okT t = (decide (ga none false t = some false) && decide (1 ≤ (nmT t).length ∧ (nmT t).length ≤ 24)) := by
  rw [Bool.eq_iff_iff]
  unfold okT isNm
  simp only [Bool.and_eq_true, decide_eq_true_eq, List.all_eq_true]
  rw [ga_fm, fm_iff]
  constructor
  · rintro ⟨⟨a, b⟩, c⟩
    exact ⟨⟨c.symm, fun q hq => b q.1 (List.mem_map.mpr ⟨q, hq, rfl⟩)⟩, a⟩
  · rintro ⟨⟨c, b⟩, a⟩
    refine ⟨⟨a, fun x hx => ?_⟩, c.symm⟩
    obtain ⟨q, hq, rfl⟩ := List.mem_map.mp hx
    exact b q hq
abbrev LS : Str := "abcdefghijklmnopqrstuvwxyzABCDEFGHIJKLMNOPQRSTUVWXYZ0123456789_-./"
def brD (w : Bool) : D := if w = true then .str "[" else .str "]"
abbrev R7 (t x P : List Nat) (w : Bool) (s5 s6 : Option Sl) : DS := [some (.val (tx t)), some (.val (.str LS)), some (.val (tx x)), some (.own (P.map fun (k : Nat) => D.int k)), some (.val (brD w)), s5, s6]
def pvE : FE := (eSl (eVar 0) (oSome (eOp subD (eVar 5) (eC (.int 1)))) (oSome (eVar 5)))
def lrG : FT := (tOrD (FD.tB (eOp eqD (eVar 6) (eVar 4))) (tOrD (FD.tB (eOp eqD pvE (eC (.str "[")))) (tAndD (FD.tB (eOp eqD (eVar 6) (eC (.str "[")))) (FD.tB (eOp eqD pvE (eC (.str "]")))))))
def lrB : FS := (sIf (FD.tB (eOp inD (eVar 6) (eC (.str "[]")))) (sSeq (sIf lrG (sRet (eC .non)) sNext) (sSet 4 (eVar 6))) (sIf (FD.tB (eOp notInD (eVar 6) (eVar 1))) (sRet (eC .non)) (sSeq (sIf (FD.tB (eOp eqD (eVar 4) (eC (.str "[")))) (sApp 3 (eBlt lenD (aCons (eVar 2) aNil))) sNext)
      (sSet 2 (eOp addD (eVar 2) (eVar 6))))))
def prv (t : List Nat) (k : Nat) : Option Nat := if k = 0 then none else t[k - 1]?
theorem ind_neg (n : Nat) (h : 0 < n) : Builtin.Str.strSliceIndices (some (-1)) (some 0) 1 n = [] := by
  unfold Builtin.Str.strSliceIndices
  dsimp only
  have e1 : max (0 : Int) (min (if (-1 : Int) < 0 then -1 + (n : Int) else -1) n) = (n : Int) - 1 := by rw [if_pos (by decide)]; omega
  have e2 : max (0 : Int) (min (if (0 : Int) < 0 then 0 + (n : Int) else 0) n) = 0 := by rw [if_neg (by decide)]; omega
  simp only [show (1 : Int) > 0 from by decide, if_true, e1, e2]
  unfold sliceRange
  simp only [show (1 : Int) > 0 from by decide, if_true]
  rw [if_neg (by omega)]
  rfl
theorem slice_neg (t : List Nat) (h : 0 < t.length) : Txt.slice (⟨t.toArray⟩ : Str) (some (-1)) (some 0) = ⟨([] : List Nat).toArray⟩ := by
  unfold Txt.slice
  rw [mk_len, ind_neg t.length h]
  rw [if_neg (by simp; omega)]
  rfl
theorem pv_ok (t x P : List Nat) (w : Bool) (k : Nat) (s6 : Option Sl) (ht : t.length ≤ 1000) (hk : k < t.length) : pvE (R7 t x P w (some (.val (.int (k : Int)))) s6) = .ok (tx (prv t k).toList) := by
  unfold pvE prv
  cases k with
  | zero =>
    refine sl_ok (var_ok rfl) (os_ok (op2 (var_ok rfl) rfl subD_i)) (os_ok (var_ok rfl)) ?_
    simp only [slD]
    rw [if_pos (by rw [mk_len, sizeLine_v]; omega)]
    show Rs.ok (D.str (Txt.slice _ (some (-1)) (some 0))) = _
    rw [slice_neg t hk]; rfl
  | succ k =>
    refine sl_ok (l := some (k : Int)) (var_ok rfl) (os_ok (op2 (var_ok rfl) rfl (by rw [subD_i]; congr 2; omega))) (os_ok (var_ok rfl)) ?_
    rw [slD_mid t ht k (k + 1) (by omega) (by omega)]
    congr 3
    rw [if_neg (by omega), Nat.add_sub_cancel, show k + 1 - k = 1 by omega, List.getElem?_eq_getElem (by omega), List.drop_eq_getElem_cons (by omega)]
    rfl
theorem eqp91 (p : Option Nat) : eqD (tx p.toList) (.str "[") = .ok (.bl (p == some 91)) := by
  rw [br.1, eqD_s]
  congr 2
  cases p with
  | none => rfl
  | some c => rw [Bool.eq_iff_iff]; simp
theorem eqp93 (p : Option Nat) : eqD (tx p.toList) (.str "]") = .ok (.bl (p == some 93)) := by
  rw [br.2.1, eqD_s]
  congr 2
  cases p with
  | none => rfl
  | some c => rw [Bool.eq_iff_iff]; simp
theorem eqbr (c : Nat) (w : Bool) : eqD (signD c) (brD w) = .ok (.bl (if w = true then c == 91 else c == 93)) := by
  cases w with
  | true => exact sg91 c
  | false => exact sg93 c
theorem br91 (w : Bool) : eqD (brD w) (.str "[") = .ok (.bl w) := by
  cases w with
  | true => show eqD (.str "[") (.str "[") = _; rw [eqD_s]; rfl
  | false => show eqD (.str "]") (.str "[") = _; rw [eqD_s]; rfl
theorem and_b {f g : FT} {τ : DS} {b c : Bool} (h1 : f τ = .ok b) (h2 : b = true → g τ = .ok c) : tAndD f g τ = .ok (b && c) := by
  rw [tAnd_ap, h1, Rs.bind_ok]
  cases b with
  | false => rfl
  | true => rw [if_pos rfl, h2 rfl]; rfl
theorem bb_l : ("[]" : Str).cps.toList = [91, 93] := by decide +kernel
theorem notin_sg (c : Nat) : notInD (signD c) (.str LS) = .ok (.bl (!decide (c ∈ LT))) := by
  unfold notInD
  rw [in_sg]; rfl
theorem sg_br91 : signD 91 = brD true := by show D.str ⟨#[91]⟩ = .str "["; rw [br.1]
theorem sg_br93 : signD 93 = brD false := by show D.str ⟨#[93]⟩ = .str "]"; rw [br.2.1]
theorem lr_step (t x P : List Nat) (w : Bool) (k c : Nat) (ht : t.length ≤ 1000) (hk : k < t.length) (hx : x.length ≤ 1000) (hP : P.length < 1000) :
    lrB (R7 t x P w (some (.val (.int (k : Int)))) (some (.val (signD c)))) =
      if c = 91 then (if w = true ∨ prv t k = some 91 ∨ prv t k = some 93 then .rt .non else .nx (R7 t x P true (some (.val (.int (k : Int)))) (some (.val (signD c)))))
      else if c = 93 then (if w = false ∨ prv t k = some 91 then .rt .non else .nx (R7 t x P false (some (.val (.int (k : Int)))) (some (.val (signD c)))))
      else if c ∈ LT then .nx (R7 t (x ++ [c]) (if w = true then P ++ [x.length] else P) w (some (.val (.int (k : Int)))) (some (.val (signD c)))) else .rt .non := by
  have pv := pv_ok t x P w k (some (.val (signD c))) ht hk
  generalize prv t k = p at pv
  have g : lrG (R7 t x P w (some (.val (.int (k : Int)))) (some (.val (signD c)))) = .ok ((if w = true then c == 91 else c == 93) || ((p == some 91) || ((c == 91) && (p == some 93)))) :=
    or_b (tB_ok (op2 (var_ok rfl) (var_ok rfl) (eqbr c w))) fun _ => or_b (tB_ok (op2 pv rfl (eqp91 p))) fun _ => and_b (tB_ok (op2 (var_ok rfl) rfl (sg91 c))) fun _ => tB_ok (op2 pv rfl (eqp93 p))
  have i0 : FD.tB (eOp inD (eVar 6) (eC (.str "[]"))) (R7 t x P w (some (.val (.int (k : Int)))) (some (.val (signD c)))) = .ok (decide (c ∈ [91, 93])) := tB_ok (op2 (var_ok rfl) rfl (by rw [in_sg, bb_l]))
  unfold lrB
  by_cases e1 : c = 91
  · subst e1
    rw [if_pos rfl, sif_t (i0.trans (by simp))]
    by_cases z : w = true ∨ p = some 91 ∨ p = some 93
    · rw [if_pos z, seq_rt (by
        rw [sif_t (g.trans (by
          congr 1
          rcases z with z | z | z
          · rw [z]; rfl
          · rw [z]; simp
          · rw [z]; simp)), ret_rt rfl])]
    · rw [if_neg z]
      simp only [not_or] at z
      have w0 : w = false := by simpa using z.1
      have b1 : (p == some 91) = false := by simpa using z.2.1
      have b2 : (p == some 93) = false := by simpa using z.2.2
      rw [seq_nx (if_nx (g.trans (by rw [w0, b1, b2]; rfl))), set_nx (d := brD true) (by rw [← sg_br91]; exact var_ok rfl)]
      rfl
  · rw [if_neg e1]
    by_cases e2 : c = 93
    · subst e2
      rw [if_pos rfl, sif_t (i0.trans (by simp))]
      by_cases z : w = false ∨ p = some 91
      · rw [if_pos z, seq_rt (by
          rw [sif_t (g.trans (by
            congr 1
            rcases z with z | z
            · rw [z]; rfl
            · rw [z]; simp)), ret_rt rfl])]
      · rw [if_neg z]
        simp only [not_or] at z
        have w0 : w = true := by simpa using z.1
        have b1 : (p == some 91) = false := by simpa using z.2
        rw [seq_nx (if_nx (g.trans (by rw [w0, b1]; rfl))), set_nx (d := brD false) (by rw [← sg_br93]; exact var_ok rfl)]
        rfl
    · rw [if_neg e2, sif_f (i0.trans (by simp [e1, e2]))]
      have n0 : FD.tB (eOp notInD (eVar 6) (eVar 1)) (R7 t x P w (some (.val (.int (k : Int)))) (some (.val (signD c)))) = .ok (!decide (c ∈ LT)) := tB_ok (op2 (var_ok rfl) (var_ok rfl) (notin_sg c))
      by_cases z : c ∈ LT
      · rw [if_pos z, sif_f (n0.trans (by rw [decide_eq_true z]; rfl))]
        have ad : ∀ P' : List Nat, sSet 2 (eOp addD (eVar 2) (eVar 6)) (R7 t x P' w (some (.val (.int (k : Int)))) (some (.val (signD c)))) = .nx (R7 t (x ++ [c]) P' w (some (.val (.int (k : Int)))) (some (.val (signD c)))) := fun P' =>
          set_nx (d := tx (x ++ [c])) (op2 (var_ok rfl) (var_ok (d := tx [c]) rfl) (addT x [c] (by simp; omega)))
        cases w with
        | false => rw [seq_nx (if_nx (tB_ok (op2 (var_ok rfl) rfl (br91 false)))), ad]; rfl
        | true =>
          have a : sApp 3 (eBlt lenD (aCons (eVar 2) aNil)) (R7 t x P true (some (.val (.int (k : Int)))) (some (.val (signD c)))) = .nx (R7 t x (P ++ [x.length]) true (some (.val (.int (k : Int)))) (some (.val (signD c)))) := app_nat rfl (blt1 (var_ok rfl) (tx_len x hx)) hP
          rw [seq_nx (by rw [sif_t (tB_ok (op2 (var_ok rfl) rfl (br91 true)))]; exact a), ad]; rfl
      · rw [if_neg z, sif_t (n0.trans (by rw [decide_eq_false z]; rfl)), ret_rt rfl]
theorem prv_succ (t u : List Nat) (c k : Nat) (h : t.drop k = c :: u) : prv t (k + 1) = some c := by
  unfold prv
  rw [if_neg (by omega), Nat.add_sub_cancel]
  have := congrArg (fun l => l[0]?) h
  rw [List.getElem?_drop, Nat.add_zero] at this
  exact this
theorem drop_succ {t u : List Nat} {c k : Nat} (h : t.drop k = c :: u) : t.drop (k + 1) = u ∧ k < t.length := by
  have hk : k < t.length := by
    rcases Nat.lt_or_ge k t.length with z | z
    · exact z
    · rw [List.drop_eq_nil_of_le z] at h; cases h
  rw [List.drop_eq_getElem_cons hk] at h
  exact ⟨(List.cons.inj h).2, hk⟩
theorem lr_loop (t : List Nat) (ht : t.length ≤ 1000) : ∀ (u : List Nat) (k : Nat) (x P : List Nat) (w : Bool) (s5 s6 : Option Sl), t.drop k = u → x.length ≤ k → P.length ≤ k →
    (ga (prv t k) w u = none ∧ loopD (gPr 5 6) lrB (enumFrom k (u.map signD)) (R7 t x P w s5 s6) = .rt .non) ∨
    ∃ w' s5' s6', ga (prv t k) w u = some w' ∧ loopD (gPr 5 6) lrB (enumFrom k (u.map signD)) (R7 t x P w s5 s6) = .nx (R7 t (x ++ (fl w u).map (·.1)) (P ++ idx x.length (fl w u)) w' s5' s6') := fun u => by
  induction u with
  | nil => intro k x P w s5 s6 _ _ _; exact .inr ⟨w, s5, s6, rfl, by simp [fl, idx, enumFrom, loopD]⟩
  | cons c u ih =>
    intro k x P w s5 s6 hd hx hP
    obtain ⟨hd', hk⟩ := drop_succ hd
    have pv := prv_succ t u c k hd
    have st := lr_step t x P w k c ht hk (by omega) (by omega)
    have g : gPr 5 6 (D.tup [.int (k : Int), signD c]) (R7 t x P w s5 s6) = .ok (R7 t x P w (some (.val (.int (k : Int)))) (some (.val (signD c)))) := rfl
    show (_ ∧ loopD _ _ (D.tup [.int (k : Int), signD c] :: enumFrom (k + 1) (u.map signD)) _ = _) ∨ ∃ w' s5' s6', _ ∧ loopD _ _ (D.tup [.int (k : Int), signD c] :: enumFrom (k + 1) (u.map signD)) _ = _
    unfold ga
    by_cases e1 : c = 91
    · subst e1
      rw [if_pos rfl] at st ⊢
      by_cases z : w = true ∨ prv t k = some 91 ∨ prv t k = some 93
      · rw [if_pos z] at st ⊢
        exact .inl ⟨rfl, loop_rt g st⟩
      · rw [if_neg z] at st ⊢
        have i := ih (k + 1) x P true (some (.val (.int (k : Int)))) (some (.val (signD 91))) hd' (by omega) (by omega)
        rw [pv] at i
        rw [loop_nx g st, fl_b91]
        exact i
    · rw [if_neg e1] at st ⊢
      by_cases e2 : c = 93
      · subst e2
        rw [if_pos rfl] at st ⊢
        by_cases z : w = false ∨ prv t k = some 91
        · rw [if_pos z] at st ⊢
          exact .inl ⟨rfl, loop_rt g st⟩
        · rw [if_neg z] at st ⊢
          have i := ih (k + 1) x P false (some (.val (.int (k : Int)))) (some (.val (signD 93))) hd' (by omega) (by omega)
          rw [pv] at i
          rw [loop_nx g st, fl_b93]
          exact i
      · rw [if_neg e2] at st ⊢
        by_cases z : c ∈ LT
        · rw [if_pos z] at st ⊢
          have i := ih (k + 1) (x ++ [c]) (if w = true then P ++ [x.length] else P) w (some (.val (.int (k : Int)))) (some (.val (signD c))) hd' (by simp; omega) (by split <;> (try rw [List.length_append, List.length_singleton]) <;> omega)
          rw [pv] at i
          rw [loop_nx g st, fl_s (isB_ne e1 e2)]
          have e2 : ∀ w' s5' s6', R7 t (x ++ ((c, w) :: fl w u).map (·.1)) (P ++ idx x.length ((c, w) :: fl w u)) w' s5' s6' = R7 t (x ++ [c] ++ (fl w u).map (·.1)) ((if w = true then P ++ [x.length] else P) ++ idx (x ++ [c]).length (fl w u)) w' s5' s6' := fun w' s5' s6' => by
            cases w <;> simp [idx]
          simp only [e2]
          exact i
        · rw [if_neg z] at st ⊢
          exact .inl ⟨rfl, loop_rt g st⟩
def lrE : FS := (fun τ => sRet (eTup (aCons (eVar 2) (aCons (eVar 3) aNil))) (frzT τ))
def lrH : FT := (tOrD (FD.tB (eOp eqD (eVar 4) (eC (.str "[")))) (tNotD (FD.tB (eChain leD leD (eC (.int 1)) (eBlt lenD (aCons (eVar 2) aNil)) (eC (.int 24))))))
theorem lread_b : b__law_read = (sSeq (sSet 1 (eC (.str LS))) (sSeq (sSet 2 (eC (.str ""))) (sSeq (sSetO 3 (fun τ => (aNil τ).bind fun ds => if ds.length ≤ sizeLine then .ok ds else .no)) (sSeq (sSet 4 (eC (.str "]"))) (sSeq (sFor (iEnS (aCons (eVar 0) aNil)) (gPr 5 6) lrB) (sSeq (sIf lrH (sRet (eC .non)) sNext) lrE)))))) := by unfold b__law_read lrB lrG pvE lrH lrE; rfl
theorem chain2 {n : Nat} {τ : DS} {fe : FE} (h : fe τ = .ok (.int (n : Int))) : FD.tB (eChain leD leD (eC (.int 1)) fe (eC (.int 24))) τ = .ok (decide (1 ≤ n ∧ n ≤ 24)) := by
  refine tB_ok ?_
  unfold eChain
  rw [eC_ap, Rs.bind_ok, h, Rs.bind_ok]
  show ((leD (.int 1) (.int n)).bind _) = _
  have l1 : leD (.int 1) (.int (n : Int)) = .ok (.bl (decide ((1 : Int) ≤ n))) := rfl
  rw [l1, Rs.bind_ok]
  by_cases z : 1 ≤ n
  · rw [decide_eq_true (show (1 : Int) ≤ n by omega)]
    show leD (.int n) (.int 24) = _
    have l2 : leD (.int (n : Int)) (.int 24) = .ok (.bl (decide ((n : Int) ≤ 24))) := rfl
    rw [l2]; congr 2
    rw [decide_eq_decide]; omega
  · rw [decide_eq_false (show ¬ (1 : Int) ≤ n by omega), decide_eq_false (by omega)]; rfl
theorem lread_ok (t : List Nat) (ht : t.length ≤ 1000) : m__law_read [tx t] = .ok (ans t) := by
  have st : startD 7 [tx t] = [some (.val (tx t)), none, none, none, none, none, none] := rfl
  have it : iEnS (aCons (eVar 0) aNil) (R7 t [] [] false none none) = .ok (enumFrom 0 (t.map signD)) := by
    rw [← tx_signs]; rfl
  have hl : (nmT t).length ≤ 1000 := by unfold nmT; rw [List.length_map]; have := fl_len t false; omega
  unfold m__law_read ans
  rw [lread_b, runF_ap, st, seq_nx (set_nx (d := .str LS) rfl)]
  show flRes (sSeq _ _ [some (.val (tx t)), some (.val (.str LS)), none, none, none, none, none]) = _
  rw [seq_nx (set_nx (emptyE _))]
  show flRes (sSeq _ _ [some (.val (tx t)), some (.val (.str LS)), some (.val (tx [])), none, none, none, none]) = _
  rw [seq_nx (setO_nx (nilO _))]
  show flRes (sSeq _ _ [some (.val (tx t)), some (.val (.str LS)), some (.val (tx [])), some (.own []), none, none, none]) = _
  rw [seq_nx (set_nx (d := brD false) rfl)]
  show flRes (sSeq _ _ (R7 t [] [] false none none)) = _
  rcases lr_loop t ht t 0 [] [] false none none rfl (Nat.le_refl _) (Nat.le_refl _) with ⟨h1, h2⟩ | ⟨w', s5', s6', h1, h2⟩
  · rw [seq_rt (by rw [sFor_ap, it, Fl.of_ok]; exact h2)]
    have : okT t = false := by rw [ok_ga]; rw [show prv t 0 = none from rfl] at h1; rw [h1]; rfl
    rw [this]; rfl
  · rw [List.nil_append, List.nil_append] at h2
    rw [show prv t 0 = none from rfl] at h1
    rw [seq_nx (by rw [sFor_ap, it, Fl.of_ok]; exact h2)]
    show flRes (sSeq _ _ (R7 t (nmT t) (plT t) w' s5' s6')) = _
    have g : lrH (R7 t (nmT t) (plT t) w' s5' s6') = .ok (w' || !decide (1 ≤ (nmT t).length ∧ (nmT t).length ≤ 24)) :=
      or_b (tB_ok (op2 (var_ok rfl) rfl (br91 w'))) fun _ => tn_ok (chain2 (blt1 (var_ok rfl) (tx_len _ hl)))
    have e : okT t = !(w' || !decide (1 ≤ (nmT t).length ∧ (nmT t).length ≤ 24)) := by
      rw [ok_ga, h1]
      cases w' <;> simp
    cases h : okT t with
    | true =>
      rw [h] at e
      have e : (w' || !decide (1 ≤ (nmT t).length ∧ (nmT t).length ≤ 24)) = false := by rw [← Bool.not_not (w' || _), ← e]; rfl
      rw [e] at g
      rw [seq_nx (if_nx g), if_pos rfl]
      unfold lrE
      rw [ret_rt (d := .tup [tx (nmT t), nts (plT t)]) (tup2 (var_ok rfl) (var_ok rfl))]; rfl
    | false =>
      rw [h] at e
      have e : (w' || !decide (1 ≤ (nmT t).length ∧ (nmT t).length ≤ 24)) = true := by rw [← Bool.not_not (w' || _), ← e]; rfl
      rw [e] at g
      rw [seq_rt (by rw [sif_t g, ret_rt rfl]), if_neg (by simp)]; rfl
end Law
set_option Elab.async false
set_option linter.all false
set_option maxHeartbeats 1000000
namespace Law
open PySem PySem.Spec PyProof.Rows L2 FD
def mkR (p : Nat → Bool) : Nat → List Nat → List (Nat × Bool)
  | _, [] => []
  | n, c :: x => (c, p n) :: mkR p (n + 1) x
theorem mkR_fst (p : Nat → Bool) : ∀ (x : List Nat) (n : Nat), (mkR p n x).map (·.1) = x := fun x => by
  induction x with
  | nil => intro n; rfl
  | cons c x ih => intro n; show c :: (mkR p (n + 1) x).map (·.1) = _; rw [ih]
theorem mkR_idx (p : Nat → Bool) : ∀ (x : List Nat) (n : Nat), idx n (mkR p n x) = (List.range' n x.length).filter p := fun x => by
  induction x with
  | nil => intro n; rfl
  | cons c x ih =>
    intro n
    rw [List.length_cons, List.range'_succ, List.filter_cons]
    show (if p n = true then n :: idx (n + 1) (mkR p (n + 1) x) else idx (n + 1) (mkR p (n + 1) x)) = _
    rw [ih]
theorem cn_len : ∀ (r : List (Nat × Bool)) (w : Bool), (cn w r).length ≤ 2 * r.length + 1 := fun r => by
  induction r with
  | nil => intro w; cases w <;> simp [cn]
  | cons q r ih =>
    intro w
    have := ih q.2
    unfold cn
    rw [List.length_append, List.length_cons, List.length_cons]
    have : ∀ (a b : Prop) [Decidable a] [Decidable b], (if a then [93] else if b then [91] else ([] : List Nat)).length ≤ 1 := fun a b _ _ => by
      split
      · simp
      · split <;> simp
    have := this (w = true ∧ q.2 = false) (w = false ∧ q.2 = true)
    omega
def stp (t : List Nat) : List Nat := (t.filter fun c => c != 91).filter fun c => c != 93
theorem stp_app (a b : List Nat) : stp (a ++ b) = stp a ++ stp b := by unfold stp; rw [List.filter_append, List.filter_append]
theorem stp_cn : ∀ (r : List (Nat × Bool)) (w : Bool), (∀ q ∈ r, isB q.1 = false) → stp (cn w r) = r.map (·.1) := fun r => by
  induction r with
  | nil => intro w _; cases w <;> rfl
  | cons q r ih =>
    intro w h
    have hq : q.1 ≠ 91 ∧ q.1 ≠ 93 := by simpa [isB] using h q List.mem_cons_self
    have i := ih q.2 fun q hq => h q (List.mem_cons_of_mem _ hq)
    unfold cn
    rw [stp_app, show q.1 :: cn q.2 r = [q.1] ++ cn q.2 r from rfl, stp_app, i, List.map_cons]
    have e1 : stp [q.1] = [q.1] := by unfold stp; simp [hq]
    rw [e1]
    have e2 : ∀ (a b : Prop) [Decidable a] [Decidable b], stp (if a then [93] else if b then [91] else ([] : List Nat)) = [] := fun a b _ _ => by
      split
      · rfl
      · split <;> rfl
    rw [e2]; rfl
theorem flat_run : ∀ (P : List Nat), (runR P).flatMap (fun r => List.range' r.1 r.2) = P := fun P => by
  induction P with
  | nil => rfl
  | cons p P ih =>
    show (mrg (p, 1) (runR P)).flatMap _ = _
    cases e : runR P with
    | nil => rw [e] at ih; rw [← ih]; rfl
    | cons u t =>
      rw [e] at ih
      rw [List.flatMap_cons] at ih
      show (if p + 1 = u.1 then (p, 1 + u.2) :: t else (p, 1) :: u :: t).flatMap _ = _
      by_cases z : p + 1 = u.1
      · rw [if_pos z, List.flatMap_cons]
        show List.range' p (1 + u.2) ++ _ = _
        rw [Nat.add_comm 1 u.2, List.range'_succ, z, List.cons_append, ih]
      · rw [if_neg z, List.flatMap_cons, List.flatMap_cons, ih]; rfl
theorem ind_over (n i : Nat) (h : n ≤ i) : Builtin.Str.strSliceIndices (some (i : Int)) none 1 n = [] := by
  unfold Builtin.Str.strSliceIndices
  dsimp only
  have e1 : max (0 : Int) (min (if (i : Int) < 0 then (i : Int) + (n : Int) else (i : Int)) n) = (n : Int) := by rw [if_neg (by omega)]; omega
  simp only [show (1 : Int) > 0 from by decide, if_true, e1]
  unfold sliceRange
  simp only [show (1 : Int) > 0 from by decide, if_true]
  rw [if_neg (by omega)]
  rfl
theorem sl_from (x : List Nat) (hx : x.length ≤ 1000) (n : Nat) : slD (tx x) (some (n : Int)) none = .ok (tx (x.drop n)) := by
  rcases Nat.lt_or_ge n (x.length + 1) with h | h
  · exact slD_from x hx n (by omega)
  · simp only [slD]
    rw [if_pos (by rw [mk_len, sizeLine_v]; omega)]
    congr 2
    unfold Txt.slice
    rw [mk_len, ind_over x.length n (by omega), List.drop_eq_nil_of_le (by omega)]
    by_cases z : x.length = 0
    · rw [if_pos (by simp [z])]
      have : x = [] := List.length_eq_zero_iff.mp z
      rw [this]
    · rw [if_neg (by simp; omega)]; rfl
theorem repl_ok (t : List Nat) (c : Nat) (y : Str) (hy : y = ⟨#[c]⟩) : Txt.replace ⟨t.toArray⟩ y "" = ⟨(t.filter fun d => d != c).toArray⟩ := by
  have h := PyProof.Rows.replace_strikes ⟨t.toArray⟩ c
  have e : ("" : Str) = ⟨#[]⟩ := br.2.2
  rw [hy, e]
  generalize Txt.replace _ _ _ = s at h
  obtain ⟨a⟩ := s
  have h : a.toList = t.filter fun d => d != c := h
  rw [← h]
theorem repl2_ok {τ : DS} {fe : FE} (t : List Nat) (ht : t.length ≤ 1000) (h : fe τ = .ok (tx t)) : eRepl "]" "" (eRepl "[" "" fe) τ = .ok (tx (stp t)) := by
  have b1 : ("[" : Str) = ⟨#[91]⟩ := br.1
  have b2 : ("]" : Str) = ⟨#[93]⟩ := br.2.1
  have h1 : eRepl "[" "" fe τ = .ok (tx (t.filter fun d => d != 91)) := by
    unfold eRepl
    rw [h, Rs.bind_ok]
    dsimp only
    rw [if_pos (by rw [mk_len]; exact ht), repl_ok t 91 _ b1]
  have hl := List.length_filter_le (fun d => d != 91) t
  show (eRepl "[" "" fe τ).bind _ = _
  rw [h1, Rs.bind_ok]
  dsimp only
  rw [if_pos (by rw [mk_len]; omega), repl_ok _ 93 _ b2]; rfl
def gd : Nat → D → Prop
  | _, .str x => PyData.strOk x = true
  | _, .int _ => True
  | _, .bl _ => True
  | _, .non => True
  | n + 1, .lst ds => ∀ d ∈ ds, gd n d
  | n + 1, .tup ds => ∀ d ∈ ds, gd n d
  | _, _ => False
theorem gd_all {n : Nat} (ih : ∀ d, gd n d → plainD d = true ∧ (toPy d).canLay0 = true ∧ (toPy d).depth ≤ n ∧ PyData.eqv (toPy d) (toPy d) = true) : ∀ ds : List D, (∀ d ∈ ds, gd n d) → plainDs ds = true ∧ PyData.canLayAll0 (toPys ds) = true ∧ PyData.depthAll (toPys ds) ≤ n ∧ PyData.eqvAll (toPys ds) (toPys ds) = true
  | [], _ => ⟨rfl, rfl, Nat.zero_le _, by simp [toPys, PyData.eqvAll]⟩
  | d :: ds, h => by
    obtain ⟨a1, a2, a3, a4⟩ := ih d (h d List.mem_cons_self)
    obtain ⟨b1, b2, b3, b4⟩ := gd_all ih ds fun e he => h e (List.mem_cons_of_mem _ he)
    refine ⟨by simp [plainDs, a1, b1], by simp [toPys, PyData.canLayAll0, a2, b2], ?_, by simp [toPys, PyData.eqvAll, a4, b4]⟩
    simp only [toPys, PyData.depthAll]
    omega
theorem gd_ok : ∀ (n : Nat) (d : D), gd n d → plainD d = true ∧ (toPy d).canLay0 = true ∧ (toPy d).depth ≤ n ∧ PyData.eqv (toPy d) (toPy d) = true
  | n, .str x, h => ⟨by simp [plainD], by simpa [toPy, PyData.canLay0, gd] using h, by simp [toPy, PyData.depth], by simp [toPy, PyData.eqv]⟩
  | n, .int _, h => ⟨by simp [plainD], by simp [toPy, PyData.canLay0], by simp [toPy, PyData.depth], by simp [toPy, PyData.eqv]⟩
  | n, .bl _, h => ⟨by simp [plainD], by simp [toPy, PyData.canLay0], by simp [toPy, PyData.depth], by simp [toPy, PyData.eqv]⟩
  | n, .non, h => ⟨by simp [plainD], by simp [toPy, PyData.canLay0], by simp [toPy, PyData.depth], by simp [toPy, PyData.eqv]⟩
  | n + 1, .lst ds, h => by
    obtain ⟨b1, b2, b3, b4⟩ := gd_all (gd_ok n) ds (by simpa [gd] using h)
    exact ⟨by simpa [plainD] using b1, by simpa [toPy, PyData.canLay0] using b2, by simpa [toPy, PyData.depth] using b3, by simpa [toPy, PyData.eqv] using b4⟩
  | n + 1, .tup ds, h => by
    obtain ⟨b1, b2, b3, b4⟩ := gd_all (gd_ok n) ds (by simpa [gd] using h)
    exact ⟨by simpa [plainD] using b1, by simpa [toPy, PyData.canLay0] using b2, by simpa [toPy, PyData.depth] using b3, by simpa [toPy, PyData.eqv] using b4⟩
  | 0, .lst ds, h => by simp [gd] at h
  | 0, .tup ds, h => by simp [gd] at h
  | 0, .scr ds, h => by simp [gd] at h
  | 0, .raw ds, h => by simp [gd] at h
  | 0, .exc ds, h => by simp [gd] at h
  | n + 1, .scr ds, h => by simp [gd] at h
  | n + 1, .raw ds, h => by simp [gd] at h
  | n + 1, .exc ds, h => by simp [gd] at h
  | 0, .dct _ _, h => by simp [gd] at h
  | n + 1, .dct _ _, h => by simp [gd] at h
theorem gd_okD {n : Nat} {d : D} (h : gd n d) (hn : n ≤ 60) : okD d = true ∧ eqvD d d = true := by
  obtain ⟨a, b, c, e⟩ := gd_ok n d h
  refine ⟨?_, e⟩
  have : (toPy d).depth ≤ 60 := by omega
  simp [okD, a, b, this]
theorem ne_tup {n : Nat} {ds : List D} (h : gd n (.tup ds)) (hn : n ≤ 60) : neD (.tup ds) (.tup ds) = .ok (.bl false) := by
  obtain ⟨a, b⟩ := gd_okD h hn
  unfold neD
  simp only [a, and_self, if_true, b, Bool.not_true]
theorem ne_lstg {n : Nat} {ds : List D} (h : gd n (.lst ds)) (hn : n ≤ 60) : neD (.lst ds) (.lst ds) = .ok (.bl false) := by
  obtain ⟨a, b⟩ := gd_okD h hn
  unfold neD
  simp only [a, and_self, if_true, b, Bool.not_true]
theorem gd_nats {n : Nat} (l : List Nat) : gd (n + 1) (nts l) := fun d hd => by
  obtain ⟨k, _, rfl⟩ := List.mem_map.mp hd
  cases n <;> trivial
theorem strOk_tx (l : List Nat) (h : ∀ c ∈ l, c < 1000) : PyData.strOk ⟨l.toArray⟩ = true := by
  simp [PyData.strOk]
  intro c hc
  have := h c hc; omega
theorem gd_pair (x P : List Nat) (h : ∀ c ∈ x, c < 1000) : gd 2 (.tup [tx x, nts P]) := fun d hd => by
  rcases List.mem_cons.mp hd with rfl | hd
  · exact strOk_tx x h
  · rw [List.mem_singleton.mp hd]; exact gd_nats P
theorem LT_lt : ∀ c ∈ LT, c < 1000 := by decide +kernel
theorem ne_ans (t : List Nat) : neD (ans t) (ans t) = .ok (.bl false) := by
  unfold ans
  cases h : okT t with
  | false => rfl
  | true =>
    rw [if_pos rfl]
    refine ne_tup (n := 2) (gd_pair _ _ fun c hc => LT_lt c ?_) (by decide)
    unfold okT isNm at h
    simp only [Bool.and_eq_true, List.all_eq_true, decide_eq_true_eq] at h
    exact h.1.2 c hc
end Law
set_option Elab.async false
set_option linter.all false
set_option maxHeartbeats 1000000
namespace Law
open PySem PySem.Spec PyProof.Rows L2 FD
def flS : FS := sRet (eC (.bl false))
def nmE : FE := (eCall m__law_name (aCons (eVar 0) (aCons (eC (.int 0)) aNil)))
def layE : FE := (fun τ => ((eComp 1 [0] (iRg1 (aCons (eBlt lenD (aCons (eVar 1) aNil)) aNil)) (gNm 0) (FD.tB (eOp eqD (eCall m__law_drawn (aCons (eVar 1) (aCons (eOp addD (eC (.int 20)) (eVar 0)) (aCons (eC (.int 2)) aNil)))) (eC (.int 0)))) (eVar 0)) τ).bind fun ds => .ok (.lst ds))
def shE : FE := (eCall m_shown (aCons (eVar 1) (aCons (eVar 2) aNil)))
def g4 : FT := (tOrD (FD.tB (eOp neD (eCall m_read_shown (aCons (eVar 3) aNil)) (eTup (aCons (eVar 1) (aCons (eVar 2) aNil))))) (FD.tB (eOp neD (eRepl "]" "" (eRepl "[" "" (eVar 3))) (eVar 1))))
def ruE : FE := (eCall m_runs (aCons (eVar 1) (aCons (eVar 2) aNil)))
def plG : FT := (tOrD (FD.tB (eOp ltI (eVar 7) (eC (.int 1)))) (tAndD (FD.tB (eOp neD (eVar 5) (eLst aNil))) (FD.tB (eOp leD (eVar 6) (eOp addD (eOp ixD (eVar 5) (eNeg (eC (.int 1)))) (eC (.int 1)))))))
def plR : FE := (fun τ => ((lstRg (iRg2 (aCons (eVar 6) (aCons (eOp addD (eVar 6) (eVar 7)) aNil)))) τ).bind fun ds => .ok (.lst ds))
def plB : FS := (sSeq (sIf plG flS sNext) (sSet 5 (eOp addD (eVar 5) plR)))
def atE : FE := (eCall m__law_drawn (aCons (eVar 0) (aCons (eC (.int 40)) (aCons (eOp addD (eBlt lenD (aCons (eVar 3) aNil)) (eC (.int 1))) aNil))))
def sgE : FE := (eOp ixD (eC (.str "[]a_ [")) (eCall m__law_drawn (aCons (eVar 0) (aCons (eC (.int 41)) (aCons (eC (.int 6)) aNil)))))
def toE : FE := (eSl (eVar 3) oNone (oSome (eVar 8)))
def frE0 : FE := (eSl (eVar 3) (oSome (eVar 8)) oNone)
def frE1 : FE := (eSl (eVar 3) (oSome (eOp addD (eVar 8) (eC (.int 1)))) oNone)
def smE : FE := (eLst (aCons (eOp addD (eOp addD toE (eVar 9)) frE0) (aCons (eOp addD toE frE1) (aCons (eOp addD (eOp addD toE (eVar 9)) frE1) (aCons (eC (.str "")) (aCons (eC (.str "[]")) (aCons (eC (.str "[a]")) aNil)))))))
def itI : FA := (iAny (eOp addD (eVar 10) (eLst (aCons frE0 (aCons (eOp mulSD (eVar 3) (eC (.int 3))) aNil)))))
def otB : FS := (sIf (FD.tB (eOp neD (eCall m__law_told (aCons (eVar 11) aNil)) (eCall m__law_read (aCons (eVar 11) aNil)))) flS sNext)
theorem law_b : b_law = (sSeq (sSet 1 nmE) (sSeq (sSet 2 layE) (sSeq (sSet 3 shE) (sSeq (sIf g4 flS sNext) (sSeq (sSet 4 ruE) (sSeq (sSet 5 (eLst aNil)) (sSeq (sFor (iAny (eVar 4)) (gPr 6 7) plB) (sSeq (sIf (FD.tB (eOp neD (eVar 5) (eVar 2))) flS sNext)
    (sSeq (sSet 8 atE) (sSeq (sSet 9 sgE) (sSeq (sSet 10 smE) (sSeq (sFor itI (gNm 11) otB) (sRet (eC (.bl true))))))))))))))) := by
  unfold b_law nmE layE shE g4 ruE plB plG plR atE sgE smE toE frE0 frE1 itI otB flS; rfl
def lay0 (ns : List Int) (n : Nat) : List Nat := (List.range n).filter fun k => drawZ ns (20 + (k : Int)) 2 == 0
theorem layE_ok (ns : List Int) (h63 : ns.length ≤ 63) (x : List Nat) (hx : x.length ≤ 10) (r : DS) : layE (some (.val (.scr ns)) :: some (.val (tx x)) :: r) = .ok (nts (lay0 ns x.length)) := by
  have cf := comp_filter (set := gNm 0) (ft := FD.tB (eOp eqD (eCall m__law_drawn (aCons (eVar 1) (aCons (eOp addD (eC (.int 20)) (eVar 0)) (aCons (eC (.int 2)) aNil)))) (eC (.int 0)))) (fe := eVar 0) (τ := [none, some (.val (.scr ns))]) (fun (k : Nat) => D.int (0 + k)) (fun (k : Nat) => D.int k) (fun k => drawZ ns (20 + ((k : Nat) : Int)) 2 == 0) (List.range x.length) fun k hk => by
    have hk := List.mem_range.mp hk
    have hd := draw_ok ns (20 + (k : Int)) 2 h63 (by omega) (by omega) (by decide)
    refine ⟨[some (.val (.int (0 + (k : Nat)))), some (.val (.scr ns))], rfl, tB_ok (op2 (call3 (var_ok rfl) (op2 rfl (var_ok rfl) addD_i) rfl ?_) rfl eqD_i), ?_⟩
    · rw [Int.zero_add]; exact hd
    · rw [var_ok (d := .int (0 + (k : Nat))) rfl, Int.zero_add]
  have it := rng_ok (τ := some (.val (.scr ns)) :: some (.val (tx x)) :: r) (fa := eBlt lenD (aCons (eVar 1) aNil)) (n := x.length) (blt1 (var_ok rfl) (tx_len x (by omega))) (by omega)
  have ec := comp_okB (k := 1) (idx := [0]) (τ := some (.val (.scr ns)) :: some (.val (tx x)) :: r) it cf (by
    have := List.length_filter_le (fun k => drawZ ns (20 + ((k : Nat) : Int)) 2 == 0) (List.range x.length)
    simp at this ⊢; omega)
  unfold layE
  rw [ec]; rfl
section
variable {a0 a1 a2 a3 a4 s6 s7 s8 s9 s10 s11 : Option Sl}
abbrev W (a0 a1 a2 a3 a4 : Option Sl) (Q : List Nat) (s6 s7 s8 s9 s10 s11 : Option Sl) : DS := [a0, a1, a2, a3, a4, some (.val (nts Q)), s6, s7, s8, s9, s10, s11]
theorem rng_nts (a m : Nat) : (List.range m).map (fun (k : Nat) => D.int ((a : Int) + k)) = (List.range' a m).map fun (k : Nat) => D.int k := by
  rw [List.range'_eq_map_range, List.map_map]
  refine List.map_congr_left fun k _ => ?_
  show D.int _ = D.int ((a + k : Nat) : Int)
  rw [Int.natCast_add]
theorem pl_step (Q : List Nat) (r : Run) (b : Nat) (h1 : b ≤ r.1) (h2 : 1 ≤ r.2) (h3 : r.1 + r.2 ≤ 1000) (hQ : Q = [] ∨ Q.getD (Q.length - 1) 0 + 2 ≤ b) (hl : Q.length ≤ b) :
    plB (W a0 a1 a2 a3 a4 Q (some (.val (.int (r.1 : Int)))) (some (.val (.int (r.2 : Int)))) s8 s9 s10 s11) = .nx (W a0 a1 a2 a3 a4 (Q ++ List.range' r.1 r.2) (some (.val (.int (r.1 : Int)))) (some (.val (.int (r.2 : Int)))) s8 s9 s10 s11) := by
  have g : plG (W a0 a1 a2 a3 a4 Q (some (.val (.int (r.1 : Int)))) (some (.val (.int (r.2 : Int)))) s8 s9 s10 s11) = .ok false := by
    unfold plG
    refine or_tr ((tB_ok (op2 (var_ok rfl) rfl ltI_i)).trans (by rw [decide_eq_false (by omega)])) ?_
    have n0 : FD.tB (eOp neD (eVar 5) (eLst aNil)) (W a0 a1 a2 a3 a4 Q (some (.val (.int (r.1 : Int)))) (some (.val (.int (r.2 : Int)))) s8 s9 s10 s11) = .ok (!(Q.map fun (k : Nat) => D.int k).isEmpty) := tB_ok (op2 (var_ok rfl) nilE (ne_nil _ (okD_nats Q)))
    by_cases z : Q = []
    · subst z
      rw [tAnd_ap, n0]; rfl
    · have hz : (Q.map fun (k : Nat) => D.int k).isEmpty = false := by cases Q with | nil => exact absurd rfl z | cons a b => rfl
      rw [hz] at n0
      refine (and_b n0 fun _ => tB_ok (op2 (var_ok rfl) (op2 (op2 (var_ok rfl) rfl (neg_nts Q z)) rfl addD_i) (show leD (.int (r.1 : Int)) (.int _) = .ok (.bl (decide (_ ≤ _))) from rfl))).trans ?_
      have := hQ.resolve_left z
      rw [decide_eq_false (by omega)]; rfl
  have rg : plR (W a0 a1 a2 a3 a4 Q (some (.val (.int (r.1 : Int)))) (some (.val (.int (r.2 : Int)))) s8 s9 s10 s11) = .ok (nts (List.range' r.1 r.2)) := by
    have r2 := rg2_ok (τ := W a0 a1 a2 a3 a4 Q (some (.val (.int (r.1 : Int)))) (some (.val (.int (r.2 : Int)))) s8 s9 s10 s11) (fa := eVar 6) (fb := eOp addD (eVar 6) (eVar 7)) (i := r.1) (n := r.1 + r.2) (var_ok rfl) (op2 (var_ok rfl) (var_ok rfl) (by rw [addD_i, Int.natCast_add])) (by omega) (by omega)
    rw [Nat.add_sub_cancel_left, rng_nts] at r2
    unfold plR
    rw [lst_ok r2 (by simp; omega)]; rfl
  unfold plB
  rw [seq_nx (if_nx g), set_nx (d := nts (Q ++ List.range' r.1 r.2)) (op2 (var_ok rfl) rg (by rw [addL (by simp; omega), ← List.map_append]))]
  rfl
theorem last_rng (Q : List Nat) (a m : Nat) (h : 1 ≤ m) : (Q ++ List.range' a m).getD ((Q ++ List.range' a m).length - 1) 0 = a + m - 1 := by
  rw [List.length_append, List.length_range', List.getD_eq_getElem?_getD, List.getElem?_append_right (by omega), show Q.length + m - 1 - Q.length = m - 1 by omega, List.getElem?_range' (by omega)]
  simp; omega
theorem pl_loop (n : Nat) (hn : n ≤ 1000) : ∀ (rs : List Run) (b : Nat) (Q : List Nat) (s6 s7 : Option Sl), Ok2 b n rs → (Q = [] ∨ Q.getD (Q.length - 1) 0 + 2 ≤ b) → Q.length ≤ b →
    ∃ t6 t7, loopD (gPr 6 7) plB (rs.map rnD) (W a0 a1 a2 a3 a4 Q s6 s7 s8 s9 s10 s11) = .nx (W a0 a1 a2 a3 a4 (Q ++ rs.flatMap fun r => List.range' r.1 r.2) t6 t7 s8 s9 s10 s11) := fun rs => by
  induction rs with
  | nil => intro b Q s6 s7 _ _ _; exact ⟨s6, s7, by simp [loopD]⟩
  | cons r rs ih =>
    intro b Q s6 s7 ok hQ hl
    obtain ⟨o1, o2, o3, o4⟩ := ok
    have st := pl_step (a0 := a0) (a1 := a1) (a2 := a2) (a3 := a3) (a4 := a4) (s8 := s8) (s9 := s9) (s10 := s10) (s11 := s11) Q r b o1 o2 (by omega) hQ hl
    obtain ⟨t6, t7, e⟩ := ih (r.1 + r.2 + 1) (Q ++ List.range' r.1 r.2) (some (.val (.int (r.1 : Int)))) (some (.val (.int (r.2 : Int)))) o4 (.inr (by rw [last_rng Q r.1 r.2 o2]; omega)) (by simp; omega)
    refine ⟨t6, t7, ?_⟩
    rw [List.map_cons, loop_nx (τ1 := W a0 a1 a2 a3 a4 Q (some (.val (.int (r.1 : Int)))) (some (.val (.int (r.2 : Int)))) s8 s9 s10 s11) rfl st, e, List.flatMap_cons, List.append_assoc]
theorem ot_loop (A B C E F : Option Sl) (G H I J K : Option Sl) (s5 : Option Sl) : ∀ (us : List (List Nat)) (s11 : Option Sl), (∀ u ∈ us, u.length ≤ 1000) →
    ∃ t11, loopD (gNm 11) otB (us.map tx) [A, B, C, E, F, s5, G, H, I, J, K, s11] = .nx [A, B, C, E, F, s5, G, H, I, J, K, t11] := fun us => by
  induction us with
  | nil => intro s11 _; exact ⟨s11, rfl⟩
  | cons u us ih =>
    intro s11 h
    have hu := h u List.mem_cons_self
    obtain ⟨t11, e⟩ := ih (some (.val (tx u))) fun v hv => h v (List.mem_cons_of_mem _ hv)
    refine ⟨t11, ?_⟩
    have st : otB [A, B, C, E, F, s5, G, H, I, J, K, some (.val (tx u))] = .nx [A, B, C, E, F, s5, G, H, I, J, K, some (.val (tx u))] := by
      unfold otB
      exact if_nx (tB_ok (op2 (call1 (var_ok rfl) (told_ok u hu)) (call1 (var_ok rfl) (lread_ok u hu)) (ne_ans u)))
    rw [List.map_cons, loop_nx (τ1 := [A, B, C, E, F, s5, G, H, I, J, K, some (.val (tx u))]) rfl st]
    exact e
end
theorem sl_to (x : List Nat) (hx : x.length ≤ 1000) (n : Nat) : slD (tx x) none (some (n : Int)) = .ok (tx (x.take n)) := by
  simp only [slD]
  rw [if_pos (by rw [mk_len, sizeLine_v]; omega), slice_to]
theorem mul3 (t : List Nat) (h : t.length ≤ 1000) : mulSD (tx t) (.int 3) = .ok (tx (t ++ (t ++ t))) := by
  have e : str1int (tx t) (.int 3) = some (⟨t.toArray⟩, 3) := rfl
  unfold mulSD
  rw [e]
  dsimp only
  rw [if_pos ⟨by rw [mk_len]; exact h, by decide, by decide⟩]
  congr 3
  show (List.replicate 3 t).flatten.toArray = _
  congr 1
  simp [List.replicate]
theorem lst6 {f1 f2 f3 f4 f5 f6 : FE} {τ : DS} {d1 d2 d3 d4 d5 d6 : D} (h1 : f1 τ = .ok d1) (h2 : f2 τ = .ok d2) (h3 : f3 τ = .ok d3) (h4 : f4 τ = .ok d4) (h5 : f5 τ = .ok d5) (h6 : f6 τ = .ok d6) : eLst (aCons f1 (aCons f2 (aCons f3 (aCons f4 (aCons f5 (aCons f6 aNil)))))) τ = .ok (.lst [d1, d2, d3, d4, d5, d6]) := by
  rw [eLst_ap, aCons_ap, h1, Rs.bind_ok, aCons_ap, h2, Rs.bind_ok, aCons_ap, h3, Rs.bind_ok, aCons_ap, h4, Rs.bind_ok, aCons_ap, h5, Rs.bind_ok, aCons_ap, h6, Rs.bind_ok, aNil_ap, Rs.bind_ok, Rs.bind_ok, Rs.bind_ok, Rs.bind_ok, Rs.bind_ok, Rs.bind_ok, Rs.bind_ok]
  exact if_pos (by rw [sizeLine_v]; show 6 ≤ _; omega)
theorem six_l : ("[]a_ [" : Str) = ⟨([91, 93, 97, 95, 32, 91] : List Nat).toArray⟩ := by decide +kernel
theorem c_bb : ("[]" : Str) = ⟨([91, 93] : List Nat).toArray⟩ ∧ ("[a]" : Str) = ⟨([91, 97, 93] : List Nat).toArray⟩ := by decide +kernel
theorem main : ∀ ns : List Int, ns.length ≤ 63 → m_law [.scr ns] = .ok (.bl true) := by
  intro ns h63
  have hn := name_ok ns 0 h63 (by decide) (by decide)
  have dl := draw_lt ns 0 (m := 10) (by decide)
  have x1 : (nameL ns 0 (nameN ns 0)).length ≤ 10 ∧ 1 ≤ (nameL ns 0 (nameN ns 0)).length := by
    unfold nameL nameN
    simp only [List.length_map, List.length_range]
    omega
  have xs : ∀ c ∈ nameL ns 0 (nameN ns 0), c ∈ NS := fun c hc => by
    unfold nameL at hc
    obtain ⟨k, _, rfl⟩ := List.mem_map.mp hc
    exact name_sign ns 0 k (by omega)
  generalize nameL ns 0 (nameN ns 0) = x at *
  have hLT : ∀ c ∈ x, c ∈ LT := fun c hc => (by decide +kernel : ∀ c ∈ NS, c ∈ LT) c (xs c hc)
  have h2 := layE_ok ns h63 x x1.1
  have eP : lay0 ns x.length = idx 0 (mkR (fun k => drawZ ns (20 + (k : Int)) 2 == 0) 0 x) := by
    rw [mkR_idx]
    unfold lay0
    rw [List.range_eq_range']
  have er := mkR_fst (fun k => drawZ ns (20 + (k : Int)) 2 == 0) x 0
  rw [eP] at h2
  generalize mkR (fun k => drawZ ns (20 + (k : Int)) 2 == 0) 0 x = r at *
  have lr : r.length = x.length := by rw [← er, List.length_map]
  have nb : ∀ q ∈ r, isB q.1 = false := fun q hq => LT_nb _ (hLT _ (by rw [← er]; exact List.mem_map.mpr ⟨q, hq, rfl⟩))
  have rP := idx_ris r 0
  have nP : ∀ q ∈ idx 0 r, q < x.length := fun q hq => by have := idx_low r 0 q hq; omega
  have lP : (idx 0 r).length ≤ 10 := by have := idx_len r 0; omega
  have h3 : m_shown [tx x, nts (idx 0 r)] = .ok (tx (cn false r)) := by
    rw [shown_ok x (idx 0 r) (by omega) rP nP (by omega), ← sh_cn r, er]
  have fT : fl false (cn false r) = r := fl_cn r false nb
  have lT : (cn false r).length ≤ 21 := by have := cn_len r false; omega
  have oT : okT (cn false r) = true := by
    unfold okT nmT isNm
    rw [fT, er]
    simp only [Bool.and_eq_true, decide_eq_true_eq, List.all_eq_true]
    exact ⟨⟨⟨x1.2, by omega⟩, hLT⟩, trivial⟩
  have h4 : m_read_shown [tx (cn false r)] = .ok (.tup [tx x, nts (idx 0 r)]) := by
    rw [read_ok _ (by omega), oT, if_pos rfl]
    unfold nmT plT
    rw [fT, er]
  have hs : stp (cn false r) = x := by rw [stp_cn r false nb, er]
  have h5 := runs_ok x (idx 0 r) (by omega) (by omega) (ris_ok x.length (idx 0 r) 0 rP fun q hq => ⟨Nat.zero_le _, nP q hq⟩)
  have ok2 := run_ok x.length (idx 0 r) rP nP 0 fun _ _ => Nat.zero_le _
  have fr := flat_run (idx 0 r)
  generalize idx 0 r = P at *
  generalize cn false r = T at *
  have st : startD 12 [.scr ns] = [some (.val (.scr ns)), none, none, none, none, none, none, none, none, none, none, none] := rfl
  unfold m_law
  rw [law_b, runF_ap, st, seq_nx (set_nx (d := tx x) (i := 1) (fe := nmE) (by unfold nmE; exact call2 (var_ok rfl) rfl hn))]
  show flRes (sSeq _ _ [some (.val (.scr ns)), some (.val (tx x)), none, none, none, none, none, none, none, none, none, none]) = _
  rw [seq_nx (set_nx (h2 _))]
  show flRes (sSeq _ _ [some (.val (.scr ns)), some (.val (tx x)), some (.val (nts P)), none, none, none, none, none, none, none, none, none]) = _
  rw [seq_nx (set_nx (d := tx T) (i := 3) (fe := shE) (by unfold shE; exact call2 (var_ok rfl) (var_ok rfl) h3))]
  show flRes (sSeq _ _ [some (.val (.scr ns)), some (.val (tx x)), some (.val (nts P)), some (.val (tx T)), none, none, none, none, none, none, none, none]) = _
  have g : g4 [some (.val (.scr ns)), some (.val (tx x)), some (.val (nts P)), some (.val (tx T)), none, none, none, none, none, none, none, none] = .ok false := by
    unfold g4
    refine or_tr (tB_ok (op2 (call1 (var_ok rfl) h4) (tup2 (var_ok rfl) (var_ok rfl)) (ne_tup (gd_pair x P fun c hc => LT_lt c (hLT c hc)) (by decide)))) ((tB_ok (op2 (repl2_ok T (by omega) (var_ok rfl)) (var_ok rfl) (tx_ne _ _))).trans ?_)
    rw [hs, decide_eq_true rfl]; rfl
  rw [seq_nx (if_nx g)]
  rw [seq_nx (set_nx (d := .lst ((runR P).map rnD)) (i := 4) (fe := ruE) (by unfold ruE; exact call2 (var_ok rfl) (var_ok rfl) h5))]
  show flRes (sSeq _ _ [some (.val (.scr ns)), some (.val (tx x)), some (.val (nts P)), some (.val (tx T)), some (.val (.lst ((runR P).map rnD))), none, none, none, none, none, none, none]) = _
  rw [seq_nx (set_nx nilE)]
  show flRes (sSeq _ _ (W (some (.val (.scr ns))) (some (.val (tx x))) (some (.val (nts P))) (some (.val (tx T))) (some (.val (.lst ((runR P).map rnD)))) [] none none none none none none)) = _
  obtain ⟨t6, t7, lp⟩ := pl_loop (a0 := some (.val (.scr ns))) (a1 := some (.val (tx x))) (a2 := some (.val (nts P))) (a3 := some (.val (tx T))) (a4 := some (.val (.lst ((runR P).map rnD)))) (s8 := none) (s9 := none) (s10 := none) (s11 := none) x.length (by omega) (runR P) 0 [] none none ok2 (.inl rfl) (Nat.zero_le _)
  rw [List.nil_append, fr] at lp
  have it : iAny (eVar 4) (W (some (.val (.scr ns))) (some (.val (tx x))) (some (.val (nts P))) (some (.val (tx T))) (some (.val (.lst ((runR P).map rnD)))) [] none none none none none none) = .ok ((runR P).map rnD) := by rw [iAny_ap, var_ok (d := .lst ((runR P).map rnD)) rfl]; rfl
  rw [seq_nx (by rw [sFor_ap, it, Fl.of_ok]; exact lp)]
  rw [seq_nx (if_nx (tB_ok (op2 (var_ok rfl) (var_ok rfl) (ne_lstg (gd_nats (n := 0) P) (by decide)))))]
  have d1 := draw_lt ns 40 (m := (T.length : Int) + 1) (by omega)
  have k1 := draw_ok ns 40 ((T.length : Int) + 1) h63 (by decide) (by decide) (by omega)
  obtain ⟨a, ha⟩ : ∃ a : Nat, drawZ ns 40 ((T.length : Int) + 1) = (a : Int) := ⟨(drawZ ns 40 ((T.length : Int) + 1)).toNat, by omega⟩
  rw [ha] at d1 k1
  rw [seq_nx (set_nx (d := .int (a : Int)) (i := 8) (fe := atE) (by unfold atE; exact call3 (var_ok rfl) rfl (op2 (blt1 (var_ok rfl) (tx_len T (by omega))) rfl addD_i) k1))]
  show flRes (sSeq _ _ [some (.val (.scr ns)), some (.val (tx x)), some (.val (nts P)), some (.val (tx T)), some (.val (.lst ((runR P).map rnD))), some (.val (nts P)), t6, t7, some (.val (.int (a : Int))), none, none, none]) = _
  have d2 := draw_lt ns 41 (m := 6) (by decide)
  have k2 := draw_ok ns 41 6 h63 (by decide) (by decide) (by decide)
  obtain ⟨j, hj⟩ : ∃ j : Nat, drawZ ns 41 6 = (j : Int) := ⟨(drawZ ns 41 6).toNat, by omega⟩
  rw [hj] at d2 k2
  obtain ⟨c, hc⟩ : ∃ c, ([91, 93, 97, 95, 32, 91] : List Nat)[j]? = some c := ⟨_, List.getElem?_eq_getElem (show j < 6 by omega)⟩
  rw [seq_nx (set_nx (d := tx [c]) (i := 9) (fe := sgE) (by unfold sgE; exact op2 rfl (call3 (var_ok rfl) rfl rfl k2) (by rw [six_l]; exact tx_ix _ j c hc (by decide))))]
  show flRes (sSeq _ _ [some (.val (.scr ns)), some (.val (tx x)), some (.val (nts P)), some (.val (tx T)), some (.val (.lst ((runR P).map rnD))), some (.val (nts P)), t6, t7, some (.val (.int (a : Int))), some (.val (tx [c])), none, none]) = _
  have lt := List.length_take (i := a) (l := T)
  have ld := List.length_drop (i := a) (l := T)
  have ld1 := List.length_drop (i := a + 1) (l := T)
  have z1 : ∀ s10 : Option Sl, toE [some (.val (.scr ns)), some (.val (tx x)), some (.val (nts P)), some (.val (tx T)), some (.val (.lst ((runR P).map rnD))), some (.val (nts P)), t6, t7, some (.val (.int (a : Int))), some (.val (tx [c])), s10, none] = .ok (tx (T.take a)) := fun s10 => by
    unfold toE; exact sl_ok (var_ok rfl) rfl (os_ok (var_ok rfl)) (sl_to T (by omega) a)
  have z2 : ∀ s10 : Option Sl, frE0 [some (.val (.scr ns)), some (.val (tx x)), some (.val (nts P)), some (.val (tx T)), some (.val (.lst ((runR P).map rnD))), some (.val (nts P)), t6, t7, some (.val (.int (a : Int))), some (.val (tx [c])), s10, none] = .ok (tx (T.drop a)) := fun s10 => by
    unfold frE0; exact sl_ok (var_ok rfl) (os_ok (var_ok rfl)) rfl (sl_from T (by omega) a)
  have z3 : ∀ s10 : Option Sl, frE1 [some (.val (.scr ns)), some (.val (tx x)), some (.val (nts P)), some (.val (tx T)), some (.val (.lst ((runR P).map rnD))), some (.val (nts P)), t6, t7, some (.val (.int (a : Int))), some (.val (tx [c])), s10, none] = .ok (tx (T.drop (a + 1))) := fun s10 => by
    unfold frE1; exact sl_ok (l := some ((a + 1 : Nat) : Int)) (var_ok rfl) (os_ok (op2 (var_ok rfl) rfl (by rw [addD_i, Int.natCast_add]; rfl))) rfl (sl_from T (by omega) (a + 1))
  have e10 : smE [some (.val (.scr ns)), some (.val (tx x)), some (.val (nts P)), some (.val (tx T)), some (.val (.lst ((runR P).map rnD))), some (.val (nts P)), t6, t7, some (.val (.int (a : Int))), some (.val (tx [c])), none, none] = .ok (.lst [tx (T.take a ++ [c] ++ T.drop a), tx (T.take a ++ T.drop (a + 1)), tx (T.take a ++ [c] ++ T.drop (a + 1)), tx [], tx [91, 93], tx [91, 97, 93]]) := by
    unfold smE
    refine lst6 (op2 (op2 (z1 none) (var_ok rfl) (addT _ _ (by simp; omega))) (z2 none) (addT _ _ (by simp; omega))) (op2 (z1 none) (z3 none) (addT _ _ (by simp; omega))) (op2 (op2 (z1 none) (var_ok rfl) (addT _ _ (by simp; omega))) (z3 none) (addT _ _ (by simp; omega))) (emptyE _) ?_ ?_
    · rw [eC_ap, c_bb.1]
    · rw [eC_ap, c_bb.2]
  rw [seq_nx (set_nx e10)]
  show flRes (sSeq _ _ [some (.val (.scr ns)), some (.val (tx x)), some (.val (nts P)), some (.val (tx T)), some (.val (.lst ((runR P).map rnD))), some (.val (nts P)), t6, t7, some (.val (.int (a : Int))), some (.val (tx [c])), some (.val (.lst ([T.take a ++ [c] ++ T.drop a, T.take a ++ T.drop (a + 1), T.take a ++ [c] ++ T.drop (a + 1), [], [91, 93], [91, 97, 93]].map tx))), none]) = _
  have e11 : itI [some (.val (.scr ns)), some (.val (tx x)), some (.val (nts P)), some (.val (tx T)), some (.val (.lst ((runR P).map rnD))), some (.val (nts P)), t6, t7, some (.val (.int (a : Int))), some (.val (tx [c])), some (.val (.lst ([T.take a ++ [c] ++ T.drop a, T.take a ++ T.drop (a + 1), T.take a ++ [c] ++ T.drop (a + 1), [], [91, 93], [91, 97, 93]].map tx))), none] = .ok ([T.take a ++ [c] ++ T.drop a, T.take a ++ T.drop (a + 1), T.take a ++ [c] ++ T.drop (a + 1), [], [91, 93], [91, 97, 93], T.drop a, T ++ (T ++ T)].map tx) := by
    unfold itI
    rw [iAny_ap, op2 (var_ok rfl) (lst2e (z2 _) (op2 (var_ok rfl) rfl (mul3 T (by omega)))) (addL (by simp))]
    rfl
  obtain ⟨t11, l2⟩ := ot_loop (some (.val (.scr ns))) (some (.val (tx x))) (some (.val (nts P))) (some (.val (tx T))) (some (.val (.lst ((runR P).map rnD)))) t6 t7 (some (.val (.int (a : Int)))) (some (.val (tx [c]))) (some (.val (.lst ([T.take a ++ [c] ++ T.drop a, T.take a ++ T.drop (a + 1), T.take a ++ [c] ++ T.drop (a + 1), [], [91, 93], [91, 97, 93]].map tx)))) (some (.val (nts P))) [T.take a ++ [c] ++ T.drop a, T.take a ++ T.drop (a + 1), T.take a ++ [c] ++ T.drop (a + 1), [], [91, 93], [91, 97, 93], T.drop a, T ++ (T ++ T)] none (fun u hu => by
    simp only [List.mem_cons, List.not_mem_nil, or_false] at hu
    rcases hu with rfl | rfl | rfl | rfl | rfl | rfl | rfl | rfl <;> simp <;> omega)
  rw [seq_nx (by rw [sFor_ap, e11, Fl.of_ok]; exact l2), ret_rt (d := .bl true) rfl]; rfl
end Law
set_option Elab.async false
set_option linter.all false
set_option maxRecDepth 100000
set_option maxHeartbeats 4000000
namespace Law
open PySem PySem.Spec PyProof.Rows L2 FD
def top (i : Nat) : Stmt := PySem.Challenge.pw_fewfind_k41_whole_shown.main.body.getD i (.Pass ⟨0, 0, 0, 0⟩)
section
variable {P : Program} {w : World} {K : PySem.W.Frag} {mg : Str → Option Value} {base : Heap}
abbrev s__law_cell : Stmt := top 23
theorem sc__law_cell : FnScope ["_law_script", "_law_k"] ["_law_script", "_law_k"] (defScope s__law_cell) := ⟨rfl, rfl, rfl, by decide +kernel, rfl, by decide +kernel, by decide +kernel⟩
theorem ok__law_cell {f : Addr} {fd : FuncData} (A_ : DefAt K mg "_law_cell" s__law_cell f fd) (z_len : mg "len" = none) : DefOk P w K mg base "_law_cell" 1 2 ["_law_script", "_law_k"] m__law_cell := by
  refine DefOk.mk (k := 0) A_ sc__law_cell rfl (fun _ _ _ _ _ _ us hl => match us, hl with | [_, _], _ => rfl) (fun cdv A outer s H E hr => ?_) fun _ _ _ h => h
  exact (pdss_cons (pds_if (pdt_cmp (opd_eq hr.units) (pde_var (pv 0)) (pde_lst pda_nil) (nomark _)) (pdss_one (pds_ret (pde_op opd_mul pde_int (pde_var (pv 1))))) pdss_nil) (pdss_one (pds_ret (pde_op opd_add (pde_ix ix_ok (pde_var (pv 0)) (pde_op opd_mod (pde_var (pv 1)) (pde_callB cd_len rfl z_len PySem.boot_len (pda_cons (pde_var (pv 0)) pda_nil)))) (pde_op opd_mul pde_int (pde_op opd_fdiv (pde_var (pv 1)) (pde_callB cd_len rfl z_len PySem.boot_len (pda_cons (pde_var (pv 0)) pda_nil))))))))
abbrev s__law_drawn : Stmt := top 24
theorem sc__law_drawn : FnScope ["_law_script", "_law_k", "_law_many", "_law_cell_here"] ["_law_script", "_law_k", "_law_many"] (defScope s__law_drawn) := ⟨rfl, rfl, rfl, by decide +kernel, rfl, by decide +kernel, by decide +kernel⟩
theorem ok__law_drawn {f : Addr} {fd : FuncData} (A_ : DefAt K mg "_law_drawn" s__law_drawn f fd) (h__law_cell : DefOk P w K mg base "_law_cell" 1 2 ["_law_script", "_law_k"] m__law_cell) : DefOk P w K mg base "_law_drawn" 2 3 ["_law_script", "_law_k", "_law_many"] m__law_drawn := by
  refine DefOk.mk (k := 1) A_ sc__law_drawn rfl (fun _ _ _ _ _ _ us hl => match us, hl with | [_, _, _], _ => rfl) (fun cdv A outer s H E hr => ?_) fun _ _ _ h => h
  exact (pdss_cons (pds_set (i := 3) sc__law_drawn.nd rfl (Or.inl rfl) (pde_op opd_mod (pde_op opd_add (pde_op opd_mul (pde_op opd_mod (pde_def h__law_cell (hr.mono (by decide)) (pda_cons (pde_var (pv 0)) (pda_cons (pde_var (pv 1)) pda_nil)) (aCons_len (aCons_len aNil_len))) pde_int) pde_int) (pde_op opd_mul pde_int (pde_op opd_add (pde_var (pv 1)) pde_int))) pde_int)) (pdss_cons (pds_set (i := 3) sc__law_drawn.nd rfl (Or.inl rfl) (pde_op opd_mod (pde_op opd_add (pde_op opd_mul (pde_var (pv 3)) (pde_var (pv 3))) (pde_op opd_fdiv (pde_var (pv 3)) pde_int)) pde_int)) (pdss_one (pds_ret (pde_op opd_mod (pde_op opd_fdiv (pde_op opd_mod (pde_op opd_add (pde_op opd_mul (pde_var (pv 3)) (pde_var (pv 3))) (pde_op opd_fdiv (pde_var (pv 3)) pde_int)) pde_int) pde_int) (pde_var (pv 2)))))))
abbrev s__law_name : Stmt := top 25
theorem sc__law_name : FnScope ["_law_script", "_law_at", "_law_found", "_law_k"] ["_law_script", "_law_at"] (defScope s__law_name) := ⟨rfl, rfl, rfl, by decide +kernel, rfl, by decide +kernel, by decide +kernel⟩
theorem ok__law_name {f : Addr} {fd : FuncData} (A_ : DefAt K mg "_law_name" s__law_name f fd) (h__law_drawn : DefOk P w K mg base "_law_drawn" 2 3 ["_law_script", "_law_k", "_law_many"] m__law_drawn) (z_range : mg "range" = none) : DefOk P w K mg base "_law_name" 3 2 ["_law_script", "_law_at"] m__law_name := by
  refine DefOk.mk (k := 2) A_ sc__law_name rfl (fun _ _ _ _ _ _ us hl => match us, hl with | [_, _], _ => rfl) (fun cdv A outer s H E hr => ?_) fun _ _ _ h => h
  exact (pdss_cons (pds_set (i := 2) sc__law_name.nd rfl (Or.inl rfl) pde_str) (pdss_cons (pds_for PassesOwn.never rfl (pdi_range1 rfl z_range (pda_cons (pde_op opd_add pde_int (pde_def h__law_drawn (hr.mono (by decide)) (pda_cons (pde_var (pv 0)) (pda_cons (pde_var (pv 1)) (pda_cons pde_int pda_nil))) (aCons_len (aCons_len (aCons_len aNil_len))))) pda_nil)) (pdg_name sc__law_name.nd rfl (Or.inl rfl)) (pdss_one (pds_set (i := 2) sc__law_name.nd rfl (Or.inl rfl) (pde_op opd_add (pde_var (pv 2)) (pde_ix ix_ok pde_str (pde_def h__law_drawn (hr.mono (by decide)) (pda_cons (pde_var (pv 0)) (pda_cons (pde_op opd_add (pde_op opd_add (pde_var (pv 1)) pde_int) (pde_var (pv 3))) (pda_cons pde_int pda_nil))) (aCons_len (aCons_len (aCons_len aNil_len))))))))) (pdss_one (pds_ret (pde_var (pv 2))))))
abbrev s_is_whole : Stmt := top 14
theorem sc_is_whole : FnScope ["thing"] ["thing"] (defScope s_is_whole) := ⟨rfl, rfl, rfl, by decide +kernel, rfl, by decide +kernel, by decide +kernel⟩
theorem ok_is_whole {f : Addr} {fd : FuncData} (A_ : DefAt K mg "is_whole" s_is_whole f fd) (z_bool : mg "bool" = none) (z_isinstance : mg "isinstance" = none) (z_int : mg "int" = none) : DefOk P w K mg base "is_whole" 1 1 ["thing"] m_is_whole := by
  refine DefOk.mk (k := 0) A_ sc_is_whole rfl (fun _ _ _ _ _ _ us hl => match us, hl with | [_], _ => rfl) (fun cdv A outer s H E hr => ?_) fun _ _ _ h => h
  exact (pdss_one (pds_ret (pde_and (pde_callB cd_isi rfl z_isinstance boot_isinstance (pda_cons (pde_var (pv 0)) (pda_cons (pde_ty rfl z_int PyProof.Rows.boot_int) pda_nil))) (pde_one (pde_not (pde_callB cd_isi rfl z_isinstance boot_isinstance (pda_cons (pde_var (pv 0)) (pda_cons (pde_ty rfl z_bool PyProof.Rows.boot_bool) pda_nil))))))))
abbrev s_are_rising_places : Stmt := top 15
theorem sc_are_rising_places : FnScope ["name", "things", "least", "thing"] ["name", "things"] (defScope s_are_rising_places) := ⟨rfl, rfl, rfl, by decide +kernel, rfl, by decide +kernel, by decide +kernel⟩
theorem ok_are_rising_places {f : Addr} {fd : FuncData} (A_ : DefAt K mg "are_rising_places" s_are_rising_places f fd) (h_is_whole : DefOk P w K mg base "is_whole" 1 1 ["thing"] m_is_whole) (z_len : mg "len" = none) : DefOk P w K mg base "are_rising_places" 2 2 ["name", "things"] m_are_rising_places := by
  refine DefOk.mk (k := 1) A_ sc_are_rising_places rfl (fun _ _ _ _ _ _ us hl => match us, hl with | [_, _], _ => rfl) (fun cdv A outer s H E hr => ?_) fun _ _ _ h => h
  exact (pdss_cons (pds_set (i := 2) sc_are_rising_places.nd rfl (Or.inl rfl) pde_int) (pdss_cons (pds_for PassesOwn.never rfl (pdi_any (pde_var (pv 1))) (pdg_name sc_are_rising_places.nd rfl (Or.inl rfl)) (pdss_cons (pds_if (pdt_not (pdt_tru (pde_def h_is_whole (hr.mono (by decide)) (pda_cons (pde_var (pv 3)) pda_nil) (aCons_len aNil_len)))) (pdss_one (pds_ret pde_bl)) pdss_nil) (pdss_cons (pds_if (pdt_w (pdw_or (pdt_cmp opd_lt (pde_var (pv 3)) (pde_var (pv 2)) (nomark _)) (pdw_or1 (pdt_cmp opd_ge (pde_var (pv 3)) (pde_callB cd_len rfl z_len PySem.boot_len (pda_cons (pde_var (pv 0)) pda_nil)) (nomark _))))) (pdss_one (pds_ret pde_bl)) pdss_nil) (pdss_one (pds_set (i := 2) sc_are_rising_places.nd rfl (Or.inl rfl) (pde_op opd_add (pde_var (pv 3)) pde_int)))))) (pdss_one (pds_ret pde_bl))))
abbrev s_runs : Stmt := top 19
theorem sc_runs : FnScope ["name", "laying", "found", "place"] ["name", "laying"] (defScope s_runs) := ⟨rfl, rfl, rfl, by decide +kernel, rfl, by decide +kernel, by decide +kernel⟩
theorem ok_runs {f : Addr} {fd : FuncData} (A_ : DefAt K mg "runs" s_runs f fd) (h_are_rising_places : DefOk P w K mg base "are_rising_places" 2 2 ["name", "things"] m_are_rising_places) (z_len : mg "len" = none) : DefOk P w K mg base "runs" 3 2 ["name", "laying"] m_runs := by
  refine DefOk.mk (k := 2) A_ sc_runs rfl (fun _ _ _ _ _ _ us hl => match us, hl with | [_, _], _ => rfl) (fun cdv A outer s H E hr => ?_) fun _ _ _ h => h
  exact (pdss_cons (pds_if (pdt_not (pdt_tru (pde_def h_are_rising_places (hr.mono (by decide)) (pda_cons (pde_var (pv 0)) (pda_cons (pde_var (pv 1)) pda_nil)) (aCons_len (aCons_len aNil_len))))) (pdss_one pds_never) pdss_nil) (pdss_cons (pds_setO (i := 2) sc_runs.nd rfl (Or.inl rfl) (pdf_lst pda_nil)) (pdss_cons (pds_for PassesOwn.never rfl (pdi_any (pde_var (pv 1))) (pdg_name sc_runs.nd rfl (Or.inl rfl)) (pdss_one (pds_if (pdt_w (pdw_and (pdt_cmp opd_gt (pde_lenO (pv 2) rfl z_len) pde_int (nomark _)) (pdw_and1 (pdt_cmp (opd_eq hr.units) (pde_var (pv 3)) (pde_op opd_add (pde_ix ix_ok (pde_ixO (pv 2) (pde_neg pde_int)) pde_int) (pde_ix ix_ok (pde_ixO (pv 2) (pde_neg pde_int)) pde_int)) (nomark _))))) (pdss_one (pds_put (pv 2) (pde_neg pde_int) (pde_tup (pda_cons (pde_ix ix_ok (pde_ixO (pv 2) (pde_neg pde_int)) pde_int) (pda_cons (pde_op opd_add (pde_ix ix_ok (pde_ixO (pv 2) (pde_neg pde_int)) pde_int) pde_int) pda_nil))))) (pdss_one (pds_app (pv 2) (pde_tup (pda_cons (pde_var (pv 3)) (pda_cons pde_int pda_nil)))))))) (pdss_one (pds_retO (pv 2))))))
abbrev s_shown : Stmt := top 20
theorem sc_shown : FnScope ["name", "laying", "text", "behind", "first", "length"] ["name", "laying"] (defScope s_shown) := ⟨rfl, rfl, rfl, by decide +kernel, rfl, by decide +kernel, by decide +kernel⟩
theorem ok_shown {f : Addr} {fd : FuncData} (A_ : DefAt K mg "shown" s_shown f fd) (h_runs : DefOk P w K mg base "runs" 3 2 ["name", "laying"] m_runs) {t_OPENED : Tok} (g_OPENED : mg "OPENED" = some (.str "[" t_OPENED)) {t_CLOSED : Tok} (g_CLOSED : mg "CLOSED" = some (.str "]" t_CLOSED)) : DefOk P w K mg base "shown" 4 2 ["name", "laying"] m_shown := by
  refine DefOk.mk (k := 3) A_ sc_shown rfl (fun _ _ _ _ _ _ us hl => match us, hl with | [_, _], _ => rfl) (fun cdv A outer s H E hr => ?_) fun _ _ _ h => h
  exact (pdss_cons (pds_set (i := 2) sc_shown.nd rfl (Or.inl rfl) pde_str) (pdss_cons (pds_set (i := 3) sc_shown.nd rfl (Or.inl rfl) pde_int) (pdss_cons (pds_for PassesOwn.never rfl (pdi_any (pde_def h_runs (hr.mono (by decide)) (pda_cons (pde_var (pv 0)) (pda_cons (pde_var (pv 1)) pda_nil)) (aCons_len (aCons_len aNil_len)))) (pdg_pair rfl sc_shown.nd rfl (Or.inl rfl) rfl (Or.inl rfl)) (pdss_cons (pds_augS (i := 2) sc_shown.nd rfl (Or.inl rfl) (pde_op opd_add (pde_op opd_add (pde_op opd_add (pde_sl (pde_var (pv 0)) (pdo_some (pde_var (pv 3))) (pdo_some (pde_var (pv 4)))) (pde_glS rfl g_OPENED)) (pde_sl (pde_var (pv 0)) (pdo_some (pde_var (pv 4))) (pdo_some (pde_op opd_add (pde_var (pv 4)) (pde_var (pv 5)))))) (pde_glS rfl g_CLOSED))) (pdss_one (pds_set (i := 3) sc_shown.nd rfl (Or.inl rfl) (pde_op opd_add (pde_var (pv 4)) (pde_var (pv 5))))))) (pdss_one (pds_ret (pde_op opd_add (pde_var (pv 2)) (pde_sl (pde_var (pv 0)) (pdo_some (pde_var (pv 3))) pdo_none)))))))
abbrev s_is_query_sign : Stmt := top 11
theorem sc_is_query_sign : FnScope ["sign"] ["sign"] (defScope s_is_query_sign) := ⟨rfl, rfl, rfl, by decide +kernel, rfl, by decide +kernel, by decide +kernel⟩
theorem ok_is_query_sign {f : Addr} {fd : FuncData} (A_ : DefAt K mg "is_query_sign" s_is_query_sign f fd) {t_FIGURES : Tok} (g_FIGURES : mg "FIGURES" = some (.str "0123456789" t_FIGURES)) {t_GREAT : Tok} (g_GREAT : mg "GREAT" = some (.str "ABCDEFGHIJKLMNOPQRSTUVWXYZ" t_GREAT)) {t_SMALL : Tok} (g_SMALL : mg "SMALL" = some (.str "abcdefghijklmnopqrstuvwxyz" t_SMALL)) : DefOk P w K mg base "is_query_sign" 1 1 ["sign"] m_is_query_sign := by
  refine DefOk.mk (k := 0) A_ sc_is_query_sign rfl (fun _ _ _ _ _ _ us hl => match us, hl with | [_], _ => rfl) (fun cdv A outer s H E hr => ?_) fun _ _ _ h => h
  exact (pdss_one (pds_ret (pde_or (pde_cmp (opd_in (room128 hr)) (pde_var (pv 0)) (pde_glS rfl g_SMALL) (by with_unfolding_all rfl)) (pde_or (pde_cmp (opd_in (room128 hr)) (pde_var (pv 0)) (pde_glS rfl g_GREAT) (by with_unfolding_all rfl)) (pde_one (pde_cmp (opd_in (room128 hr)) (pde_var (pv 0)) (pde_glS rfl g_FIGURES) (by with_unfolding_all rfl)))))))
abbrev s_is_name_sign : Stmt := top 12
theorem sc_is_name_sign : FnScope ["sign"] ["sign"] (defScope s_is_name_sign) := ⟨rfl, rfl, rfl, by decide +kernel, rfl, by decide +kernel, by decide +kernel⟩
theorem ok_is_name_sign {f : Addr} {fd : FuncData} (A_ : DefAt K mg "is_name_sign" s_is_name_sign f fd) (h_is_query_sign : DefOk P w K mg base "is_query_sign" 1 1 ["sign"] m_is_query_sign) {t_MARKS : Tok} (g_MARKS : mg "MARKS" = some (.str "_-./" t_MARKS)) : DefOk P w K mg base "is_name_sign" 2 1 ["sign"] m_is_name_sign := by
  refine DefOk.mk (k := 1) A_ sc_is_name_sign rfl (fun _ _ _ _ _ _ us hl => match us, hl with | [_], _ => rfl) (fun cdv A outer s H E hr => ?_) fun _ _ _ h => h
  exact (pdss_one (pds_ret (pde_or (pde_def h_is_query_sign (hr.mono (by decide)) (pda_cons (pde_var (pv 0)) pda_nil) (aCons_len aNil_len)) (pde_one (pde_cmp (opd_in (room128 hr)) (pde_var (pv 0)) (pde_glS rfl g_MARKS) (by with_unfolding_all rfl))))))
abbrev s_is_name : Stmt := top 13
theorem sc_is_name : FnScope ["thing"] ["thing"] (defScope s_is_name) := ⟨rfl, rfl, rfl, by decide +kernel, rfl, by decide +kernel, by decide +kernel⟩
theorem ok_is_name {f : Addr} {fd : FuncData} (A_ : DefAt K mg "is_name" s_is_name f fd) (h_is_name_sign : DefOk P w K mg base "is_name_sign" 2 1 ["sign"] m_is_name_sign) {t_LONGEST_NAME : Tok} (g_LONGEST_NAME : mg "LONGEST_NAME" = some (.int 24 t_LONGEST_NAME)) (z_all : mg "all" = none) (z_len : mg "len" = none) (z_str : mg "str" = none) (z_isinstance : mg "isinstance" = none) : DefOk P w K mg base "is_name" 3 1 ["thing"] m_is_name := by
  refine DefOk.mk (k := 2) A_ sc_is_name rfl (fun _ _ _ _ _ _ us hl => match us, hl with | [_], _ => rfl) (fun cdv A outer s H E hr => ?_) fun _ _ _ h => h
  exact (pdss_cons (pds_if (pdt_not (pdt_tru (pde_callB cd_isi rfl z_isinstance boot_isinstance (pda_cons (pde_var (pv 0)) (pda_cons (pde_ty rfl z_str PyProof.Rows.boot_str) pda_nil))))) (pdss_one (pds_ret pde_bl)) pdss_nil) (pdss_cons (pds_if (pdt_w (pdw_or (pdt_cmp opd_lt (pde_callB cd_len rfl z_len PySem.boot_len (pda_cons (pde_var (pv 0)) pda_nil)) pde_int (nomark _)) (pdw_or1 (pdt_cmp opd_gt (pde_callB cd_len rfl z_len PySem.boot_len (pda_cons (pde_var (pv 0)) pda_nil)) (pde_glI rfl g_LONGEST_NAME) (nomark _))))) (pdss_one (pds_ret pde_bl)) pdss_nil) (pdss_one (pds_ret (pde_callB (cd_all rfl) rfl z_all boot_all (pda_cons (pde_fr (pdf_comp (tn := ["sign"]) (fr := []) (idx := []) rfl rfl trivial (setOk_nm 0) (pdi_any (pde_var (pv 0))) (fun s H C fp => (pdg_name (show List.Nodup (["sign"] : List Str) by decide +kernel) rfl (Or.inl rfl))) (fun s H C fp => pdts_nil) (fun s H C fp => (pde_def h_is_name_sign (hr.mono (by decide)) (pda_cons (pde_var (pv 0)) pda_nil) (aCons_len aNil_len))))) pda_nil))))))
abbrev s_read_shown : Stmt := top 21
theorem sc_read_shown : FnScope ["text", "name", "places", "within", "sign"] ["text"] (defScope s_read_shown) := ⟨rfl, rfl, rfl, by decide +kernel, rfl, by decide +kernel, by decide +kernel⟩
theorem ok_read_shown {f : Addr} {fd : FuncData} (A_ : DefAt K mg "read_shown" s_read_shown f fd) {C_NoText : Addr} (t_NoText : EC K mg "NoText" C_NoText) (h_shown : DefOk P w K mg base "shown" 4 2 ["name", "laying"] m_shown) (h_is_name : DefOk P w K mg base "is_name" 3 1 ["thing"] m_is_name) {t_CLOSED : Tok} (g_CLOSED : mg "CLOSED" = some (.str "]" t_CLOSED)) {t_OPENED : Tok} (g_OPENED : mg "OPENED" = some (.str "[" t_OPENED)) (z_len : mg "len" = none) : DefX P w K mg base "read_shown" 5 1 ["text"] m_read_shown := by
  refine DefX.mk (k := 4) A_ sc_read_shown rfl (fun _ _ _ _ _ _ us hl => match us, hl with | [_], _ => rfl) (fun cdv A outer s H E hr => ?_)
  exact (pdss_cons (pds_quiet (pds_set (i := 1) sc_read_shown.nd rfl (Or.inl rfl) pde_str)) (pdss_cons (pds_quiet (pds_setO (i := 2) sc_read_shown.nd rfl (Or.inl rfl) (pdf_lst pda_nil))) (pdss_cons (pds_quiet (pds_set (i := 3) sc_read_shown.nd rfl (Or.inl rfl) pde_bl)) (pdss_cons (pds_quiet (pds_for PassesOwn.never rfl (pdi_any (pde_var (pv 0))) (pdg_name sc_read_shown.nd rfl (Or.inl rfl)) (pdss_one (pds_if (pdt_w (pdw_or (pdt_cmp (opd_eq hr.units) (pde_var (pv 4)) (pde_glS rfl g_OPENED) (nomark _)) (pdw_or1 (pdt_cmp (opd_eq hr.units) (pde_var (pv 4)) (pde_glS rfl g_CLOSED) (nomark _))))) (pdss_one (pds_set (i := 3) sc_read_shown.nd rfl (Or.inl rfl) (pde_cmp (opd_eq hr.units) (pde_var (pv 4)) (pde_glS rfl g_OPENED) (nomark _)))) (pdss_cons (pds_if (pdt_tru (pde_var (pv 3))) (pdss_one (pds_app (pv 2) (pde_callB cd_len rfl z_len PySem.boot_len (pda_cons (pde_var (pv 1)) pda_nil)))) pdss_nil) (pdss_one (pds_augS (i := 1) sc_read_shown.nd rfl (Or.inl rfl) (pde_var (pv 4))))))))) (pdss_cons (pds_if (pdt_w (pdw_or (pdt_not (pdt_tru (pde_def h_is_name (hr.mono (by decide)) (pda_cons (pde_var (pv 1)) pda_nil) (aCons_len aNil_len)))) (pdw_or1 (pdt_cmp (opd_ne hr.units) (pde_fz (pde_def h_shown (hr.mono (by decide)) (pda_cons (pde_var (pv 1)) (pda_cons (pde_var (pv 2)) pda_nil)) (aCons_len (aCons_len aNil_len)))) (pde_var (pv 0)) (nomark _))))) (pdss_one (pds_raise t_NoText rfl hr.hd pde_str)) pdss_nil) (pdss_quiet (pdss_one (pds_frz (pds_ret (pde_tup (pda_cons (pde_var (pv 1)) (pda_cons (pde_var (pv 2)) pda_nil))))))))))))
abbrev s__law_told : Stmt := top 29
theorem sc__law_told : FnScope ["_law_text", "e", "_law_flags"] ["_law_text"] (defScope s__law_told) := ⟨rfl, rfl, rfl, by decide +kernel, rfl, by decide +kernel, by decide +kernel⟩
theorem ok__law_told {f : Addr} {fd : FuncData} (A_ : DefAt K mg "_law_told" s__law_told f fd) {C_NoText : Addr} (t_NoText : EC K mg "NoText" C_NoText) (q_NoText_ValueError : PySem.W.kitOne K (.ref C_NoText) (.type "ValueError") = some true) (k_NoText : ECK K C_NoText) {C_NoFit : Addr} (t_NoFit : EC K mg "NoFit" C_NoFit) (q_NoText_NoFit : PySem.W.kitOne K (.ref C_NoText) (.ref C_NoFit) = some false) {C_NoLaying : Addr} (t_NoLaying : EC K mg "NoLaying" C_NoLaying) (q_NoText_NoLaying : PySem.W.kitOne K (.ref C_NoText) (.ref C_NoLaying) = some false) (q_NoText_NoText : PySem.W.kitOne K (.ref C_NoText) (.ref C_NoText) = some true) {C_FindError : Addr} (t_FindError : EC K mg "FindError" C_FindError) (x_NoText_FindError : PySem.W.exmOne K (.ref C_NoText) (.ref C_FindError) = some true) (h_read_shown : DefX P w K mg base "read_shown" 5 1 ["text"] m_read_shown) (z_isinstance : mg "isinstance" = none) (z_ValueError : mg "ValueError" = none) : DefOk P w K mg base "_law_told" 6 1 ["_law_text"] m__law_told := by
  refine DefOk.mk (k := 5) A_ sc__law_told rfl (fun _ _ _ _ _ _ us hl => match us, hl with | [_], _ => rfl) (fun cdv A outer s H E hr => ?_) fun _ _ _ h => h
  exact (pdss_cons (pds_tryAs ⟨rfl, rfl, rfl⟩ t_FindError sc__law_told.nd rfl rfl (fun pins E => (pdss_one (pds_retX (pe_callX h_read_shown rfl (hr.mono (by decide)) (pda_cons (pde_var (pv 0)) pda_nil) (aCons_len aNil_len))))) (fun a => (pdss_cons (pds_set (i := 2) sc__law_told.nd rfl (Or.inl rfl) (pde_lst (pda_cons (pde_isX1 t_NoText k_NoText (pde_var (pv 1)) (pe_glob rfl t_NoText.mgl (show RelV (V.ref C_NoText) (Value.ref C_NoText) from rfl)) rel_ref q_NoText_NoText z_isinstance) (pda_cons (pde_isX1 t_NoText k_NoText (pde_var (pv 1)) (pe_glob rfl t_NoLaying.mgl (show RelV (V.ref C_NoLaying) (Value.ref C_NoLaying) from rfl)) rel_ref q_NoText_NoLaying z_isinstance) (pda_cons (pde_isX1 t_NoText k_NoText (pde_var (pv 1)) (pe_glob rfl t_NoFit.mgl (show RelV (V.ref C_NoFit) (Value.ref C_NoFit) from rfl)) rel_ref q_NoText_NoFit z_isinstance) pda_nil))))) (pdss_one (pds_if (pdt_w (pdw_and (pdt_tru (pde_isX1 t_NoText k_NoText (pde_var (pv 1)) (pe_bltn rfl z_ValueError boot_VE (show RelV (V.ty "ValueError") (Value.type "ValueError") from rfl)) rel_ty q_NoText_ValueError z_isinstance)) (pdw_and1 (pdt_cmp (opd_eq hr.units) (pde_var (pv 2)) (pde_lst (by refine pda_cons ?_ ?_ ?_; exact pde_bl; (rotate_left; exact st_const); refine pda_cons ?_ ?_ ?_; exact pde_bl; (rotate_left; exact st_const); refine pda_cons ?_ ?_ ?_; exact pde_bl; (rotate_left; exact st_const); exact pda_nil)) (nomark _))))) (pdss_one (pds_ret pde_non)) pdss_nil)))) (ok1 t_NoText x_NoText_FindError)) (pdss_one (pds_ret pde_bl)))
abbrev s__law_read : Stmt := top 30
theorem sc__law_read : FnScope ["_law_text", "_law_letters", "_law_name_here", "_law_places", "_law_ahead", "_law_at", "_law_sign"] ["_law_text"] (defScope s__law_read) := ⟨rfl, rfl, rfl, by decide +kernel, rfl, by decide +kernel, by decide +kernel⟩
theorem ok__law_read {f : Addr} {fd : FuncData} (A_ : DefAt K mg "_law_read" s__law_read f fd) (z_len : mg "len" = none) (z_enumerate : mg "enumerate" = none) : DefOk P w K mg base "_law_read" 1 1 ["_law_text"] m__law_read := by
  refine DefOk.mk (k := 0) A_ sc__law_read rfl (fun _ _ _ _ _ _ us hl => match us, hl with | [_], _ => rfl) (fun cdv A outer s H E hr => ?_) fun _ _ _ h => h
  exact (pdss_cons (pds_set (i := 1) sc__law_read.nd rfl (Or.inl rfl) pde_str) (pdss_cons (pds_set (i := 2) sc__law_read.nd rfl (Or.inl rfl) pde_str) (pdss_cons (pds_setO (i := 3) sc__law_read.nd rfl (Or.inl rfl) (pdf_lst pda_nil)) (pdss_cons (pds_set (i := 4) sc__law_read.nd rfl (Or.inl rfl) pde_str) (pdss_cons (pds_for PassesOwn.never rfl (pdi_enumS rfl z_enumerate (pda_cons (pde_var (pv 0)) pda_nil)) (pdg_pair rfl sc__law_read.nd rfl (Or.inl rfl) rfl (Or.inl rfl)) (pdss_one (pds_if (pdt_cmp (opd_in (room128 hr)) (pde_var (pv 6)) pde_str (by with_unfolding_all rfl)) (pdss_cons (pds_if (pdt_w (pdw_or (pdt_cmp (opd_eq hr.units) (pde_var (pv 6)) (pde_var (pv 4)) (nomark _)) (pdw_or (pdt_cmp (opd_eq hr.units) (pde_sl (pde_var (pv 0)) (pdo_some (pde_op opd_sub (pde_var (pv 5)) pde_int)) (pdo_some (pde_var (pv 5)))) pde_str (nomark _)) (pdw_or1 (pdt_w (pdw_and (pdt_cmp (opd_eq hr.units) (pde_var (pv 6)) pde_str (nomark _)) (pdw_and1 (pdt_cmp (opd_eq hr.units) (pde_sl (pde_var (pv 0)) (pdo_some (pde_op opd_sub (pde_var (pv 5)) pde_int)) (pdo_some (pde_var (pv 5)))) pde_str (nomark _))))))))) (pdss_one (pds_ret pde_non)) pdss_nil) (pdss_one (pds_set (i := 4) sc__law_read.nd rfl (Or.inl rfl) (pde_var (pv 6))))) (pdss_one (pds_if (pdt_cmp (opd_notIn (room128 hr)) (pde_var (pv 6)) (pde_var (pv 1)) (by with_unfolding_all rfl)) (pdss_one (pds_ret pde_non)) (pdss_cons (pds_if (pdt_cmp (opd_eq hr.units) (pde_var (pv 4)) pde_str (nomark _)) (pdss_one (pds_app (pv 3) (pde_callB cd_len rfl z_len PySem.boot_len (pda_cons (pde_var (pv 2)) pda_nil)))) pdss_nil) (pdss_one (pds_set (i := 2) sc__law_read.nd rfl (Or.inl rfl) (pde_op opd_add (pde_var (pv 2)) (pde_var (pv 6))))))))))) (pdss_cons (pds_if (pdt_w (pdw_or (pdt_cmp (opd_eq hr.units) (pde_var (pv 4)) pde_str (nomark _)) (pdw_or1 (pdt_not (pdt_chain opd_le opd_le pde_int (pde_callB cd_len rfl z_len PySem.boot_len (pda_cons (pde_var (pv 2)) pda_nil)) pde_int))))) (pdss_one (pds_ret pde_non)) pdss_nil) (pdss_one (pds_frz (pds_ret (pde_tup (pda_cons (pde_var (pv 2)) (pda_cons (pde_var (pv 3)) pda_nil))))))))))))
abbrev s_law : Stmt := top 31
theorem sc_law : FnScope ["_law_script", "_law_name_here", "_law_laying", "_law_text", "_law_told_here", "_law_places", "_law_start", "_law_many", "_law_at", "_law_sign", "_law_some", "_law_other"] ["_law_script"] (defScope s_law) := ⟨rfl, rfl, rfl, by decide +kernel, rfl, by decide +kernel, by decide +kernel⟩
theorem ok_law {f : Addr} {fd : FuncData} (A_ : Fun K "law" "law" s_law f fd) (h__law_told : DefOk P w K mg base "_law_told" 6 1 ["_law_text"] m__law_told) (h__law_read : DefOk P w K mg base "_law_read" 1 1 ["_law_text"] m__law_read) (h__law_drawn : DefOk P w K mg base "_law_drawn" 2 3 ["_law_script", "_law_k", "_law_many"] m__law_drawn) (h_runs : DefOk P w K mg base "runs" 3 2 ["name", "laying"] m_runs) (h_read_shown : DefX P w K mg base "read_shown" 5 1 ["text"] m_read_shown) (h_shown : DefOk P w K mg base "shown" 4 2 ["name", "laying"] m_shown) (h__law_name : DefOk P w K mg base "_law_name" 3 2 ["_law_script", "_law_at"] m__law_name) (z_len : mg "len" = none) (z_list : mg "list" = none) (z_range : mg "range" = none) : FnOk P w K mg base CX0 7 f fd ["_law_script"] (spD K 1 m_law) := by
  refine fnD (k := 6) A_ sc_law rfl fun cdv A outer s H E hr => ?_
  exact (pdss_pos (i := 1) sc_law.nd rfl (Or.inl rfl) h__law_name (hr.mono (by decide)) (pde_var (pv 0)) (qdss_cons (qds_of (pds_comp (i := 2) sc_law.nd rfl rfl rfl (tn := ["_law_place"]) (fr := ["_law_script"]) (idx := [0]) rfl rfl ⟨rfl, rfl, trivial⟩ (setOk_nm 0) (pdi_range1 rfl z_range (pda_cons (pde_callB cd_len rfl z_len PySem.boot_len (pda_cons (pde_var (pv 1)) pda_nil)) pda_nil)) (fun s H C fp => (pdg_name (show List.Nodup (["_law_place", "_law_script"] : List Str) by decide +kernel) rfl (Or.inl rfl))) (fun s H C fp => (pdts_one (pdt_cmp (opd_eq hr.units) (pde_def h__law_drawn (hr.mono (by decide)) (pda_cons (pde_var (pv 1)) (pda_cons (pde_op opd_add pde_int (pde_var (pv 0))) (pda_cons pde_int pda_nil))) (aCons_len (aCons_len (aCons_len aNil_len)))) pde_int (nomark _)))) (fun s H C fp => (pde_var (pv 0))))) (qdss_cons (qds_of (pds_set (i := 3) sc_law.nd rfl (Or.inl rfl) (pde_def h_shown (hr.mono (by decide)) (pda_cons (pde_var (pv 1)) (pda_cons (pde_var (pv 2)) pda_nil)) (aCons_len (aCons_len aNil_len))))) (qdss_cons (qds_if (qdt_w (qdw_or (pdt_cmp (opd_ne hr.units) (pde_callN (pe_callX h_read_shown rfl (hr.mono (by decide)) (pda_cons (pde_var (pv 3)) pda_nil) (aCons_len aNil_len))) (pde_tup (pda_cons (pde_var (pv 1)) (pda_cons (pde_var (pv 2)) pda_nil))) (nomark _)) (qdw_or1 (qdt_cmp (opd_ne hr.units) (qde_repl (y := "]") (z := "") (by decide) (by decide) (qde_repl (y := "[") (z := "") (by decide) (by decide) (qde_of (pde_var (pv 3))) ⟨rfl, rfl, rfl, rfl⟩) ⟨rfl, rfl, rfl, rfl⟩) (pde_var (pv 1)) (nomark _))))) (pdss_one (pds_ret pde_bl)) pdss_nil) (qdss_of (pdss_cons (pds_set (i := 4) sc_law.nd rfl (Or.inl rfl) (pde_def h_runs (hr.mono (by decide)) (pda_cons (pde_var (pv 1)) (pda_cons (pde_var (pv 2)) pda_nil)) (aCons_len (aCons_len aNil_len)))) (pdss_cons (pds_set (i := 5) sc_law.nd rfl (Or.inl rfl) (pde_lst pda_nil)) (pdss_cons (pds_for PassesOwn.never rfl (pdi_any (pde_var (pv 4))) (pdg_pair rfl sc_law.nd rfl (Or.inl rfl) rfl (Or.inl rfl)) (pdss_cons (pds_if (pdt_w (pdw_or (pdt_cmp opd_lt (pde_var (pv 7)) pde_int (nomark _)) (pdw_or1 (pdt_w (pdw_and (pdt_cmp (opd_ne hr.units) (pde_var (pv 5)) (pde_lst pda_nil) (nomark _)) (pdw_and1 (pdt_cmp opd_le (pde_var (pv 6)) (pde_op opd_add (pde_ix ix_ok (pde_var (pv 5)) (pde_neg pde_int)) pde_int) (nomark _)))))))) (pdss_one (pds_ret pde_bl)) pdss_nil) (pdss_one (pds_set (i := 5) sc_law.nd rfl (Or.inl rfl) (pde_op opd_add (pde_var (pv 5)) (pde_fr (pdf_list_range2 rfl rfl z_list rfl z_range (pda_cons (pde_var (pv 6)) (pda_cons (pde_op opd_add (pde_var (pv 6)) (pde_var (pv 7))) pda_nil))))))))) (pdss_cons (pds_if (pdt_cmp (opd_ne hr.units) (pde_var (pv 5)) (pde_var (pv 2)) (nomark _)) (pdss_one (pds_ret pde_bl)) pdss_nil) (pdss_cons (pds_set (i := 8) sc_law.nd rfl (Or.inl rfl) (pde_def h__law_drawn (hr.mono (by decide)) (pda_cons (pde_var (pv 0)) (pda_cons pde_int (pda_cons (pde_op opd_add (pde_callB cd_len rfl z_len PySem.boot_len (pda_cons (pde_var (pv 3)) pda_nil)) pde_int) pda_nil))) (aCons_len (aCons_len (aCons_len aNil_len))))) (pdss_cons (pds_set (i := 9) sc_law.nd rfl (Or.inl rfl) (pde_ix ix_ok pde_str (pde_def h__law_drawn (hr.mono (by decide)) (pda_cons (pde_var (pv 0)) (pda_cons pde_int (pda_cons pde_int pda_nil))) (aCons_len (aCons_len (aCons_len aNil_len)))))) (pdss_cons (pds_set (i := 10) sc_law.nd rfl (Or.inl rfl) (by refine pde_lst ?_; exact (by refine pda_cons ?_ ?_ ?_; exact (pde_op opd_add (pde_op opd_add (pde_sl (pde_var (pv 3)) pdo_none (pdo_some (pde_var (pv 8)))) (pde_var (pv 9))) (pde_sl (pde_var (pv 3)) (pdo_some (pde_var (pv 8))) pdo_none)); (rotate_left; exact st_bin); refine pda_cons ?_ ?_ ?_; exact (pde_op opd_add (pde_sl (pde_var (pv 3)) pdo_none (pdo_some (pde_var (pv 8)))) (pde_sl (pde_var (pv 3)) (pdo_some (pde_op opd_add (pde_var (pv 8)) pde_int)) pdo_none)); (rotate_left; exact st_bin); refine pda_cons ?_ ?_ ?_; exact (pde_op opd_add (pde_op opd_add (pde_sl (pde_var (pv 3)) pdo_none (pdo_some (pde_var (pv 8)))) (pde_var (pv 9))) (pde_sl (pde_var (pv 3)) (pdo_some (pde_op opd_add (pde_var (pv 8)) pde_int)) pdo_none)); (rotate_left; exact st_bin); refine pda_cons ?_ ?_ ?_; exact pde_str; (rotate_left; exact st_const); refine pda_cons ?_ ?_ ?_; exact pde_str; (rotate_left; exact st_const); refine pda_cons ?_ ?_ ?_; exact pde_str; (rotate_left; exact st_const); exact pda_nil))) (pdss_cons (pds_for PassesOwn.never rfl (pdi_any (pde_op opd_add (pde_var (pv 10)) (pde_lst (pda_cons (pde_sl (pde_var (pv 3)) (pdo_some (pde_var (pv 8))) pdo_none) (pda_cons (pde_op opd_mulS (pde_var (pv 3)) pde_int) pda_nil))))) (pdg_name sc_law.nd rfl (Or.inl rfl)) (pdss_one (pds_if (pdt_cmp (opd_ne hr.units) (pde_def h__law_told (hr.mono (by decide)) (pda_cons (pde_var (pv 11)) pda_nil) (aCons_len aNil_len)) (pde_def h__law_read (hr.mono (by decide)) (pda_cons (pde_var (pv 11)) pda_nil) (aCons_len aNil_len)) (nomark _)) (pdss_one (pds_ret pde_bl)) pdss_nil))) (pdss_one (pds_ret pde_bl)))))))))))))))
end
theorem all_mk {l : PySem.W.OpenLaw} {w : World} {K : PySem.W.Frag} {h : Heap} {mg : Str → Option Value} {fa : Addr} (X : K.In h) (G : h.Ns mainGlobals mg) (hfa : mg "law" = some (.ref fa)) (hl : ∀ ns : List Int, ns.length ≤ 63 → m_law [.scr ns] = .ok (.bl true))
    {f0 f1 f2 f3 f4 f5 f6 f7 f8 f9 f10 f11 f12 f13 : Addr} {od0 an0 od1 an1 od2 an2 od3 an3 od4 an4 od5 an5 od6 an6 od7 an7 od8 an8 od9 an9 od10 an10 od11 an11 od12 an12 od13 an13 : Option Addr} {sl0 sl1 sl2 sl3 sl4 sl5 sl6 sl7 sl8 sl9 sl10 sl11 sl12 sl13 : Array (Option Value)} {oc0 kV0 dc0 pm0 ct0 cd0 oc1 kV1 dc1 pm1 ct1 cd1 oc2 kV2 dc2 pm2 ct2 cd2 oc3 kV3 dc3 pm3 ct3 cd3 oc4 kV4 dc4 pm4 ct4 cd4 oc5 kV5 dc5 pm5 ct5 cd5 oc6 kV6 dc6 pm6 ct6 cd6 oc7 kV7 dc7 pm7 ct7 cd7 oc8 kV8 dc8 pm8 ct8 cd8 oc9 kV9 dc9 pm9 ct9 cd9 oc10 kV10 dc10 pm10 ct10 cd10 oc11 kV11 dc11 pm11 ct11 cd11 oc12 kV12 dc12 pm12 ct12 cd12 oc13 kV13 dc13 pm13 ct13 cd13 : Value} {t_OPENED t_CLOSED t_FIGURES t_GREAT t_SMALL t_MARKS t_LONGEST_NAME : Tok}
    (a0 : PySem.W.nsIn K mainGlobals "_law_cell" = some (some (.ref f0))) (l0 : K.lookup f0 = some ⟨oc0, od0, .func (PySem.W.fnOf "_law_cell" "_law_cell" (defArgs s__law_cell) (defBody s__law_cell) (defScope s__law_cell) .none kV0 dc0 pm0 an0 cd0 ct0), sl0⟩) (c0 : PySem.W.codeIn K cd0 "_law_cell" = true) (k0 : PySem.W.keepIn K (.ref f0) = true)
    (a1 : PySem.W.nsIn K mainGlobals "_law_drawn" = some (some (.ref f1))) (l1 : K.lookup f1 = some ⟨oc1, od1, .func (PySem.W.fnOf "_law_drawn" "_law_drawn" (defArgs s__law_drawn) (defBody s__law_drawn) (defScope s__law_drawn) .none kV1 dc1 pm1 an1 cd1 ct1), sl1⟩) (c1 : PySem.W.codeIn K cd1 "_law_drawn" = true) (k1 : PySem.W.keepIn K (.ref f1) = true)
    (a2 : PySem.W.nsIn K mainGlobals "_law_name" = some (some (.ref f2))) (l2 : K.lookup f2 = some ⟨oc2, od2, .func (PySem.W.fnOf "_law_name" "_law_name" (defArgs s__law_name) (defBody s__law_name) (defScope s__law_name) .none kV2 dc2 pm2 an2 cd2 ct2), sl2⟩) (c2 : PySem.W.codeIn K cd2 "_law_name" = true) (k2 : PySem.W.keepIn K (.ref f2) = true)
    (a3 : PySem.W.nsIn K mainGlobals "is_whole" = some (some (.ref f3))) (l3 : K.lookup f3 = some ⟨oc3, od3, .func (PySem.W.fnOf "is_whole" "is_whole" (defArgs s_is_whole) (defBody s_is_whole) (defScope s_is_whole) .none kV3 dc3 pm3 an3 cd3 ct3), sl3⟩) (c3 : PySem.W.codeIn K cd3 "is_whole" = true) (k3 : PySem.W.keepIn K (.ref f3) = true)
    (a4 : PySem.W.nsIn K mainGlobals "are_rising_places" = some (some (.ref f4))) (l4 : K.lookup f4 = some ⟨oc4, od4, .func (PySem.W.fnOf "are_rising_places" "are_rising_places" (defArgs s_are_rising_places) (defBody s_are_rising_places) (defScope s_are_rising_places) .none kV4 dc4 pm4 an4 cd4 ct4), sl4⟩) (c4 : PySem.W.codeIn K cd4 "are_rising_places" = true) (k4 : PySem.W.keepIn K (.ref f4) = true)
    (a5 : PySem.W.nsIn K mainGlobals "runs" = some (some (.ref f5))) (l5 : K.lookup f5 = some ⟨oc5, od5, .func (PySem.W.fnOf "runs" "runs" (defArgs s_runs) (defBody s_runs) (defScope s_runs) .none kV5 dc5 pm5 an5 cd5 ct5), sl5⟩) (c5 : PySem.W.codeIn K cd5 "runs" = true) (k5 : PySem.W.keepIn K (.ref f5) = true)
    (a6 : PySem.W.nsIn K mainGlobals "shown" = some (some (.ref f6))) (l6 : K.lookup f6 = some ⟨oc6, od6, .func (PySem.W.fnOf "shown" "shown" (defArgs s_shown) (defBody s_shown) (defScope s_shown) .none kV6 dc6 pm6 an6 cd6 ct6), sl6⟩) (c6 : PySem.W.codeIn K cd6 "shown" = true) (k6 : PySem.W.keepIn K (.ref f6) = true)
    (a7 : PySem.W.nsIn K mainGlobals "is_query_sign" = some (some (.ref f7))) (l7 : K.lookup f7 = some ⟨oc7, od7, .func (PySem.W.fnOf "is_query_sign" "is_query_sign" (defArgs s_is_query_sign) (defBody s_is_query_sign) (defScope s_is_query_sign) .none kV7 dc7 pm7 an7 cd7 ct7), sl7⟩) (c7 : PySem.W.codeIn K cd7 "is_query_sign" = true) (k7 : PySem.W.keepIn K (.ref f7) = true)
    (a8 : PySem.W.nsIn K mainGlobals "is_name_sign" = some (some (.ref f8))) (l8 : K.lookup f8 = some ⟨oc8, od8, .func (PySem.W.fnOf "is_name_sign" "is_name_sign" (defArgs s_is_name_sign) (defBody s_is_name_sign) (defScope s_is_name_sign) .none kV8 dc8 pm8 an8 cd8 ct8), sl8⟩) (c8 : PySem.W.codeIn K cd8 "is_name_sign" = true) (k8 : PySem.W.keepIn K (.ref f8) = true)
    (a9 : PySem.W.nsIn K mainGlobals "is_name" = some (some (.ref f9))) (l9 : K.lookup f9 = some ⟨oc9, od9, .func (PySem.W.fnOf "is_name" "is_name" (defArgs s_is_name) (defBody s_is_name) (defScope s_is_name) .none kV9 dc9 pm9 an9 cd9 ct9), sl9⟩) (c9 : PySem.W.codeIn K cd9 "is_name" = true) (k9 : PySem.W.keepIn K (.ref f9) = true)
    (a10 : PySem.W.nsIn K mainGlobals "read_shown" = some (some (.ref f10))) (l10 : K.lookup f10 = some ⟨oc10, od10, .func (PySem.W.fnOf "read_shown" "read_shown" (defArgs s_read_shown) (defBody s_read_shown) (defScope s_read_shown) .none kV10 dc10 pm10 an10 cd10 ct10), sl10⟩) (c10 : PySem.W.codeIn K cd10 "read_shown" = true) (k10 : PySem.W.keepIn K (.ref f10) = true)
    (a11 : PySem.W.nsIn K mainGlobals "_law_told" = some (some (.ref f11))) (l11 : K.lookup f11 = some ⟨oc11, od11, .func (PySem.W.fnOf "_law_told" "_law_told" (defArgs s__law_told) (defBody s__law_told) (defScope s__law_told) .none kV11 dc11 pm11 an11 cd11 ct11), sl11⟩) (c11 : PySem.W.codeIn K cd11 "_law_told" = true) (k11 : PySem.W.keepIn K (.ref f11) = true)
    (a12 : PySem.W.nsIn K mainGlobals "_law_read" = some (some (.ref f12))) (l12 : K.lookup f12 = some ⟨oc12, od12, .func (PySem.W.fnOf "_law_read" "_law_read" (defArgs s__law_read) (defBody s__law_read) (defScope s__law_read) .none kV12 dc12 pm12 an12 cd12 ct12), sl12⟩) (c12 : PySem.W.codeIn K cd12 "_law_read" = true) (k12 : PySem.W.keepIn K (.ref f12) = true)
    (a13 : PySem.W.nsIn K mainGlobals "law" = some (some (.ref f13))) (l13 : K.lookup f13 = some ⟨oc13, od13, .func (PySem.W.fnOf "law" "law" (defArgs s_law) (defBody s_law) (defScope s_law) .none kV13 dc13 pm13 an13 cd13 ct13), sl13⟩) (c13 : PySem.W.codeIn K cd13 "law" = true) (k13 : PySem.W.keepIn K (.ref f13) = true)
    {C_NoText : Addr}
    {C_NoFit : Addr}
    {C_NoLaying : Addr}
    {C_FindError : Addr}
    (c_NoText : PySem.W.nsIn K mainGlobals "NoText" = some (some (.ref C_NoText)))
    (e_NoText : PySem.W.excIn K C_NoText VE "ValueError.__new__" = true)
    (c_NoFit : PySem.W.nsIn K mainGlobals "NoFit" = some (some (.ref C_NoFit)))
    (e_NoFit : PySem.W.excIn K C_NoFit VE "ValueError.__new__" = true)
    (c_NoLaying : PySem.W.nsIn K mainGlobals "NoLaying" = some (some (.ref C_NoLaying)))
    (e_NoLaying : PySem.W.excIn K C_NoLaying VE "ValueError.__new__" = true)
    (c_FindError : PySem.W.nsIn K mainGlobals "FindError" = some (some (.ref C_FindError)))
    (e_FindError : PySem.W.excIn K C_FindError VE "ValueError.__new__" = true)
    (ka_NoText : PySem.W.findIn K (.ref C_NoText) "__getattribute__" = some (some (.builtin "BaseException.__getattribute__")))
    (kb_NoText : PySem.W.findIn K (.ref C_NoText) "__getattr__" = some none)
    (kc_NoText : PySem.W.findObj K C_NoText none "__class__" = some (Builtin.ObjectAttr.Found.bind (.builtin "getset_descriptor.__get__") (.builtin "object.__class__")))
    (kd_NoText : PySem.W.mroIn K C_NoText (.type "object") = some true)
    (ke_NoText : PySem.W.mroIn K C_NoText (.type "BaseException") = some true)
    (kf_NoText : PySem.W.typeIn K (.ref C_NoText) = some (.type "type"))
    (kg_NoText : PySem.W.kitCls K (.ref C_NoText) (.ref C_NoText) = some true)
    (q_NoText_ValueError : PySem.W.kitOne K (.ref C_NoText) (.type "ValueError") = some true)
    (q_NoText_NoFit : PySem.W.kitOne K (.ref C_NoText) (.ref C_NoFit) = some false)
    (q_NoText_NoLaying : PySem.W.kitOne K (.ref C_NoText) (.ref C_NoLaying) = some false)
    (q_NoText_NoText : PySem.W.kitOne K (.ref C_NoText) (.ref C_NoText) = some true)
    (x_NoText_FindError : PySem.W.exmOne K (.ref C_NoText) (.ref C_FindError) = some true)
    (g_OPENED : PySem.W.nsIn K mainGlobals "OPENED" = some (some (.str "[" t_OPENED)))
    (g_CLOSED : PySem.W.nsIn K mainGlobals "CLOSED" = some (some (.str "]" t_CLOSED)))
    (g_FIGURES : PySem.W.nsIn K mainGlobals "FIGURES" = some (some (.str "0123456789" t_FIGURES)))
    (g_GREAT : PySem.W.nsIn K mainGlobals "GREAT" = some (some (.str "ABCDEFGHIJKLMNOPQRSTUVWXYZ" t_GREAT)))
    (g_SMALL : PySem.W.nsIn K mainGlobals "SMALL" = some (some (.str "abcdefghijklmnopqrstuvwxyz" t_SMALL)))
    (g_MARKS : PySem.W.nsIn K mainGlobals "MARKS" = some (some (.str "_-./" t_MARKS)))
    (g_LONGEST_NAME : PySem.W.nsIn K mainGlobals "LONGEST_NAME" = some (some (.int 24 t_LONGEST_NAME)))
    (z_len : PySem.W.nsIn K mainGlobals "len" = some none)
    (z_range : PySem.W.nsIn K mainGlobals "range" = some none)
    (z_bool : PySem.W.nsIn K mainGlobals "bool" = some none)
    (z_isinstance : PySem.W.nsIn K mainGlobals "isinstance" = some none)
    (z_int : PySem.W.nsIn K mainGlobals "int" = some none)
    (z_all : PySem.W.nsIn K mainGlobals "all" = some none)
    (z_str : PySem.W.nsIn K mainGlobals "str" = some none)
    (z_ValueError : PySem.W.nsIn K mainGlobals "ValueError" = some none)
    (z_enumerate : PySem.W.nsIn K mainGlobals "enumerate" = some none)
    (z_list : PySem.W.nsIn K mainGlobals "list" = some none)
    : ∃ fd : FuncData, (∀ (s : Shared) (v : Value), BindsTo s fd ⟨[v], []⟩ [("_law_script", v)]) ∧ ∀ base : Heap, K.In base → base.Ns mainGlobals mg → FnOk l.prog w K mg base CX0 7 fa fd ["_law_script"] (spLaw K) := by
  have e := hfa.symm.trans (PySem.W.mg_of X G a13)
  cases e
  have D0 : DefAt K mg "_law_cell" s__law_cell f0 _ := ⟨fun_mk (st := s__law_cell) l0 c0 k0, PySem.W.mg_of X G a0⟩
  have D1 : DefAt K mg "_law_drawn" s__law_drawn f1 _ := ⟨fun_mk (st := s__law_drawn) l1 c1 k1, PySem.W.mg_of X G a1⟩
  have D2 : DefAt K mg "_law_name" s__law_name f2 _ := ⟨fun_mk (st := s__law_name) l2 c2 k2, PySem.W.mg_of X G a2⟩
  have D3 : DefAt K mg "is_whole" s_is_whole f3 _ := ⟨fun_mk (st := s_is_whole) l3 c3 k3, PySem.W.mg_of X G a3⟩
  have D4 : DefAt K mg "are_rising_places" s_are_rising_places f4 _ := ⟨fun_mk (st := s_are_rising_places) l4 c4 k4, PySem.W.mg_of X G a4⟩
  have D5 : DefAt K mg "runs" s_runs f5 _ := ⟨fun_mk (st := s_runs) l5 c5 k5, PySem.W.mg_of X G a5⟩
  have D6 : DefAt K mg "shown" s_shown f6 _ := ⟨fun_mk (st := s_shown) l6 c6 k6, PySem.W.mg_of X G a6⟩
  have D7 : DefAt K mg "is_query_sign" s_is_query_sign f7 _ := ⟨fun_mk (st := s_is_query_sign) l7 c7 k7, PySem.W.mg_of X G a7⟩
  have D8 : DefAt K mg "is_name_sign" s_is_name_sign f8 _ := ⟨fun_mk (st := s_is_name_sign) l8 c8 k8, PySem.W.mg_of X G a8⟩
  have D9 : DefAt K mg "is_name" s_is_name f9 _ := ⟨fun_mk (st := s_is_name) l9 c9 k9, PySem.W.mg_of X G a9⟩
  have D10 : DefAt K mg "read_shown" s_read_shown f10 _ := ⟨fun_mk (st := s_read_shown) l10 c10 k10, PySem.W.mg_of X G a10⟩
  have D11 : DefAt K mg "_law_told" s__law_told f11 _ := ⟨fun_mk (st := s__law_told) l11 c11 k11, PySem.W.mg_of X G a11⟩
  have D12 : DefAt K mg "_law_read" s__law_read f12 _ := ⟨fun_mk (st := s__law_read) l12 c12 k12, PySem.W.mg_of X G a12⟩
  refine ⟨PySem.W.fnOf "law" "law" (defArgs s_law) (defBody s_law) (defScope s_law) .none kV13 dc13 pm13 an13 cd13 ct13, fun s v => .of_eq rfl, fun base _ _ => ?_⟩
  have t_NoText : EC K mg "NoText" C_NoText := ⟨c_NoText, PySem.W.mg_of X G c_NoText, e_NoText⟩
  have t_NoFit : EC K mg "NoFit" C_NoFit := ⟨c_NoFit, PySem.W.mg_of X G c_NoFit, e_NoFit⟩
  have t_NoLaying : EC K mg "NoLaying" C_NoLaying := ⟨c_NoLaying, PySem.W.mg_of X G c_NoLaying, e_NoLaying⟩
  have t_FindError : EC K mg "FindError" C_FindError := ⟨c_FindError, PySem.W.mg_of X G c_FindError, e_FindError⟩
  have k_NoText : ECK K C_NoText := ⟨ka_NoText, kb_NoText, kc_NoText, kd_NoText, ke_NoText, kf_NoText, kg_NoText⟩
  have h__law_cell : DefOk l.prog w K mg base "_law_cell" 1 2 ["_law_script", "_law_k"] m__law_cell := ok__law_cell D0 (PySem.W.mg_none_of X G z_len)
  have h__law_drawn : DefOk l.prog w K mg base "_law_drawn" 2 3 ["_law_script", "_law_k", "_law_many"] m__law_drawn := ok__law_drawn D1 h__law_cell
  have h__law_name : DefOk l.prog w K mg base "_law_name" 3 2 ["_law_script", "_law_at"] m__law_name := ok__law_name D2 h__law_drawn (PySem.W.mg_none_of X G z_range)
  have h_is_whole : DefOk l.prog w K mg base "is_whole" 1 1 ["thing"] m_is_whole := ok_is_whole D3 (PySem.W.mg_none_of X G z_bool) (PySem.W.mg_none_of X G z_isinstance) (PySem.W.mg_none_of X G z_int)
  have h_are_rising_places : DefOk l.prog w K mg base "are_rising_places" 2 2 ["name", "things"] m_are_rising_places := ok_are_rising_places D4 h_is_whole (PySem.W.mg_none_of X G z_len)
  have h_runs : DefOk l.prog w K mg base "runs" 3 2 ["name", "laying"] m_runs := ok_runs D5 h_are_rising_places (PySem.W.mg_none_of X G z_len)
  have h_shown : DefOk l.prog w K mg base "shown" 4 2 ["name", "laying"] m_shown := ok_shown D6 h_runs (PySem.W.mg_of X G g_OPENED) (PySem.W.mg_of X G g_CLOSED)
  have h_is_query_sign : DefOk l.prog w K mg base "is_query_sign" 1 1 ["sign"] m_is_query_sign := ok_is_query_sign D7 (PySem.W.mg_of X G g_FIGURES) (PySem.W.mg_of X G g_GREAT) (PySem.W.mg_of X G g_SMALL)
  have h_is_name_sign : DefOk l.prog w K mg base "is_name_sign" 2 1 ["sign"] m_is_name_sign := ok_is_name_sign D8 h_is_query_sign (PySem.W.mg_of X G g_MARKS)
  have h_is_name : DefOk l.prog w K mg base "is_name" 3 1 ["thing"] m_is_name := ok_is_name D9 h_is_name_sign (PySem.W.mg_of X G g_LONGEST_NAME) (PySem.W.mg_none_of X G z_all) (PySem.W.mg_none_of X G z_len) (PySem.W.mg_none_of X G z_str) (PySem.W.mg_none_of X G z_isinstance)
  have h_read_shown : DefX l.prog w K mg base "read_shown" 5 1 ["text"] m_read_shown := ok_read_shown D10 t_NoText h_shown h_is_name (PySem.W.mg_of X G g_CLOSED) (PySem.W.mg_of X G g_OPENED) (PySem.W.mg_none_of X G z_len)
  have h__law_told : DefOk l.prog w K mg base "_law_told" 6 1 ["_law_text"] m__law_told := ok__law_told D11 t_NoText q_NoText_ValueError k_NoText t_NoFit q_NoText_NoFit t_NoLaying q_NoText_NoLaying q_NoText_NoText t_FindError x_NoText_FindError h_read_shown (PySem.W.mg_none_of X G z_isinstance) (PySem.W.mg_none_of X G z_ValueError)
  have h__law_read : DefOk l.prog w K mg base "_law_read" 1 1 ["_law_text"] m__law_read := ok__law_read D12 (PySem.W.mg_none_of X G z_len) (PySem.W.mg_none_of X G z_enumerate)
  exact law_fn (ok_law (fun_mk (st := s_law) l13 c13 k13) h__law_told h__law_read h__law_drawn h_runs h_read_shown h_shown h__law_name (PySem.W.mg_none_of X G z_len) (PySem.W.mg_none_of X G z_list) (PySem.W.mg_none_of X G z_range)) hl
end Law
open PySem PySem.W PyProof.Rows
set_option maxRecDepth 100000 in
set_option maxHeartbeats 0 in
theorem PySem.Challenge.cw_fewfind_k41_whole_shown_holds : PySem.Challenge.rw_fewfind_k41_whole_shown.Holds := by
  w_on; o_law; k_head; (case hw => w_witness2)
  k_fill
  refine FD.walk (l := PySem.Challenge.rw_fewfind_k41_whole_shown) (k := 7) (p := "_law_script") rfl rfl ⟨rfl, by decide, by decide⟩ (fun w h Y => PySem.W.kIn_of Y) ?F
  case F =>
    intro w mg fa h KX G hmg
    refine' Law.all_mk KX G hmg Law.main ?a0 ?l0 ?c0 ?k0 ?a1 ?l1 ?c1 ?k1 ?a2 ?l2 ?c2 ?k2 ?a3 ?l3 ?c3 ?k3 ?a4 ?l4 ?c4 ?k4 ?a5 ?l5 ?c5 ?k5 ?a6 ?l6 ?c6 ?k6 ?a7 ?l7 ?c7 ?k7 ?a8 ?l8 ?c8 ?k8 ?a9 ?l9 ?c9 ?k9 ?a10 ?l10 ?c10 ?k10 ?a11 ?l11 ?c11 ?k11 ?a12 ?l12 ?c12 ?k12 ?a13 ?l13 ?c13 ?k13 ?c_NoText ?e_NoText ?c_NoFit ?e_NoFit ?c_NoLaying ?e_NoLaying ?c_FindError ?e_FindError ?ka_NoText ?kb_NoText ?kc_NoText ?kd_NoText ?ke_NoText ?kf_NoText ?kg_NoText ?q_NoText_ValueError ?q_NoText_NoFit ?q_NoText_NoLaying ?q_NoText_NoText ?x_NoText_FindError ?g_OPENED ?g_CLOSED ?g_FIGURES ?g_GREAT ?g_SMALL ?g_MARKS ?g_LONGEST_NAME ?z_len ?z_range ?z_bool ?z_isinstance ?z_int ?z_all ?z_str ?z_ValueError ?z_enumerate ?z_list
    (case a0 => k_is)
    (case l0 => k_is)
    (case c0 => k_is)
    (case k0 => k_is)
    (case a1 => k_is)
    (case l1 => k_is)
    (case c1 => k_is)
    (case k1 => k_is)
    (case a2 => k_is)
    (case l2 => k_is)
    (case c2 => k_is)
    (case k2 => k_is)
    (case a3 => k_is)
    (case l3 => k_is)
    (case c3 => k_is)
    (case k3 => k_is)
    (case a4 => k_is)
    (case l4 => k_is)
    (case c4 => k_is)
    (case k4 => k_is)
    (case a5 => k_is)
    (case l5 => k_is)
    (case c5 => k_is)
    (case k5 => k_is)
    (case a6 => k_is)
    (case l6 => k_is)
    (case c6 => k_is)
    (case k6 => k_is)
    (case a7 => k_is)
    (case l7 => k_is)
    (case c7 => k_is)
    (case k7 => k_is)
    (case a8 => k_is)
    (case l8 => k_is)
    (case c8 => k_is)
    (case k8 => k_is)
    (case a9 => k_is)
    (case l9 => k_is)
    (case c9 => k_is)
    (case k9 => k_is)
    (case a10 => k_is)
    (case l10 => k_is)
    (case c10 => k_is)
    (case k10 => k_is)
    (case a11 => k_is)
    (case l11 => k_is)
    (case c11 => k_is)
    (case k11 => k_is)
    (case a12 => k_is)
    (case l12 => k_is)
    (case c12 => k_is)
    (case k12 => k_is)
    (case a13 => k_is)
    (case l13 => k_is)
    (case c13 => k_is)
    (case k13 => k_is)
    (case c_NoText => k_is)
    (case e_NoText => k_exc)
    (case c_NoFit => k_is)
    (case e_NoFit => k_exc)
    (case c_NoLaying => k_is)
    (case e_NoLaying => k_exc)
    (case c_FindError => k_is)
    (case e_FindError => k_exc)
    (case ka_NoText => k_is)
    (case kb_NoText => k_is)
    (case kc_NoText => with_unfolding_all rfl)
    (case kd_NoText => k_is)
    (case ke_NoText => k_is)
    (case kf_NoText => k_is)
    (case kg_NoText => with_unfolding_all rfl)
    (case q_NoText_ValueError => with_unfolding_all rfl)
    (case q_NoText_NoFit => with_unfolding_all rfl)
    (case q_NoText_NoLaying => with_unfolding_all rfl)
    (case q_NoText_NoText => with_unfolding_all rfl)
    (case x_NoText_FindError => with_unfolding_all rfl)
    (case g_OPENED => k_is)
    (case g_CLOSED => k_is)
    (case g_FIGURES => k_is)
    (case g_GREAT => k_is)
    (case g_SMALL => k_is)
    (case g_MARKS => k_is)
    (case g_LONGEST_NAME => k_is)
    (case z_len => k_is)
    (case z_range => k_is)
    (case z_bool => k_is)
    (case z_isinstance => k_is)
    (case z_int => k_is)
    (case z_all => k_is)
    (case z_str => k_is)
    (case z_ValueError => k_is)
    (case z_enumerate => k_is)
    (case z_list => k_is)
