import PyProof.Rows.All
import Wide.All
import OpenK.AllK
import Wide.FinOn
import Lean
import PyProof.EqAt
import PyProof.EqKinds
import PyProof.TupleCall
import PyProof.NeKinds
import PyProof.NeData
import PyProof.P3In
import PyProof.ZipIter
import PyProof.Draws
import PyProof.StrWalks
import PyProof.IsiPairs
import PyProof.IsiSeqPairs
import PyProof.ConsumeWalk
import PyProof.ListStr
import PyProof.IsiHeapPairs
import PyProof.Rows.Range3
import PyProof.IsiNone
import KE.KRevIter
import KE.KRevSl
import PyProof.Conv_int_bool
import PyProof.ListRange
import PyProof.TupleOfSeq
import PyProof.MinMaxWalk
import PyProof.WalkInts
import PyProof.SeqI3
import PySem.Challenge.RW_fewfind_k03_whole_fits
-- CHANGE: your row's module here, as the last of these rows
set_option Elab.async false
set_option linter.all false
set_option maxRecDepth 100000
/-! THE HAND LAYER, for ints, bools, texts, own classes, LISTS and tuples (index, slices, in, append, pop ..), calls, loops. Paste it whole ahead of your own text; what your proof does not reach may be deleted. -/
namespace L2
open PySem PySem.Spec PyProof.Rows

/-- a key: an int or a str -/
abbrev Key := Sum Int Str
def keyIs : Key → Value → Bool
  | .inl k, v => Value.isInt k v
  | .inr x, v => Value.isStrOf x v
def keyH (w : World) : Key → Int
  | .inl k => hashInt k
  | .inr x => hashStr w x
theorem keyIs_shape : ∀ {k : Key} {v : Value}, keyIs k v = true → (∃ i t, k = Sum.inl i ∧ v = Value.int i t) ∨ (∃ x t, k = Sum.inr x ∧ v = Value.str x t)
  | .inl i, v, h => by
    obtain ⟨t, e⟩ := Value.isInt_shape (k := i) (v := v) h
    exact .inl ⟨i, t, rfl, e⟩
  | .inr x, v, h => by
    obtain ⟨t, e⟩ := Value.isStrOf_shape (x := x) (v := v) h
    exact .inr ⟨x, t, rfl, e⟩
theorem key_ll (a b : Int) : decide ((Sum.inl a : Key) = Sum.inl b) = (a == b) := by
  by_cases e : a = b
  · subst e; simp
  · have h : ¬ (Sum.inl a : Key) = Sum.inl b := fun q => e (Sum.inl.inj q)
    rw [decide_eq_false h]
    exact (beq_eq_false_iff_ne.mpr e).symm
theorem key_rr (a b : Str) : decide ((Sum.inr a : Key) = Sum.inr b) = decide (a = b) := by
  by_cases e : a = b
  · subst e; simp
  · have h : ¬ (Sum.inr a : Key) = Sum.inr b := fun q => e (Sum.inr.inj q)
    rw [decide_eq_false h, decide_eq_false e]
theorem key_lr (a : Int) (b : Str) : decide ((Sum.inl a : Key) = Sum.inr b) = false := decide_eq_false (fun q => nomatch q)
theorem key_rl (a : Str) (b : Int) : decide ((Sum.inr a : Key) = Sum.inl b) = false := decide_eq_false (fun q => nomatch q)

def mixKind (prog : Program) (w : World) : PySem.KeyKind prog w Key where
  is := keyIs
  hash := keyH w
  inj := fun v a b ha hb => by
    rcases keyIs_shape ha with ⟨i, t, rfl, rfl⟩ | ⟨x, t, rfl, rfl⟩
    · rcases keyIs_shape hb with ⟨j, u, rfl, e⟩ | ⟨y, u, rfl, e⟩
      · injection e with e1 _; rw [e1]
      · exact nomatch e
    · rcases keyIs_shape hb with ⟨j, u, rfl, e⟩ | ⟨y, u, rfl, e⟩
      · exact nomatch e
      · injection e with e1 _; rw [e1]
  byValue := fun k v h => by
    rcases keyIs_shape h with ⟨i, t, rfl, rfl⟩ | ⟨x, t, rfl, rfl⟩ <;> rfl
  pyHash := fun hv h => by
    rcases keyIs_shape hv with ⟨i, t, rfl, rfl⟩ | ⟨x, t, rfl, rfl⟩
    · exact wpAny_pyHash_int h
    · exact wpAny_pyHash_str h
  eqBool := fun hu hv h => by
    rcases keyIs_shape hu with ⟨i, t, rfl, rfl⟩ | ⟨x, t, rfl, rfl⟩
    · rcases keyIs_shape hv with ⟨j, u, rfl, rfl⟩ | ⟨y, u, rfl, rfl⟩
      · rw [key_ll] at h; exact wpAny_eqBool_int h
      · rw [key_lr] at h; exact SeqAt.EqAt.int_str i t y u _ _ _ _ h
    · rcases keyIs_shape hv with ⟨j, u, rfl, rfl⟩ | ⟨y, u, rfl, rfl⟩
      · rw [key_rl] at h; exact SeqAt.EqAt.str_int x t j u _ _ _ _ h
      · rw [key_rr] at h; exact wpAny_eqBool_str h
  «strs» := fun k x t v h => by
    rcases keyIs_shape h with ⟨i, u, rfl, e⟩ | ⟨y, u, rfl, e⟩
    · exact nomatch e
    · injection e with e1 _
      subst e1
      cases v <;> rfl

end L2

namespace L2
open PySem PySem.Spec PyProof.Rows

/-- a value, without the heap -/
inductive V where
  | non | bl (b : Bool) | int (i : Int) | str (x : Str) | byt (b : Array UInt8) | flt (b : UInt64) | ref (a : Addr) | ty (n : String)
  deriving DecidableEq

def RelV : V → Value → Prop
  | .non, u => u = Value.none
  | .bl b, u => u = Value.bool b
  | .int i, u => ∃ t, u = Value.int i t
  | .str x, u => ∃ t, u = Value.str x t
  | .byt b, u => ∃ t, u = Value.bytes b t
  | .flt b, u => ∃ t, u = Value.float b t
  | .ref a, u => u = Value.ref a
  | .ty n, u => u = Value.type n

abbrev Vals : List V → List Value → Prop := Paired RelV
theorem Vals.length {xs : List V} {us : List Value} (r : Vals xs us) : xs.length = us.length := Paired.length r
theorem Vals.get : ∀ {xs : List V} {us : List Value} {i : Nat} {x : V}, Vals xs us → xs[i]? = some x → ∃ u, us[i]? = some u ∧ RelV x u
  | _, _, _, _, .nil, e => by simp at e
  | _, _, 0, _, .cons r _, e => by simp at e; subst e; exact ⟨_, rfl, r⟩
  | _, _, i + 1, x, .cons _ t, e => by
    obtain ⟨u, h1, h2⟩ := Vals.get (i := i) (x := x) t (by simpa using e)
    exact ⟨u, by simpa using h1, h2⟩
theorem Vals.set {x : V} {u : Value} (r : RelV x u) : ∀ {xs : List V} {us : List Value} (i : Nat), Vals xs us → Vals (xs.set i x) (us.set i u)
  | _, _, _, .nil => .nil
  | _, _, 0, .cons _ t => .cons r t
  | _, _, i + 1, .cons q t => .cons q (Vals.set r i t)
theorem Vals.append : ∀ {xs ys : List V} {us ws : List Value}, Vals xs us → Vals ys ws → Vals (xs ++ ys) (us ++ ws)
  | _, _, _, _, .nil, s => s
  | _, _, _, _, .cons r t, s => .cons r (Vals.append t s)
theorem Vals.take : ∀ {xs : List V} {us : List Value} (n : Nat), Vals xs us → Vals (xs.take n) (us.take n)
  | _, _, 0, _ => .nil
  | _, _, _ + 1, .nil => .nil
  | _, _, n + 1, .cons r t => .cons r (Vals.take n t)
theorem Vals.drop : ∀ {xs : List V} {us : List Value} (n : Nat), Vals xs us → Vals (xs.drop n) (us.drop n)
  | _, _, 0, r => r
  | _, _, _ + 1, .nil => .nil
  | _, _, n + 1, .cons _ t => Vals.drop n t

def RelO : Option V → Option Value → Prop
  | some v, some u => RelV v u
  | none, none => True
  | _, _ => False
def KV {κ : Type} : List (κ × V) → List (κ × Value) → Prop := Paired fun (p : κ × V) (q : κ × Value) => p.1 = q.1 ∧ RelV p.2 q.2

/-- a key of a dict (00_mix): an int or a text -/
def kV : Key → V
  | .inl i => .int i
  | .inr x => .str x

/-- what stands at a tracked address -/
inductive HO where
  /-- a list -/
  | lst (xs : List V)
  /-- a tuple (never changes) -/
  | tup (xs : List V)
  /-- a dict whose keys are ints and texts; one whose keys are tuples of ints and texts (the empty one is both) -/
  | dK (kvs : List (Key × V)) | dT (kvs : List (List Key × V))
  /-- a set of ints: its members, its size -/
  | set (S : Int → Bool) (n : Nat)
  /-- an instance of the class at C, its dict at dx, its attributes -/
  | ins (C dx : Addr) (fs : List (Str × V))
  /-- the dict of the instance at x -/
  | own (x : Addr)
  /-- the dict of an exception -/
  | xd (fs : List (Str × V))
  /-- a bound method, f of x -/
  | met (f x : Addr)
  /-- a range object lo, lo + 1, .. below hi -/
  | rng (lo hi : Int)
  /-- a thing that is known to the object (the script; a dict while a loop walks it): read, never written while it is so -/
  | frz (o : Obj) (u : HO)
  /-- a code object's table -/
  | tbl (ps : Array Value)
  /-- any other thing, by what is true of its one object (a def of one's own: SetO a S n := HO.ext fun h => ..) -/
  | ext (φ : Heap → Prop)

abbrev Hp := Addr → Option HO
def upd (H : Hp) (a : Addr) (o : HO) : Hp := fun b => if b = a then some o else H b
theorem upd_same {H : Hp} {a : Addr} {o : HO} : upd H a o a = some o := by unfold upd; rw [if_pos rfl]
theorem upd_ne {H : Hp} {a b : Addr} {o : HO} (h : b ≠ a) : upd H a o b = H b := by unfold upd; rw [if_neg h]
theorem ne_of_none {H : Hp} {a b : Addr} {o : HO} (h : H a = some o) (h' : H b = none) : a ≠ b := by
  intro e; subst e; rw [h] at h'; cases h'

section
variable (P : Program) (w : World)
def ObjOk (H : Hp) (h : Heap) (a : Addr) : HO → Prop
  | .lst xs => xs.length ≤ sizeLine ∧ ∃ (its : List Value) (n : Nat), Vals xs its ∧ h.get? a = some { cls := .type "list", data := .seq its.toArray n }
  | .tup xs => xs.length ≤ sizeLine ∧ ∃ its : List Value, Vals xs its ∧ IsTup h a its.toArray
  | .dK kvs => kvs.length ≤ sizeLine ∧ (a == sysModules) = false ∧ ∃ vs, KV kvs vs ∧ h.DictOf (mixKind P w) a vs
  | .dT kvs => kvs.length ≤ sizeLine ∧ (a == sysModules) = false ∧ ∃ xs : List (List Key × Addr × Value),
      Paired (fun (p : List Key × V) (q : List Key × Addr × Value) => p.1 = q.1 ∧ H q.2.1 = some (.tup (p.1.map kV)) ∧ RelV p.2 q.2.2) kvs xs ∧
      ∃ o es ep, h.get? a = some o ∧ o.ExactDict ∧ o.data = .dict es ep ∧ es.toList = xs.map (entryOfKey (tupleKind (mixKind P w))) ∧ (xs.map (·.1)).Nodup
  | .set S n => h.SetOf (intKind P w) a S n
  | .ins C dx fs => H dx = some (.own a) ∧ fs.length ≤ 1000 ∧ dx ≠ a ∧ h.get? a = some (PySem.W.instObj C dx) ∧
      ∃ mA, h.Ns1 dx mA ∧ (∀ f, RelO (fs.lookup f) (mA f)) ∧ PySem.Within mA (fs.map (·.1))
  | .own _ => ∃ o, h.get? a = some o
  | .xd fs => ∃ mA, h.Ns1 a mA ∧ ∀ f, RelO (fs.lookup f) (mA f)
  | .rng lo hi => ∃ t u v, h.get? a = some { cls := .type "range", data := .fields #[.int lo t, .int hi u, .int 1 v] }
  | .frz o u => h.get? a = some o ∧ ObjOk H h a u
  | .tbl ps => h.get? a = some { cls := .none, data := .fields ps }
  | .met f x => h.get? a = some (PySem.W.methodObj (.ref f) (.ref x))
  | .ext φ => φ h ∧ (∃ o, h.get? a = some o) ∧ ∀ h1 h2 : Heap, φ h1 → (∀ o, h1.get? a = some o → h2.get? a = some o) → φ h2
/-- the abstract heap is held -/
def HOk (H : Hp) (h : Heap) : Prop := ∀ a o, H a = some o → ObjOk P w H h a o
end

section
variable {P : Program} {w : World} {H H' : Hp} {h h' : Heap} {a : Addr} {o : HO}
theorem ObjOk.lt (x : ObjOk P w H h a o) : a < h.objs.size := by
  cases o with
  | lst xs => obtain ⟨_, _, _, _, e⟩ := x; exact Heap.lt_size e
  | tup xs => obtain ⟨_, _, _, p⟩ := x; exact p.lt
  | dK kvs => obtain ⟨_, _, _, _, o, _, _, e, _⟩ := x; exact Heap.lt_size e
  | dT kvs => obtain ⟨_, _, _, _, o, _, _, e, _⟩ := x; exact Heap.lt_size e
  | set S n => obtain ⟨o, _, _, _, e, _⟩ := x; exact Heap.lt_size e
  | ins C dx fs => obtain ⟨_, _, _, e, _⟩ := x; exact Heap.lt_size e
  | own y => obtain ⟨_, e⟩ := x; exact Heap.lt_size e
  | xd fs => obtain ⟨_, ⟨_, _, _, e, _⟩, _⟩ := x; exact Heap.lt_size e
  | rng lo hi => obtain ⟨_, _, _, e⟩ := x; exact Heap.lt_size e
  | frz ob u => obtain ⟨e, _⟩ := x; exact Heap.lt_size e
  | tbl ps => exact Heap.lt_size (show h.get? a = some _ from x)
  | met f y => exact Heap.lt_size (show h.get? a = some _ from x)
  | ext φ => obtain ⟨_, ⟨_, e⟩, _⟩ := x; exact Heap.lt_size e
theorem Paired.mapP {α β : Type} {F G : α → β → Prop} : ∀ {l₁ : List α} {l₂ : List β}, Paired F l₁ l₂ → (∀ a b, F a b → G a b) → Paired G l₁ l₂
  | _, _, .nil, _ => .nil
  | _, _, .cons r t, f => .cons (f _ _ r) (Paired.mapP t f)
/-- what an object's description leans on: its own object, its own dict, the tuples -/
theorem ObjOk.stay (x : ObjOk P w H h a o) (k : ∀ b u, (b = a ∨ H b = some (.own a)) → h.get? b = some u → h'.get? b = some u)
    (ho : ∀ b, H b = some (.own a) → H' b = some (.own a)) (ht : ∀ b xs, H b = some (.tup xs) → H' b = some (.tup xs)) : ObjOk P w H' h' a o := by
  induction o with
  | lst xs => obtain ⟨z, its, n, r, e⟩ := x; exact ⟨z, its, n, r, k _ _ (.inl rfl) e⟩
  | tup xs => obtain ⟨z, its, r, ob, e, c⟩ := x; exact ⟨z, its, r, ob, k _ _ (.inl rfl) e, c⟩
  | dK kvs => obtain ⟨z, y, vs, r, ob, es, ep, e, c⟩ := x; exact ⟨z, y, vs, r, ob, es, ep, k _ _ (.inl rfl) e, c⟩
  | dT kvs =>
    obtain ⟨z, y, xs, r, ob, es, ep, e, c⟩ := x
    exact ⟨z, y, xs, Paired.mapP r fun p q z => ⟨z.1, ht _ _ z.2.1, z.2.2⟩, ob, es, ep, k _ _ (.inl rfl) e, c⟩
  | set S n => obtain ⟨ob, es, ep, t, e, c⟩ := x; exact ⟨ob, es, ep, t, k _ _ (.inl rfl) e, c⟩
  | ins C dx fs =>
    obtain ⟨d, z, ne, e, mA, ⟨od, es, ep, e2, c⟩, r⟩ := x
    exact ⟨ho _ d, z, ne, k _ _ (.inl rfl) e, mA, ⟨od, es, ep, k _ _ (.inr d) e2, c⟩, r⟩
  | own y => obtain ⟨ob, e⟩ := x; exact ⟨ob, k _ _ (.inl rfl) e⟩
  | xd fs => obtain ⟨mA, ⟨od, es, ep, e, c⟩, r⟩ := x; exact ⟨mA, ⟨od, es, ep, k _ _ (.inl rfl) e, c⟩, r⟩
  | rng lo hi => obtain ⟨t, u, v, e⟩ := x; exact ⟨t, u, v, k _ _ (.inl rfl) e⟩
  | frz ob u ih => obtain ⟨e, q⟩ := x; exact ⟨k _ _ (.inl rfl) e, ih q⟩
  | tbl ps =>
    have e : h.get? a = some { cls := .none, data := .fields ps } := x
    show h'.get? a = some { cls := .none, data := .fields ps }
    exact k a _ (.inl rfl) e
  | met f y =>
    have e : h.get? a = some (PySem.W.methodObj (.ref f) (.ref y)) := x
    show h'.get? a = some (PySem.W.methodObj (.ref f) (.ref y))
    exact k a _ (.inl rfl) e
  | ext φ => obtain ⟨p, ⟨o, e⟩, st⟩ := x; exact ⟨st _ _ p fun o q => k _ _ (.inl rfl) q, ⟨o, k _ _ (.inl rfl) e⟩, st⟩
theorem HOk.lt (x : HOk P w H h) (e : H a = some o) : a < h.objs.size := (x a o e).lt
theorem HOk.fresh (x : HOk P w H h) (e : h.objs.size ≤ a) : H a = none := by
  cases q : H a with
  | none => rfl
  | some u => exact absurd (Nat.lt_of_lt_of_le (x.lt q) e) (Nat.lt_irrefl _)
/-- every object of the heap is kept -/
theorem HOk.kept (x : HOk P w H h) (k : ∀ b u, h.get? b = some u → h'.get? b = some u) : HOk P w H h' := fun a o e =>
  (x a o e).stay (fun b u _ q => k b u q) (fun _ q => q) fun _ _ q => q
/-- a new object is laid and tracked -/
theorem HOk.laid (x : HOk P w H h) (k : ∀ b u, h.get? b = some u → h'.get? b = some u) (hp : h.objs.size ≤ a) (new : ObjOk P w (upd H a o) h' a o) : HOk P w (upd H a o) h' := fun b u e => by
  have hn := x.fresh hp
  by_cases hb : b = a
  · subst hb; rw [upd_same] at e; cases e; exact new
  · rw [upd_ne hb] at e
    exact (x b u e).stay (fun c v _ q => k c v q) (fun c q => by rw [upd_ne (ne_of_none q hn)]; exact q) fun c xs q => by rw [upd_ne (ne_of_none q hn)]; exact q
end

/-- what may be read as u: it is u, or a known u -/
def Rd (H : Hp) (a : Addr) (u : HO) : Prop := H a = some u ∨ ∃ o, H a = some (.frz o u)
theorem Rd.of {H : Hp} {a : Addr} {u : HO} (h : H a = some u) : Rd H a u := .inl h
theorem Rd.ok {P : Program} {w : World} {H : Hp} {h : Heap} {a : Addr} {u : HO} (r : Rd H a u) (x : HOk P w H h) : ObjOk P w H h a u := by
  rcases r with r | ⟨o, r⟩
  · exact x a u r
  · obtain ⟨_, q⟩ := x a _ r
    exact q
/-- what may be written -/
def Mut : Option HO → Prop
  | some (.lst _) => True
  | some (.dK _) => True
  | some (.dT _) => True
  | some (.set _ _) => True
  | some (.ins _ _ _) => True
  | some (.ext _) => True
  | _ => False
section
variable {P : Program} {w : World} {H : Hp} {h h' : Heap} {x e : Addr} {o' : HO}
/-- the object at e is changed: x itself, or the dict of the instance x -/
theorem HOk.write (ok : HOk P w H h) (mu : Mut (H x)) (he : e = x ∨ H e = some (.own x)) (k : ∀ b u, b ≠ e → h.get? b = some u → h'.get? b = some u) (heo : ∃ u, h'.get? e = some u)
    (new : ObjOk P w (upd H x o') h' x o') : HOk P w (upd H x o') h' := fun b u q => by
  have nown : ∀ c y, H c = some (.own y) → c ≠ x := fun c y r z => by subst z; rw [r] at mu; exact mu
  have ntup : ∀ c xs, H c = some (.tup xs) → c ≠ x := fun c xs r z => by subst z; rw [r] at mu; exact mu
  by_cases hb : b = x
  · subst hb; rw [upd_same] at q; cases q; exact new
  · rw [upd_ne hb] at q
    by_cases hbe : b = e
    · have q' : H b = some (.own x) := by
        rcases he with z | z
        · exact absurd (hbe.trans z) hb
        · rw [hbe]; exact z
      rw [q] at q'; cases q'
      obtain ⟨v, hv⟩ := heo
      exact ⟨v, by rw [hbe]; exact hv⟩
    · refine (ok b u q).stay (fun c v hc r => k c v ?_ r) (fun c r => by rw [upd_ne (nown c b r)]; exact r) fun c xs r => by rw [upd_ne (ntup c xs r)]; exact r
      rcases hc with rfl | hc
      · exact hbe
      · rintro rfl
        rcases he with z | z
        · exact nown c b hc z
        · rw [hc] at z; cases z; exact hb rfl
end

/-! ### kept unless tracked; of the frames at fs (the callers') the slots may change (an exception that passes writes there); of the records at ex (iterators) nothing is said -/
structure Un (fs ex : List Addr) (H H' : Hp) (h h' : Heap) : Prop where
  keep : ∀ b o, h.get? b = some o → H b = none → b ∉ fs → b ∉ ex → h'.get? b = some o
  slot : ∀ b o, h.get? b = some o → H b = none → b ∈ fs → b ∉ ex → ∃ sl, h'.get? b = some { o with slots := sl }
  free : ∀ b o, h.get? b = some o → H b = none → b ∉ ex → H' b = none
  there : ∀ b o, h.get? b = some o → b ∉ ex → ∃ o', h'.get? b = some o'
  tups : ∀ b xs, H b = some (.tup xs) → H' b = some (.tup xs)
  frzs : ∀ b o u, H b = some (.frz o u) → H' b = some (.frz o u)
  tbls : ∀ b ps, H b = some (.tbl ps) → ∃ more, H' b = some (.tbl (ps ++ more))
section
variable {fs fs' ex ex' : List Addr} {H H1 H2 : Hp} {h h1 h2 h' : Heap} {a x e : Addr} {o : HO}
theorem Un.any (u : Un fs ex H H1 h h1) {b : Addr} {ob : Obj} (q : h.get? b = some ob) (n : H b = none) (hx : b ∉ ex) : ∃ sl, h1.get? b = some { ob with slots := sl } := by
  by_cases hb : b ∈ fs
  · exact u.slot b ob q n hb hx
  · exact ⟨ob.slots, u.keep b ob q n hb hx⟩
theorem Un.trans (a : Un fs ex H H1 h h1) (b : Un fs ex H1 H2 h1 h2) : Un fs ex H H2 h h2 where
  keep := fun c ob q n hc hx => b.keep c ob (a.keep c ob q n hc hx) (a.free c ob q n hx) hc hx
  slot := fun c ob q n hc hx => by
    obtain ⟨sl, e1⟩ := a.slot c ob q n hc hx
    obtain ⟨sl', e2⟩ := b.slot c _ e1 (a.free c ob q n hx) hc hx
    exact ⟨sl', e2⟩
  free := fun c ob q n hx => by
    obtain ⟨o', e1⟩ := a.there c ob q hx
    exact b.free c o' e1 (a.free c ob q n hx) hx
  there := fun c ob q hx => by
    obtain ⟨o', e1⟩ := a.there c ob q hx
    exact b.there c o' e1 hx
  tups := fun c xs q => b.tups c xs (a.tups c xs q)
  frzs := fun c ob xs q => b.frzs c ob xs (a.frzs c ob xs q)
  tbls := fun c ps q => by
    obtain ⟨m1, e1⟩ := a.tbls c ps q
    obtain ⟨m2, e2⟩ := b.tbls c _ e1
    exact ⟨m1 ++ m2, by rw [e2, Array.append_assoc]⟩
theorem Un.kept (k : ∀ b u, h.get? b = some u → h'.get? b = some u) : Un fs ex H H h h' :=
  ⟨fun b ob q _ _ _ => k b ob q, fun b ob q _ _ _ => ⟨ob.slots, k b ob q⟩, fun _ _ _ n _ => n, fun b ob q _ => ⟨ob, k b ob q⟩, fun _ _ q => q, fun _ _ _ q => q, fun _ ps q => ⟨#[], by rw [q]; simp⟩⟩
theorem Un.refl : Un fs ex H H h h := Un.kept fun _ _ q => q
theorem Un.laid (k : ∀ b u, h.get? b = some u → h'.get? b = some u) (hp : h.objs.size ≤ a) (hn : H a = none) : Un fs ex H (upd H a o) h h' where
  keep := fun b u q _ _ _ => k b u q
  slot := fun b u q _ _ _ => ⟨u.slots, k b u q⟩
  free := fun b u q n _ => by rw [upd_ne (Nat.ne_of_lt (Nat.lt_of_lt_of_le (Heap.lt_size q) hp))]; exact n
  there := fun b u q _ => ⟨u, k b u q⟩
  tups := fun b xs q => by rw [upd_ne (ne_of_none q hn)]; exact q
  frzs := fun b u xs q => by rw [upd_ne (ne_of_none q hn)]; exact q
  tbls := fun b ps q => ⟨#[], by rw [upd_ne (ne_of_none q hn), q]; simp⟩
theorem Un.write (mu : Mut (H x)) (he : e = x ∨ H e = some (.own x)) (k : ∀ b u, b ≠ e → h.get? b = some u → h'.get? b = some u) (heo : ∃ u, h'.get? e = some u) : Un fs ex H (upd H x o) h h' := by
  have hx : ∀ b, H b = none → b ≠ x := fun b n z => by subst z; rw [n] at mu; exact mu
  have hb : ∀ b, H b = none → b ≠ e := fun b n z => by
    subst z
    rcases he with r | r
    · exact hx b n r
    · rw [n] at r; cases r
  have hm : ∀ b u, H b = some u → ¬ Mut (some u) → b ≠ x := fun b u q nm z => by subst z; rw [q] at mu; exact nm mu
  refine ⟨fun b u q n _ _ => k b u (hb b n) q, fun b u q n _ _ => ⟨u.slots, k b u (hb b n) q⟩, fun b u q n _ => by rw [upd_ne (hx b n)]; exact n, fun b u q _ => ?_,
    fun b xs q => by rw [upd_ne (hm b _ q fun z => z)]; exact q, fun b u xs q => by rw [upd_ne (hm b _ q fun z => z)]; exact q, fun b ps q => ⟨#[], by rw [upd_ne (hm b _ q fun z => z), q]; simp⟩⟩
  by_cases hbe : b = e
  · subst hbe; exact heo
  · exact ⟨u, k b u hbe q⟩
theorem Un.mono (u : Un fs ex H H1 h h1) (hs : ∀ b ∈ fs, b ∈ fs') (hx : ∀ b ∈ ex, b ∈ ex') : Un fs' ex' H H1 h h1 :=
  ⟨fun b ob q n hb he => u.keep b ob q n (fun z => hb (hs b z)) fun z => he (hx b z), fun _ _ q n _ he => u.any q n fun z => he (hx _ z), fun b ob q n he => u.free b ob q n fun z => he (hx b z), fun b ob q he => u.there b ob q fun z => he (hx b z), u.tups, u.frzs, u.tbls⟩
end

/-! ### the heap without what is tracked -/
def trk (h : Heap) (H : Hp) : List Addr := (List.range h.objs.size).filter fun a => (H a).isSome
def hidT (h : Heap) (H : Hp) : Heap := PySem.W.hideAll h (trk h H)
theorem hidT_size (h : Heap) (H : Hp) : (hidT h H).objs.size = h.objs.size := PySem.W.hideAll_size _ _
theorem hidT_get {h : Heap} {H : Hp} {b : Addr} {o : Obj} (e : h.get? b = some o) (n : H b = none) : (hidT h H).get? b = some o :=
  PySem.W.hideAll_get _ e fun hm => by
    have q : (H b).isSome = true := (List.mem_filter.mp hm).2
    rw [n] at q; simp at q
theorem of_hidT {h : Heap} {H : Hp} {b : Addr} {o : Obj} (e : (hidT h H).get? b = some o) : h.get? b = some o ∧ H b = none := by
  have e' : h.get? b = some o := PySem.W.of_hideAll (trk h H) e
  refine ⟨e', ?_⟩
  cases q : H b with
  | none => rfl
  | some x =>
    have hm : b ∈ trk h H := List.mem_filter.mpr ⟨List.mem_range.mpr (Heap.lt_size e'), by simp [q]⟩
    have z : (hidT h H).get? b = none := PySem.W.hideAll_none (trk h H) hm
    rw [z] at e; cases e

/-! ### OpenK's ledger, filled with every new object but one -/
def allNews (g h : Heap) (L : Addr) : List (Addr × Obj) := (List.range h.objs.size).filterMap fun a => if a = L ∨ (g.get? a).isSome = true then none else (h.get? a).map fun o => (a, o)
def rest (g h : Heap) (L d : Addr) : List (Addr × Obj) := (allNews g h L).filter fun p => decide (p.1 ≠ d)
end L2

namespace L2
open PySem PySem.Spec PyProof.Rows

/-- the module's facts, over the base: the heap at the law's entry without what is tracked there -/
structure Mod (K : PySem.W.Frag) (mg : Str → Option Value) (base : Heap) : Prop where
  kin : K.In base
  glob : base.Ns mainGlobals mg
  blt : ∃ mb, base.Ns builtinsNs mb ∧ ∀ x : Str, x ≠ "__name__" → mb x = bootBuiltins x
  nolimit : base.NoLimit

/-- the context: a def's body (or a comprehension's block) running. base: fixed through the whole law; s₀, H₀: the entry; outer: the frames whose slots others may change (a def's callers); stack: all frames that run;
   ex: iterators that were made ahead of the entry and are walked here (a comprehension's); fn: the names whose cells were made at the entry (a def: all; a comprehension's block: its own); calm: not within an except suite; pn: pins that every state bears; xe: what is wanted of an exception that leaves the code -/
structure Cx where
  prog : Program
  w : World
  K : PySem.W.Frag
  mg : Str → Option Value
  base : Heap
  A : Around
  N : List Str
  s₀ : Shared
  H₀ : Hp
  env : Env
  outer : List Env
  stack : List Env
  ex : List Addr
  fn : Str → Bool
  calm : Bool
  pn : List (Addr × Obj)
  xe : Value → Shared → Prop
/-- the callers' frames -/
def frs (l : List Env) : List Addr := l.filterMap (·.frame)
abbrev Cx.fs (X : Cx) : List Addr := frs X.outer

def Vis (sc : Scope) (x : Str) : Prop := sc.names.lookup x = some .local ∨ sc.names.lookup x = some .cell ∨ sc.names.lookup x = some .free
def Loc (sc : Scope) (x : Str) : Prop := sc.names.lookup x = some .local ∨ sc.names.lookup x = some .cell
def Look (env : Env) (h : Heap) (m : Str → Option Value) (x : Str) (u : Value) : Prop :=
  (env.kindOf x = some .local ∧ m x = some u) ∨ ((env.kindOf x = some .cell ∨ env.kindOf x = some .free) ∧ ∃ c, env.cells.lookup x = some c ∧ h.IsCell c (some u))

structure Cx.Ok (X : Cx) : Prop where
  mod : Mod X.K X.mg X.base
  kind : X.env.scope.kind = .function
  glob : X.env.globals = mainGlobals
  blt : X.env.builtins = builtinsNs
  above : X.s₀.heap.objs.size ≤ X.env.locals
  inj : ∀ x y c, X.env.cells.lookup x = some c → X.env.cells.lookup y = some c → x = y
  has : ∀ x, (X.env.kindOf x = some .cell ∨ X.env.kindOf x = some .free) → ∃ c, X.env.cells.lookup x = some c
  cab : ∀ x c, X.fn x = true → X.env.cells.lookup x = some c → X.s₀.heap.objs.size ≤ c
  hd : X.calm = true → X.A.handled = none
  frames : X.A.frames = some X.stack
  stk : X.stack = X.outer ∨ (X.stack = X.env :: X.outer ∧ X.env.frame = some X.env.locals)
  exf : ∀ b ∈ X.ex, b ≠ X.env.locals ∧ ∀ x c, X.env.cells.lookup x = some c → c ≠ b
  bs : ∀ b o, X.base.get? b = some o → X.s₀.heap.get? b = some o ∧ X.H₀ b = none
  bsz : X.base.objs.size ≤ X.s₀.heap.objs.size
  noex : ∀ b o, X.base.get? b = some o → b ∉ X.ex
  exfs : ∀ b ∈ X.ex, b ∉ X.fs
  funs : X.s₀.heap.FunFrames X.base X.outer
  frf : ∀ b ∈ X.fs, X.H₀ b = none

structure Inv (X : Cx) (pins : List (Addr × Obj)) (σ : List (Option V)) (H : Hp) (s : Shared) : Prop where
  ok : X.Ok
  os : s.os = X.s₀.os
  bare : AllBare s.gens
  base : Un X.fs X.ex X.H₀ H X.s₀.heap s.heap
  loc : ∃ m, s.heap.Ns X.env.locals m ∧ ∀ (i : Nat) (x : Str) (v : V), X.N[i]? = some x → σ[i]? = some (some v) → Vis X.env.scope x → ∃ u, RelV v u ∧ Look X.env s.heap m x u
  cell : ∀ x c, X.env.cells.lookup x = some c → ∃ v, s.heap.IsCell c v
  free : H X.env.locals = none
  freeC : ∀ x c, X.env.cells.lookup x = some c → H c = none
  pin : ∀ p ∈ X.pn ++ pins, s.heap.get? p.1 = some p.2 ∧ H p.1 = none ∧ p.1 ≠ X.env.locals ∧ p.1 ∉ X.fs ∧ ∀ v, p.2.data ≠ .cell v
  hok : HOk X.prog X.w H s.heap
  len : σ.length = X.N.length

section
variable {X : Cx} {pins : List (Addr × Obj)} {σ : List (Option V)} {H H' : Hp} {s : Shared} {h' : Heap}

theorem Cx.Ok.nofr (ok : X.Ok) {b : Addr} {o : Obj} (e : X.base.get? b = some o) : b ∉ X.fs := fun hb => by
  have := (ok.funs.mem hb).1
  rw [e] at this; cases this
theorem Inv.bs (I : Inv X pins σ H s) : ∀ b o, X.base.get? b = some o → s.heap.get? b = some o ∧ H b = none := fun b o e =>
  ⟨I.base.keep b o (I.ok.bs b o e).1 (I.ok.bs b o e).2 (I.ok.nofr e) (I.ok.noex b o e), I.base.free b o (I.ok.bs b o e).1 (I.ok.bs b o e).2 (I.ok.noex b o e)⟩
theorem Inv.bk (I : Inv X pins σ H s) : ∀ b o, X.base.get? b = some o → s.heap.get? b = some o := fun b o e => (I.bs b o e).1
theorem Inv.mod (I : Inv X pins σ H s) : Mod X.K X.mg X.base := I.ok.mod
theorem Inv.kIn (I : Inv X pins σ H s) : X.K.In s.heap := I.ok.mod.kin.keeps I.bk
theorem Inv.nolimit (I : Inv X pins σ H s) : s.heap.NoLimit := I.ok.mod.nolimit.keeps I.bk
/-- the frame over the base: for OpenK's rules (K.In X.base is I.mod.kin) -/
theorem Inv.fr (I : Inv X pins σ H s) : ∃ m, Fr X.base X.env.locals s.heap m :=
  let ⟨m, hn, _⟩ := I.loc
  ⟨m, hn, I.bk, Nat.le_trans I.ok.bsz I.ok.above⟩
theorem Inv.lt (I : Inv X pins σ H s) : X.env.locals < s.heap.objs.size := let ⟨_, hn, _⟩ := I.loc; hn.lt
theorem Inv.sz (I : Inv X pins σ H s) : X.s₀.heap.objs.size ≤ s.heap.objs.size := Nat.le_trans I.ok.above (Nat.le_of_lt I.lt)
theorem Inv.nofs (I : Inv X pins σ H s) {a : Addr} (h : s.heap.objs.size ≤ a) : a ∉ X.fs := fun hb => by
  obtain ⟨_, o, ho, _⟩ := I.ok.funs.mem hb
  exact absurd (Nat.lt_of_lt_of_le (Heap.lt_size ho) (Nat.le_trans I.sz h)) (Nat.lt_irrefl _)
theorem Inv.cne (I : Inv X pins σ H s) : ∀ x c, X.env.cells.lookup x = some c → c ≠ X.env.locals := fun x c e z => by
  obtain ⟨v, o, ho, hd⟩ := I.cell x c e
  obtain ⟨m, ⟨o', es, ep, ho', hd', _⟩, _⟩ := I.loc
  rw [z, ho'] at ho; cases ho; rw [hd'] at hd; cases hd
theorem Inv.funs (I : Inv X pins σ H s) : s.heap.FunFrames X.base X.outer := by
  have all : ∀ (l : List Env), (∀ b ∈ frs l, b ∈ X.fs) → X.s₀.heap.FunFrames X.base l → s.heap.FunFrames X.base l := by
    intro l
    induction l with
    | nil => intro _ _; trivial
    | cons env r ih =>
      intro hs hl
      obtain ⟨hk, ⟨L, o, hf, hn, ho, hd⟩, hr⟩ := hl
      have hL : L ∈ X.fs := hs L (by unfold frs; rw [List.filterMap_cons, hf]; exact List.mem_cons_self)
      obtain ⟨sl, e⟩ := I.base.slot L o ho (I.ok.frf L hL) hL fun z => I.ok.exfs L z hL
      exact ⟨hk, ⟨L, _, hf, hn, e, hd⟩, ih (fun b hb => hs b (by unfold frs; rw [List.filterMap_cons, hf]; exact List.mem_cons_of_mem _ hb)) hr⟩
  exact all X.outer (fun _ hb => hb) I.ok.funs

/-- the frames that run, for a call -/
theorem Inv.stack (I : Inv X pins σ H s) : s.heap.FunFrames X.base X.stack := by
  rcases I.ok.stk with e | ⟨e, hf⟩
  · rw [e]; exact I.funs
  · rw [e]
    obtain ⟨m, hn, _⟩ := I.loc
    refine .cons (by rw [I.ok.kind]; decide) hf hn ?_ I.funs
    exact Heap.get?_none_of_le (Nat.le_trans I.ok.bsz I.ok.above)
theorem Inv.stkSub (I : Inv X pins σ H s) : ∀ b ∈ frs X.stack, b ∈ X.env.locals :: X.fs := fun b hb => by
  rcases I.ok.stk with e | ⟨e, hf⟩
  · rw [e] at hb; exact List.mem_cons_of_mem _ hb
  · rw [e] at hb
    unfold frs at hb
    rw [List.filterMap_cons, hf] at hb
    exact hb
theorem Inv.stkFree (I : Inv X pins σ H s) : ∀ b ∈ frs X.stack, H b = none := fun b hb => by
  rcases List.mem_cons.mp (I.stkSub b hb) with e | hb
  · rw [e]; exact I.free
  · obtain ⟨_, o, ho, _⟩ := I.ok.funs.mem hb
    exact I.base.free b o ho (I.ok.frf b hb) fun z => I.ok.exfs b z hb

/-- THE STEP: the untracked objects but the frame and the records at ch are kept (the callers' frames up to slots), the frame's map is kept, the new abstract heap is held -/
theorem Inv.step {g' : Array GenState} {t' : Nat} {d' : Drawn} {ch : List Addr} (I : Inv X pins σ H s)
    (hch : ∀ b ∈ ch, (b ∈ X.ex ∨ X.s₀.heap.objs.size ≤ b) ∧ b ≠ X.env.locals ∧ (∀ x c, X.env.cells.lookup x = some c → c ≠ b) ∧ ∀ p ∈ X.pn ++ pins, p.1 ≠ b)
    (keep : ∀ b o, b ≠ X.env.locals → b ∉ X.fs → b ∉ ch → s.heap.get? b = some o → H b = none → h'.get? b = some o)
    (slot : ∀ b o, b ≠ X.env.locals → b ∈ X.fs → b ∉ ch → s.heap.get? b = some o → H b = none → ∃ sl, h'.get? b = some { o with slots := sl }) (free : ∀ b o, b ∉ ch → s.heap.get? b = some o → H b = none → H' b = none)
    (there : ∀ b o, b ∉ ch → s.heap.get? b = some o → ∃ o', h'.get? b = some o')
    (tups : ∀ b xs, H b = some (.tup xs) → H' b = some (.tup xs)) (frzs : ∀ b o u, H b = some (.frz o u) → H' b = some (.frz o u)) (tbls : ∀ b ps, H b = some (.tbl ps) → ∃ more, H' b = some (.tbl (ps ++ more)))
    (ns : ∀ m, s.heap.Ns X.env.locals m → h'.Ns X.env.locals m) (hok : HOk X.prog X.w H' h') (hg : AllBare g') :
    Inv X pins σ H' { s with heap := h', gens := g', drawn := d', toks := t' } := by
  have neL : ∀ b o, X.s₀.heap.get? b = some o → b ≠ X.env.locals := fun b o e => Nat.ne_of_lt (Nat.lt_of_lt_of_le (Heap.lt_size e) I.ok.above)
  have neC : ∀ b o, X.s₀.heap.get? b = some o → b ∉ X.ex → b ∉ ch := fun b o e hx hb => by
    rcases (hch b hb).1 with z | z
    · exact hx z
    · exact absurd (Nat.lt_of_lt_of_le (Heap.lt_size e) z) (Nat.lt_irrefl _)
  have cellK : ∀ x c, X.env.cells.lookup x = some c → ∀ v, s.heap.IsCell c v → h'.IsCell c v := fun x c e v ⟨o, ho, hd⟩ => by
    have nch : c ∉ ch := fun z => (hch c z).2.2.1 x c e rfl
    by_cases hc : c ∈ X.fs
    · obtain ⟨sl, q⟩ := slot c o (I.cne x c e) hc nch ho (I.freeC x c e)
      exact ⟨_, q, hd⟩
    · exact ⟨o, keep c o (I.cne x c e) hc nch ho (I.freeC x c e), hd⟩
  refine ⟨I.ok, I.os, hg, ⟨fun b o e n hb hx => ?_, fun b o e n hb hx => ?_, fun b o e n hx => ?_, fun b o e hx => ?_, fun b xs e => tups b xs (I.base.tups b xs e), fun b o xs e => frzs b o xs (I.base.frzs b o xs e), fun b ps e => ?_⟩, ?_, fun x c e => ?_, ?_, fun x c e => ?_, fun p hp => ?_, hok, I.len⟩
  · exact keep b o (neL b o e) hb (neC b o e hx) (I.base.keep b o e n hb hx) (I.base.free b o e n hx)
  · obtain ⟨sl, e1⟩ := I.base.slot b o e n hb hx
    obtain ⟨sl', e2⟩ := slot b _ (neL b o e) hb (neC b o e hx) e1 (I.base.free b o e n hx)
    exact ⟨sl', e2⟩
  · obtain ⟨o', e1⟩ := I.base.there b o e hx
    exact free b o' (neC b o e hx) e1 (I.base.free b o e n hx)
  · obtain ⟨o', e1⟩ := I.base.there b o e hx
    exact there b o' (neC b o e hx) e1
  · obtain ⟨m1, e1⟩ := I.base.tbls b ps e
    obtain ⟨m2, e2⟩ := tbls b _ e1
    exact ⟨m1 ++ m2, by rw [e2, Array.append_assoc]⟩
  · obtain ⟨m, hn, hl⟩ := I.loc
    refine ⟨m, ns m hn, fun i x v e1 e2 e3 => ?_⟩
    obtain ⟨u, r, l⟩ := hl i x v e1 e2 e3
    refine ⟨u, r, ?_⟩
    rcases l with l | ⟨k, c, e, z⟩
    · exact .inl l
    · exact .inr ⟨k, c, e, cellK x c e _ z⟩
  · obtain ⟨v, z⟩ := I.cell x c e
    exact ⟨v, cellK x c e v z⟩
  · obtain ⟨m, ⟨o, _, _, ho, _⟩, _⟩ := I.loc
    exact free _ o (fun z => (hch _ z).2.1 rfl) ho I.free
  · obtain ⟨v, o, ho, hd⟩ := I.cell x c e
    exact free c o (fun z => (hch c z).2.2.1 x c e rfl) ho (I.freeC x c e)
  · obtain ⟨e, n, ne, nf, d⟩ := I.pin p hp
    have nch : p.1 ∉ ch := fun z => (hch p.1 z).2.2.2 p hp rfl
    exact ⟨keep p.1 p.2 ne nf nch e n, free p.1 p.2 nch e n, ne, nf, d⟩
/-- .. where the frame's own object is kept too -/
theorem Inv.un {t' : Nat} (I : Inv X pins σ H s) (u : Un X.fs [] H H' s.heap h') (hok : HOk X.prog X.w H' h') : Inv X pins σ H' { s with heap := h', toks := t' } := by
  obtain ⟨m, ⟨o, es, ep, ho, r⟩, _⟩ := id I.loc
  obtain ⟨sl, hL⟩ := u.any ho I.free (by simp)
  exact I.step (g' := s.gens) (d' := s.drawn) (ch := []) (fun _ z => nomatch z) (fun b o _ hb _ e n => u.keep b o e n hb (by simp)) (fun b o _ hb _ e n => u.slot b o e n hb (by simp)) (fun b o _ e n => u.free b o e n (by simp)) (fun b o _ e => u.there b o e (by simp)) u.tups u.frzs u.tbls (fun m' hm => by
    obtain ⟨o', es', ep', ho', r'⟩ := hm
    rw [ho] at ho'; cases ho'
    exact ⟨_, es', ep', hL, r'⟩) hok I.bare
/-- behind a call (or a comprehension's block): the slots of this frame may have changed too, the records at ch may have turned -/
theorem Inv.call {g' : Array GenState} {t' : Nat} {d' : Drawn} {ch : List Addr} (I : Inv X pins σ H s) (u : Un (frs X.stack) ch H H' s.heap h') (hok : HOk X.prog X.w H' h') (hg : AllBare g')
    (hch : ∀ b ∈ ch, (b ∈ X.ex ∨ X.s₀.heap.objs.size ≤ b) ∧ b ≠ X.env.locals ∧ (∀ x c, X.env.cells.lookup x = some c → c ≠ b) ∧ ∀ p ∈ X.pn ++ pins, p.1 ≠ b) :
    Inv X pins σ H' { s with heap := h', gens := g', drawn := d', toks := t' } := by
  obtain ⟨m, ⟨o, es, ep, ho, r⟩, _⟩ := id I.loc
  obtain ⟨sl, hL⟩ := u.any ho I.free fun z => (hch _ z).2.1 rfl
  exact I.step (ch := ch) hch (fun b o hL hb hc e n => u.keep b o e n (fun z => (List.mem_cons.mp (I.stkSub b z)).elim hL hb) hc) (fun b o _ _ hc e n => u.any e n hc) (fun b o hc e n => u.free b o e n hc) (fun b o hc e => u.there b o e hc) u.tups u.frzs u.tbls (fun m' hm => by
    obtain ⟨o', es', ep', ho', r'⟩ := hm
    rw [ho] at ho'; cases ho'
    exact ⟨_, es', ep', hL, r'⟩) hok hg
/-- an untracked record of ours (an iterator) has turned -/
theorem Inv.turned {t' : Nat} {it : Addr} (I : Inv X pins σ H s) (k : ∀ b o, b ≠ it → s.heap.get? b = some o → h'.get? b = some o) (hn : H it = none) (hL : it ≠ X.env.locals)
    (h1 : it ∈ X.ex ∨ X.s₀.heap.objs.size ≤ it) (h2 : ∀ x c, X.env.cells.lookup x = some c → c ≠ it) (h3 : ∀ p ∈ X.pn ++ pins, p.1 ≠ it) : Inv X pins σ H { s with heap := h', toks := t' } := by
  have nit : ∀ b u, H b = some u → b ≠ it := fun b u e z => by rw [z, hn] at e; cases e
  refine I.step (g' := s.gens) (d' := s.drawn) (ch := [it]) (fun b hb => ?_) (fun b o _ _ hc e _ => k b o (fun z => hc (by simp [z])) e) (fun b o _ _ hc e _ => ⟨o.slots, k b o (fun z => hc (by simp [z])) e⟩) (fun _ _ _ _ n => n)
    (fun b o hc e => ⟨o, k b o (fun z => hc (by simp [z])) e⟩) (fun _ _ e => e) (fun _ _ _ e => e) (fun b ps e => ⟨#[], by rw [e]; simp⟩) (fun m hm => ?_) (fun b u e => ?_) I.bare
  · have e : b = it := by simpa using hb
    subst e
    exact ⟨h1, hL, h2, h3⟩
  · obtain ⟨o, es, ep, ho, r⟩ := hm
    exact ⟨o, es, ep, k _ o (Ne.symm hL) ho, r⟩
  · refine (I.hok b u e).stay (fun c v hc q => k c v ?_ q) (fun _ q => q) fun _ _ q => q
    rcases hc with z | z
    · rw [z]; exact nit b u e
    · exact nit c _ z
theorem Inv.tok (I : Inv X pins σ H s) (t : Nat) : Inv X pins σ H { s with toks := t } := I.un (h' := s.heap) (t' := t) Un.refl I.hok
/-- all objects kept -/
theorem Inv.kept {t' : Nat} (I : Inv X pins σ H s) (k : ∀ b u, s.heap.get? b = some u → h'.get? b = some u) : Inv X pins σ H { s with heap := h', toks := t' } := I.un (Un.kept k) (I.hok.kept k)
/-- a new object laid and tracked -/
theorem Inv.laid {a : Addr} {o : HO} {t' : Nat} (I : Inv X pins σ H s) (k : ∀ b u, s.heap.get? b = some u → h'.get? b = some u) (hp : s.heap.objs.size ≤ a) (new : ObjOk X.prog X.w (upd H a o) h' a o) :
    Inv X pins σ (upd H a o) { s with heap := h', toks := t' } := I.un (Un.laid k hp (I.hok.fresh hp)) (I.hok.laid k hp new)
/-- an object written -/
theorem Inv.write {x e : Addr} {o : HO} {t' : Nat} (I : Inv X pins σ H s) (mu : Mut (H x)) (he : e = x ∨ H e = some (.own x)) (k : ∀ b u, b ≠ e → s.heap.get? b = some u → h'.get? b = some u) (heo : ∃ u, h'.get? e = some u)
    (new : ObjOk X.prog X.w (upd H x o) h' x o) : Inv X pins σ (upd H x o) { s with heap := h', toks := t' } := I.un (Un.write mu he k heo) (I.hok.write mu he k heo new)
theorem Inv.pins_of {pins' : List (Addr × Obj)} (I : Inv X pins σ H s) (h : ∀ p ∈ pins', s.heap.get? p.1 = some p.2 ∧ H p.1 = none ∧ p.1 ≠ X.env.locals ∧ p.1 ∉ X.fs ∧ ∀ v, p.2.data ≠ .cell v) : Inv X pins' σ H s :=
  ⟨I.ok, I.os, I.bare, I.base, I.loc, I.cell, I.free, I.freeC, fun p hp => (List.mem_append.mp hp).elim (fun z => I.pin p (List.mem_append_left _ z)) (h p), I.hok, I.len⟩

theorem nodup_ix {N : List Str} (hN : N.Nodup) {i j : Nat} {x : Str} (a : N[i]? = some x) (b : N[j]? = some x) : i = j := by
  obtain ⟨h1, e1⟩ := List.getElem?_eq_some_iff.mp a
  obtain ⟨h2, e2⟩ := List.getElem?_eq_some_iff.mp b
  exact (List.getElem_inj hN).mp (e1.trans e2.symm)

/-- a name is stored; what changed -/
theorem store_ok2 {M : Model} {A : Around} {E : Value → Shared → Prop} {i : Nat} {x : Str} {v : V} {u : Value} {Q : Unit → Shared → Prop} (I : Inv X pins σ H s) (hN : X.N.Nodup) (hi : X.N[i]? = some x) (hx : Loc X.env.scope x) (r : RelV v u)
    (h : ∀ s', Inv X pins (σ.set i (some v)) H s' → (∃ a, Heap.SameBut a s.heap s'.heap ∧ (a = X.env.locals ∨ X.env.cells.lookup x = some a)) → Q () s') (hf : X.fn x = true ∨ X.env.scope.names.lookup x = some .local := by first | exact .inl rfl | exact .inr rfl | assumption) : wpAny M A (storeName X.env x u) Q E s := by
  obtain ⟨m, hn, hl⟩ := id I.loc
  have hcls : (X.env.scope.kind == .class || (X.env.scope.kind == .module && X.env.locals != X.env.globals)) = false := by rw [I.ok.kind]; rfl
  have hiσ : i < σ.length := by rw [I.len]; exact (List.getElem?_eq_some_iff.mp hi).1
  have cne := I.cne
  have tracked : ∀ {a : Addr} {h' : Heap}, (∃ o, s.heap.get? a = some o ∧ H a = none) → Heap.SameBut a s.heap h' → HOk X.prog X.w H h' := fun {a h'} ha hs b ob e => by
    obtain ⟨_, _, hfree⟩ := ha
    refine (I.hok b ob e).stay (fun c w' hc q => (hs.2 c ?_).trans q) (fun _ q => q) fun _ _ q => q
    rintro rfl
    rcases hc with rfl | hc
    · rw [hfree] at e; cases e
    · rw [hfree] at hc; cases hc
  rcases hx with hk | hk
  · refine wpAny_storeName_local hk hn (fun h' hn' hs => ?_) hcls
    obtain ⟨oL, _, _, hoL, _⟩ := id hn
    refine h _ ⟨I.ok, I.os, I.bare, ⟨fun b o e n hb hx => ?_, fun b o e n hb hx => ?_, I.base.free, fun b o e hx => ?_, I.base.tups, I.base.frzs, I.base.tbls⟩, ⟨_, hn', fun j y v' e1 e2 e3 => ?_⟩, fun y c e => ?_, I.free, I.freeC, fun p hp => ?_, tracked ⟨oL, hoL, I.free⟩ hs, by simpa using I.len⟩ ⟨_, hs, .inl rfl⟩
    · exact (hs.2 b (Nat.ne_of_lt (Nat.lt_of_lt_of_le (Heap.lt_size e) I.ok.above))).trans (I.base.keep b o e n hb hx)
    · obtain ⟨sl, e1⟩ := I.base.slot b o e n hb hx
      exact ⟨sl, (hs.2 b (Nat.ne_of_lt (Nat.lt_of_lt_of_le (Heap.lt_size e) I.ok.above))).trans e1⟩
    · obtain ⟨o', e1⟩ := I.base.there b o e hx
      exact ⟨o', (hs.2 b (Nat.ne_of_lt (Nat.lt_of_lt_of_le (Heap.lt_size e) I.ok.above))).trans e1⟩
    · by_cases hj : j = i
      · subst hj
        rw [hi] at e1; cases e1
        rw [List.getElem?_set_self hiσ] at e2
        cases e2
        exact ⟨u, r, .inl ⟨hk, by simp⟩⟩
      · rw [List.getElem?_set_ne (Ne.symm hj)] at e2
        obtain ⟨u', r', q⟩ := hl j y v' e1 e2 e3
        refine ⟨u', r', ?_⟩
        rcases q with ⟨k, e⟩ | ⟨k, c, e, z⟩
        · refine .inl ⟨k, ?_⟩
          have : y ≠ x := fun e => hj (nodup_ix hN e1 (e ▸ hi))
          simp [this, e]
        · exact .inr ⟨k, c, e, z.sameBut hs (cne y c e)⟩
    · obtain ⟨w', z⟩ := I.cell y c e
      exact ⟨w', z.sameBut hs (cne y c e)⟩
    · obtain ⟨e, n, ne, nf, d⟩ := I.pin p hp
      exact ⟨(hs.2 p.1 ne).trans e, n, ne, nf, d⟩
  · have hfn : X.fn x = true := by
      rcases hf with z | z
      · exact z
      · rw [z] at hk; cases hk
    obtain ⟨c, hc⟩ := I.ok.has x (.inl hk)
    obtain ⟨w', z⟩ := I.cell x c hc
    refine wpAny_storeName_cell I.ok.kind hk hc z (fun h' hc' hs => ?_)
    obtain ⟨oc, hoc, hocd⟩ := id z
    refine h { s with heap := h' } ⟨I.ok, I.os, I.bare, ⟨fun b o e n hb hx => ?_, fun b o e n hb hx => ?_, I.base.free, fun b o e hx => ?_, I.base.tups, I.base.frzs, I.base.tbls⟩, ⟨m, hn.sameBut hs (Ne.symm (cne x c hc)), fun j y v' e1 e2 e3 => ?_⟩, fun y c' e => ?_, I.free, I.freeC, fun p hp => ?_, tracked ⟨oc, hoc, I.freeC x c hc⟩ hs, by simpa using I.len⟩ ⟨c, hs, .inr hc⟩
    · exact (hs.2 b (Nat.ne_of_lt (Nat.lt_of_lt_of_le (Heap.lt_size e) (I.ok.cab x c hfn hc)))).trans (I.base.keep b o e n hb hx)
    · obtain ⟨sl, e1⟩ := I.base.slot b o e n hb hx
      exact ⟨sl, (hs.2 b (Nat.ne_of_lt (Nat.lt_of_lt_of_le (Heap.lt_size e) (I.ok.cab x c hfn hc)))).trans e1⟩
    · obtain ⟨o', e1⟩ := I.base.there b o e hx
      exact ⟨o', (hs.2 b (Nat.ne_of_lt (Nat.lt_of_lt_of_le (Heap.lt_size e) (I.ok.cab x c hfn hc)))).trans e1⟩
    · by_cases hj : j = i
      · subst hj
        rw [hi] at e1; cases e1
        rw [List.getElem?_set_self hiσ] at e2
        cases e2
        exact ⟨u, r, .inr ⟨.inl hk, c, hc, hc'⟩⟩
      · rw [List.getElem?_set_ne (Ne.symm hj)] at e2
        obtain ⟨u', r', q⟩ := hl j y v' e1 e2 e3
        refine ⟨u', r', ?_⟩
        rcases q with q | ⟨k, c', e, z'⟩
        · exact .inl q
        · refine .inr ⟨k, c', e, z'.sameBut hs ?_⟩
          rintro rfl
          exact hj (nodup_ix hN e1 (I.ok.inj _ _ _ e hc ▸ hi))
    · by_cases hcc : c' = c
      · subst hcc; exact ⟨_, hc'⟩
      · obtain ⟨w2, z2⟩ := I.cell y c' e
        exact ⟨w2, z2.sameBut hs hcc⟩
    · obtain ⟨e, n, ne, nf, d⟩ := I.pin p hp
      refine ⟨(hs.2 p.1 ?_).trans e, n, ne, nf, d⟩
      intro q
      rw [q, hoc] at e
      have q' : oc = p.2 := Option.some.inj e
      exact d w' (by rw [← q']; exact hocd)
theorem store_ok {M : Model} {A : Around} {E : Value → Shared → Prop} {i : Nat} {x : Str} {v : V} {u : Value} {Q : Unit → Shared → Prop} (I : Inv X pins σ H s) (hN : X.N.Nodup) (hi : X.N[i]? = some x) (hx : Loc X.env.scope x) (r : RelV v u)
    (h : ∀ s', Inv X pins (σ.set i (some v)) H s' → Q () s') (hf : X.fn x = true ∨ X.env.scope.names.lookup x = some .local := by first | exact .inl rfl | exact .inr rfl | assumption) : wpAny M A (storeName X.env x u) Q E s :=
  store_ok2 I hN hi hx r (fun s' I' _ => h s' I') hf
/-- behind a call or a block, the state as it is -/
theorem Inv.call' {s' : Shared} {ch : List Addr} (I : Inv X pins σ H s) (ho : s'.os = s.os) (u : Un (frs X.stack) ch H H' s.heap s'.heap) (hok : HOk X.prog X.w H' s'.heap) (hg : AllBare s'.gens)
    (hch : ∀ b ∈ ch, (b ∈ X.ex ∨ X.s₀.heap.objs.size ≤ b) ∧ b ≠ X.env.locals ∧ (∀ x c, X.env.cells.lookup x = some c → c ≠ b) ∧ ∀ p ∈ X.pn ++ pins, p.1 ≠ b) : Inv X pins σ H' s' := by
  obtain ⟨h', g', d', t', o'⟩ := s'
  have e : o' = s.os := ho
  subst e
  exact I.call (g' := g') (t' := t') (d' := d') u hok hg hch
end

/-! ### the judgements -/
/-- an exception: its class, its own dict's address (where it has one), the abstract heap behind it -/
abbrev XK := Value → Option Addr → Hp → Prop
abbrev St := List (Option V)
abbrev VK := V → Hp → Prop
/-- an expression's reading; a test's; an argument list's -/
abbrev TE := St → Hp → VK → Prop
abbrev TT := St → Hp → (Bool → Hp → Prop) → Prop
abbrev TA := St → Hp → (List V → Hp → Prop) → Prop
/-- what is wanted behind a statement -/
structure Ends where
  nx : St → Hp → Prop
  rt : VK
  bk : St → Hp → Prop := fun _ _ => False
  ct : St → Hp → Prop := fun _ _ => False
abbrev TS := Ends → St → Hp → Prop

def EP (X : Cx) (pins : List (Addr × Obj)) (σ : St) (Q : VK) (u : Value) (s' : Shared) : Prop := ∃ v H', Inv X pins σ H' s' ∧ RelV v u ∧ Q v H'
def TP (X : Cx) (pins : List (Addr × Obj)) (σ : St) (Q : Bool → Hp → Prop) (b : Bool) (s' : Shared) : Prop := ∃ H', Inv X pins σ H' s' ∧ Q b H'
def AP (X : Cx) (pins : List (Addr × Obj)) (σ : St) (Q : List V → Hp → Prop) (us : List Value) (s' : Shared) : Prop := ∃ vs H', Inv X pins σ H' s' ∧ Vals vs us ∧ Q vs H'
def SP (X : Cx) (pins : List (Addr × Obj)) (D : Ends) (f : Flow) (s' : Shared) : Prop :=
  match f with
  | .next => ∃ σ' H', Inv X pins σ' H' s' ∧ D.nx σ' H'
  | .brk => ∃ σ' H', Inv X pins σ' H' s' ∧ D.bk σ' H'
  | .cont => ∃ σ' H', Inv X pins σ' H' s' ∧ D.ct σ' H'
  | .ret u => ∃ v σ' H', Inv X pins σ' H' s' ∧ RelV v u ∧ D.rt v H'

def PE (X : Cx) (e : Expr) (t : TE) : Prop :=
  ∀ (pins : List (Addr × Obj)) (s : Shared) (σ : St) (H : Hp) (Q : VK), Inv X pins σ H s → t σ H Q → wpAny (model X.prog X.w) X.A (eval e X.env) (EP X pins σ Q) X.xe s
def PT (X : Cx) (e : Expr) (t : TT) : Prop :=
  ∀ (pins : List (Addr × Obj)) (s : Shared) (σ : St) (H : Hp) (Q : Bool → Hp → Prop), Inv X pins σ H s → t σ H Q → wpAny (model X.prog X.w) X.A (isTrue e X.env (eval e X.env)) (TP X pins σ Q) X.xe s
/-- a test whatever its 'whole' is (and, or) -/
def PW (X : Cx) (e : Expr) (t : TT) : Prop :=
  ∀ (whole : Sem Value) (pins : List (Addr × Obj)) (s : Shared) (σ : St) (H : Hp) (Q : Bool → Hp → Prop), Inv X pins σ H s → t σ H Q → wpAny (model X.prog X.w) X.A (isTrue e X.env whole) (TP X pins σ Q) X.xe s
theorem PW.pt {X : Cx} {e : Expr} {t : TT} (h : PW X e t) : PT X e t := h _
/-- an argument list (no star), from the left -/
def PA (X : Cx) (es : List Expr) (t : TA) : Prop :=
  ∀ (pos : Pos) (pins : List (Addr × Obj)) (s : Shared) (σ : St) (H : Hp) (Q : List V → Hp → Prop), Inv X pins σ H s → t σ H Q → wpAny (model X.prog X.w) X.A (spliced (backTo pos (starEach es X.env))) (AP X pins σ Q) X.xe s
def PS (X : Cx) (st : Stmt) (t : TS) : Prop :=
  ∀ (pins : List (Addr × Obj)) (s : Shared) (σ : St) (H : Hp) (D : Ends), Inv X pins σ H s → t D σ H → wpAny (model X.prog X.w) X.A (exec st X.env) (SP X pins D) X.xe s
def PSs (X : Cx) (st : List Stmt) (t : TS) : Prop :=
  ∀ (pins : List (Addr × Obj)) (s : Shared) (σ : St) (H : Hp) (D : Ends), Inv X pins σ H s → t D σ H → wpAny (model X.prog X.w) X.A (execs st X.env) (SP X pins D) X.xe s
/-- weaken the end -/
theorem thn {α : Type} {t : Sem α} {Q Q' : α → Shared → Prop} {M : Model} {A : Around} {E : Value → Shared → Prop} {s : Shared} (h : wpAny M A t Q E s) (hQ : ∀ a s, Q a s → Q' a s) : wpAny M A t Q' E s := wpAny_mono h hQ fun _ _ x => x
end L2

namespace L2
open PySem PySem.Spec PyProof.Rows
section
variable {X : Cx}


/-! ### names and constants -/
def tVar (i : Nat) : TE := fun σ H Q => ∃ v, σ[i]? = some (some v) ∧ Q v H
def tC (v : V) : TE := fun _ H Q => Q v H
theorem pe_var {i : Nat} {x : Str} {pos : Pos} (hN : X.N[i]? = some x) (hv : Vis X.env.scope x) (hd : (x == ("__debug__" : Str)) = false := by decide) (hcd : (x == ("__classdict__" : Str)) = false := by decide) : PE X (.Name x pos) (tVar i) := by
  intro pins s σ H Q I h
  obtain ⟨v, e, h⟩ := h
  obtain ⟨m, hn, hl⟩ := I.loc
  obtain ⟨u, r, l⟩ := hl i x v hN e hv
  have fin : EP X pins σ Q u s := ⟨v, H, I, r, h⟩
  rcases l with ⟨hk, hm⟩ | ⟨hk, c, hc, hcell⟩
  · exact wpAny_Name (wpAny_loadName_local I.ok.kind hk hn hm fin) hd
  · rcases hk with hk | hk
    · exact wpAny_Name (wpAny_loadName_cell I.ok.kind hk hc hcell fin) hd
    · exact wpAny_Name (wpAny_loadName_free I.ok.kind hk hc hcell fin hcd) hd
theorem pe_int {i j pos} : PE X (.Constant (.int i) j pos) (tC (.int i)) := fun _ _ _ H _ I h => wpAny_Constant_int ⟨.int i, H, I.tok _, ⟨_, rfl⟩, h⟩
theorem pe_bl {b j pos} : PE X (.Constant (.bool b) j pos) (tC (.bl b)) := fun _ _ _ H _ I h => Constant_bool ⟨.bl b, H, I, rfl, h⟩
theorem pe_str {x j pos} : PE X (.Constant (.str x) j pos) (tC (.str x)) := fun _ _ _ H _ I h => Calls.Constant_str ⟨.str x, H, I.tok _, ⟨_, rfl⟩, h⟩

/-- a global name of the def -/
def Gl (X : Cx) (x : Str) : Prop := X.env.kindOf x = some .globalImplicit
theorem ld_glob {E : Value → Shared → Prop} {pins : List (Addr × Obj)} {s : Shared} {σ : St} {H : Hp} {x : Str} {u : Value} {pos : Pos} {Q : Value → Shared → Prop} (I : Inv X pins σ H s) (hg : Gl X x) (hm : X.mg x = some u) (h : Q u s)
    (hd : (x == ("__debug__" : Str)) = false := by decide) : wpAny (model X.prog X.w) X.A (eval (.Name x pos) X.env) Q E s :=
  Calls.Name_function_global I.ok.kind hg (Calls.loadGlobal_global (by rw [I.ok.glob]; exact I.mod.glob.keeps I.bk) hm h) hd
theorem ld_blt {E : Value → Shared → Prop} {pins : List (Addr × Obj)} {s : Shared} {σ : St} {H : Hp} {x : Str} {u : Value} {pos : Pos} {Q : Value → Shared → Prop} (I : Inv X pins σ H s) (hg : Gl X x) (hm : X.mg x = none) (hv : bootBuiltins x = some u) (h : Q u s)
    (hn : x ≠ "__name__" := by decide) (hd : (x == ("__debug__" : Str)) = false := by decide) : wpAny (model X.prog X.w) X.A (eval (.Name x pos) X.env) Q E s := by
  obtain ⟨mb, h1, h2⟩ := I.mod.blt
  exact Calls.Name_function_global I.ok.kind hg (Calls.loadGlobal_builtin (by rw [I.ok.glob]; exact I.mod.glob.keeps I.bk) hm (by rw [I.ok.blt]; exact h1.keeps I.bk) ((h2 x hn).trans hv) h) hd
/-- a module's constant, a class, a function, as a value -/
theorem pe_glob {x : Str} {v : V} {u : Value} {pos : Pos} (hg : Gl X x) (hm : X.mg x = some u) (r : RelV v u) (hd : (x == ("__debug__" : Str)) = false := by decide) : PE X (.Name x pos) (tC v) :=
  fun _ _ _ H _ I h => ld_glob I hg hm ⟨v, H, I, r, h⟩ hd
theorem pe_bltn {x : Str} {v : V} {u : Value} {pos : Pos} (hg : Gl X x) (hm : X.mg x = none) (hv : bootBuiltins x = some u) (r : RelV v u) (hn : x ≠ "__name__" := by decide) (hd : (x == ("__debug__" : Str)) = false := by decide) : PE X (.Name x pos) (tC v) :=
  fun _ _ _ H _ I h => ld_blt I hg hm hv ⟨v, H, I, r, h⟩ hn hd

/-! ### arithmetic -/
variable {a b : Expr} {ta tb : TE} {pos : Pos}

/-! ### comparisons -/
/-- a comparison as a value, as a test -/
def tB (t : TE) : TT := fun σ H Q => t σ H fun x H1 => ∃ c, x = .bl c ∧ Q c H1

/-! ### and, or, not -/
variable {tA tB' : TT} {rest : List Expr}
def tAnd (t u : TT) : TT := fun σ H Q => t σ H fun c H1 => if c = true then u σ H1 Q else Q false H1
def tOr (t u : TT) : TT := fun σ H Q => t σ H fun c H1 => if c = true then Q true H1 else u σ H1 Q
def tNot (t : TT) : TT := fun σ H Q => t σ H fun c H1 => Q (!c) H1
theorem pw_and1 (ha : PT X a tA) : PW X (.BoolOp .And [a] pos) tA := by
  intro wh pins s σ H Q I h
  refine isTrue_and (thn (ha pins s σ H Q I h) fun c s1 e => ?_)
  cases c with
  | true => exact isTrue_and_nil e
  | false => exact e
theorem pw_or1 (ha : PT X a tA) : PW X (.BoolOp .Or [a] pos) tA := by
  intro wh pins s σ H Q I h
  refine isTrue_or (thn (ha pins s σ H Q I h) fun c s1 e => ?_)
  cases c with
  | false => exact isTrue_or_nil e
  | true => exact e
theorem pw_and (ha : PT X a tA) (hb : PW X (.BoolOp .And (b :: rest) pos) tB') : PW X (.BoolOp .And (a :: b :: rest) pos) (tAnd tA tB') := by
  intro wh pins s σ H Q I h
  refine isTrue_and (thn (ha pins s σ H _ I h) fun c s1 ⟨H1, I1, q1⟩ => ?_)
  cases c with
  | true => exact hb wh pins s1 σ H1 Q I1 q1
  | false => exact ⟨H1, I1, q1⟩
theorem pw_or (ha : PT X a tA) (hb : PW X (.BoolOp .Or (b :: rest) pos) tB') : PW X (.BoolOp .Or (a :: b :: rest) pos) (tOr tA tB') := by
  intro wh pins s σ H Q I h
  refine isTrue_or (thn (ha pins s σ H _ I h) fun c s1 ⟨H1, I1, q1⟩ => ?_)
  cases c with
  | true => exact ⟨H1, I1, q1⟩
  | false => exact hb wh pins s1 σ H1 Q I1 q1
theorem pt_not (ha : PT X a tA) : PT X (.UnaryOp .Not a pos) (tNot tA) := by
  intro pins s σ H Q I h
  exact isTrue_not (ha pins s σ H (fun c H1 => Q (!c) H1) I h)
theorem pe_one {op} {t : TE} (h : PE X a t) : PE X (.BoolOp op [a] pos) t := fun pins s σ H Q I hw => BoolOp_one (h pins s σ H Q I hw)
end
end L2

namespace L2
open PySem PySem.Spec PyProof.Rows

/-! ### a list, a tuple that is read: tracked, frozen, or an object of the module -/
def SqL (K : PySem.W.Frag) (H : Hp) (a : Addr) (xs : List V) : Prop :=
  Rd H a (.lst xs) ∨
    ∃ (o : Obj) (its : Array Value) (n : Nat), K.lookup a = some o ∧ o.cls = .type "list" ∧ o.dict = none ∧ o.data = .seq its n ∧ its.size ≤ sizeLine ∧ Vals xs its.toList
def SqT (K : PySem.W.Frag) (H : Hp) (a : Addr) (xs : List V) : Prop :=
  Rd H a (.tup xs) ∨
    ∃ (o : Obj) (its : Array Value) (n : Nat), K.lookup a = some o ∧ o.cls = .type "tuple" ∧ o.data = .seq its n ∧ its.size ≤ sizeLine ∧ Vals xs its.toList
def absV : Value → Option V
  | .none => some .non
  | .bool b => some (.bl b)
  | .int i _ => some (.int i)
  | .str x _ => some (.str x)
  | .bytes b _ => some (.byt b)
  | .float b _ => some (.flt b)
  | .ref a => some (.ref a)
  | .type n => some (.ty n)
  | _ => none
theorem RelV.abs {x : V} {u : Value} (r : RelV x u) : absV u = some x := by
  cases x with
  | non => cases r; rfl
  | bl _ => cases r; rfl
  | int _ => obtain ⟨t, rfl⟩ := r; rfl
  | str _ => obtain ⟨t, rfl⟩ := r; rfl
  | byt _ => obtain ⟨t, rfl⟩ := r; rfl
  | flt _ => obtain ⟨t, rfl⟩ := r; rfl
  | ref _ => cases r; rfl
  | ty _ => cases r; rfl
theorem RelV.inj {x y : V} {u : Value} (r : RelV x u) (q : RelV y u) : x = y := Option.some.inj (r.abs.symm.trans q.abs)
theorem Vals.inj : ∀ {xs ys : List V} {us : List Value}, Vals xs us → Vals ys us → xs = ys
  | _, _, _, .nil, .nil => rfl
  | _, _, _, .cons r t, .cons r' t' => by rw [r.inj r', Vals.inj t t']
section
variable {X : Cx} {pins : List (Addr × Obj)} {σ : St} {H : Hp} {s : Shared} {a : Addr} {xs ys : List V}
theorem SqL.of {K : PySem.W.Frag} (h : H a = some (.lst xs)) : SqL K H a xs := .inl (.inl h)
theorem SqT.of {K : PySem.W.Frag} (h : H a = some (.tup xs)) : SqT K H a xs := .inl (.inl h)
theorem Inv.list (I : Inv X pins σ H s) (h : SqL X.K H a xs) : ∃ its : List Value, Vals xs its ∧ PlainL s.heap a its.toArray ∧ xs.length ≤ sizeLine := by
  rcases h with h | ⟨o, its, n, hk, hc, hd, hs, hz, r⟩
  · obtain ⟨z, its, n, r, e⟩ := h.ok I.hok
    exact ⟨its, r, ⟨_, n, e, rfl, rfl, rfl⟩, z⟩
  · refine ⟨its.toList, r, ⟨o, n, I.kIn a o hk, hc, hd, by simpa using hs⟩, ?_⟩
    have e := r.length
    simp only [Array.length_toList] at e
    omega
theorem Inv.tuple (I : Inv X pins σ H s) (h : SqT X.K H a xs) : ∃ its : List Value, Vals xs its ∧ IsTup s.heap a its.toArray ∧ xs.length ≤ sizeLine := by
  rcases h with h | ⟨o, its, n, hk, hc, hs, hz, r⟩
  · obtain ⟨z, its, r, p⟩ := h.ok I.hok
    exact ⟨its, r, p, z⟩
  · refine ⟨its.toList, r, ⟨o, I.kIn a o hk, hc, n, by simpa using hs⟩, ?_⟩
    have e := r.length
    simp only [Array.length_toList] at e
    omega
theorem Inv.list_inj (I : Inv X pins σ H s) (h : SqL X.K H a xs) (h' : SqL X.K H a ys) : xs = ys := by
  obtain ⟨its, r, ⟨o, n, e, _, _, d⟩, _⟩ := I.list h
  obtain ⟨its', r', ⟨o', n', e', _, _, d'⟩, _⟩ := I.list h'
  rw [e] at e'; cases e'
  rw [d] at d'
  injection d' with d1 _
  have : its = its' := by simpa using congrArg Array.toList d1
  subst this
  exact r.inj r'
theorem Inv.tuple_inj (I : Inv X pins σ H s) (h : SqT X.K H a xs) (h' : SqT X.K H a ys) : xs = ys := by
  obtain ⟨its, r, ⟨o, e, _, n, d⟩, _⟩ := I.tuple h
  obtain ⟨its', r', ⟨o', e', _, n', d'⟩, _⟩ := I.tuple h'
  rw [e] at e'; cases e'
  rw [d] at d'
  injection d' with d1 _
  have : its = its' := by simpa using congrArg Array.toList d1
  subst this
  exact r.inj r'
end

/-! ### another wish about exceptions -/
abbrev Cx.wish (X : Cx) (E : Value → Shared → Prop) : Cx := { X with xe := E }
/-- no exception leaves -/
abbrev Cx.nox (X : Cx) : Cx := X.wish fun _ _ => False
theorem Cx.Ok.wish {X : Cx} (ok : X.Ok) (E : Value → Shared → Prop) : (X.wish E).Ok :=
  ⟨ok.mod, ok.kind, ok.glob, ok.blt, ok.above, ok.inj, ok.has, ok.cab, ok.hd, ok.frames, ok.stk, ok.exf, ok.bs, ok.bsz, ok.noex, ok.exfs, ok.funs, ok.frf⟩
theorem Cx.Ok.unwish {X : Cx} {E : Value → Shared → Prop} (ok : (X.wish E).Ok) : X.Ok :=
  ⟨ok.mod, ok.kind, ok.glob, ok.blt, ok.above, ok.inj, ok.has, ok.cab, ok.hd, ok.frames, ok.stk, ok.exf, ok.bs, ok.bsz, ok.noex, ok.exfs, ok.funs, ok.frf⟩
section
variable {X : Cx} {pins : List (Addr × Obj)} {σ : St} {H : Hp} {s : Shared} {E : Value → Shared → Prop}
theorem Inv.wish (I : Inv X pins σ H s) (E : Value → Shared → Prop) : Inv (X.wish E) pins σ H s := ⟨I.ok.wish E, I.os, I.bare, I.base, I.loc, I.cell, I.free, I.freeC, I.pin, I.hok, I.len⟩
theorem Inv.unwish (I : Inv (X.wish E) pins σ H s) : Inv X pins σ H s := ⟨I.ok.unwish, I.os, I.bare, I.base, I.loc, I.cell, I.free, I.freeC, I.pin, I.hok, I.len⟩
theorem SP.unwish {D : Ends} {f : Flow} {s' : Shared} (h : SP (X.wish E) pins D f s') : SP X pins D f s' := by
  cases f with
  | next => obtain ⟨σ', H', I, q⟩ := h; exact ⟨σ', H', I.unwish, q⟩
  | brk => obtain ⟨σ', H', I, q⟩ := h; exact ⟨σ', H', I.unwish, q⟩
  | cont => obtain ⟨σ', H', I, q⟩ := h; exact ⟨σ', H', I.unwish, q⟩
  | ret u => obtain ⟨v, σ', H', I, r, q⟩ := h; exact ⟨v, σ', H', I.unwish, r, q⟩
theorem PE.nox {e : Expr} {t : TE} (h : PE X.nox e t) : PE X e t := fun pins s σ H Q I hw =>
  wpAny_mono (h pins s σ H Q (I.wish _) hw) (fun _ _ ⟨v, H', I', r, q⟩ => ⟨v, H', I'.unwish, r, q⟩) fun _ _ z => False.elim z
theorem PT.nox {e : Expr} {t : TT} (h : PT X.nox e t) : PT X e t := fun pins s σ H Q I hw =>
  wpAny_mono (h pins s σ H Q (I.wish _) hw) (fun _ _ ⟨H', I', q⟩ => ⟨H', I'.unwish, q⟩) fun _ _ z => False.elim z
theorem PSs.nox {st : List Stmt} {t : TS} (h : PSs X.nox st t) : PSs X st t := fun pins s σ H D I hw =>
  wpAny_mono (h pins s σ H D (I.wish _) hw) (fun _ _ q => q.unwish) fun _ _ z => False.elim z
end

/-! ### blocks and small statements -/
section
variable {X : Cx} {st : Stmt} {rest : List Stmt} {t u : TS} {e : Expr} {te : TE} {pos : Pos}
def tNext : TS := fun D σ H => D.nx σ H
def tSeq (t u : TS) : TS := fun D σ H => t { D with nx := u D } σ H
theorem pss_nil : PSs X [] tNext := fun _ _ σ H _ I h => wpAny_execs_nil ⟨σ, H, I, h⟩
theorem pss_cons (h1 : PS X st t) (h2 : PSs X rest u) : PSs X (st :: rest) (tSeq t u) := by
  intro pins s σ H D I h
  refine wpAny_execs_cons (thn (h1 pins s σ H { D with nx := u D } I h) fun f s1 q => ?_)
  cases f with
  | next =>
    obtain ⟨σ', H', I', q⟩ := q
    exact h2 pins s1 σ' H' D I' q
  | ret v => exact q
  | brk => exact q
  | cont => exact q
theorem pss_one (h1 : PS X st t) : PSs X [st] t := by
  intro pins s σ H D I h
  refine wpAny_execs_cons (thn (h1 pins s σ H D I h) fun f s1 q => ?_)
  cases f with
  | next => exact wpAny_execs_nil q
  | ret v => exact q
  | brk => exact q
  | cont => exact q
/-- in a def's body nothing is shown -/
theorem Inv.quiet {pins : List (Addr × Obj)} {σ : St} {H : Hp} {s : Shared} (I : Inv X pins σ H s) : interactive X.env = false := by simp [interactive, I.ok.kind]
/-- an expression whose value is dropped -/
def tDrop (te : TE) : TS := fun D σ H => te σ H fun _ H1 => D.nx σ H1
theorem ps_expr (he : PE X e te) (hs : swapsWith e none pos.line X.env = pure false := by rfl) : PS X (.Expr e pos) (tDrop te) := by
  intro pins s σ H D I h
  exact wpAny_Expr_any (thn (he pins s σ H _ I h) fun v s1 ⟨x, H1, I1, r1, q1⟩ => ⟨σ, H1, I1, q1⟩) I.quiet hs
def tRet (te : TE) : TS := fun D σ H => te σ H D.rt
theorem ps_ret (he : PE X e te) : PS X (.Return (some e) pos) (tRet te) := by
  intro pins s σ H D I h
  exact wpAny_Return_some (thn (he pins s σ H _ I h) fun v s1 ⟨x, H1, I1, r1, q1⟩ => ⟨x, σ, H1, I1, r1, q1⟩)
def tIfS (c : TT) (t u : TS) : TS := fun D σ H => c σ H fun b H1 => if b = true then t D σ H1 else u D σ H1
theorem ps_if {c : Expr} {a b : List Stmt} {tc : TT} (hc : PT X c tc) (ha : PSs X a t) (hb : PSs X b u) : PS X (.If c a b pos) (tIfS tc t u) := by
  intro pins s σ H D I h
  refine wpAny_If (thn (hc pins s σ H _ I h) fun d s1 ⟨H1, I1, q1⟩ => ?_)
  cases d with
  | true => exact ha pins s1 σ H1 D I1 q1
  | false => exact hb pins s1 σ H1 D I1 q1
end

/-! ### targets -/
abbrev TG := V → St → Hp → (St → Hp → Prop) → Prop
abbrev TGs := List V → St → Hp → (St → Hp → Prop) → Prop
def PG (X : Cx) (target : Expr) (t : TG) : Prop :=
  ∀ (pins : List (Addr × Obj)) (s : Shared) (σ : St) (H : Hp) (v : V) (u : Value) (Q : St → Hp → Prop), Inv X pins σ H s → RelV v u → t v σ H Q →
    wpAny (model X.prog X.w) X.A (assign target X.env u) (fun _ s' => ∃ σ' H', Inv X pins σ' H' s' ∧ Q σ' H') X.xe s
/-- several targets, one after another -/
def PGs (X : Cx) (ts : List Expr) (t : TGs) : Prop :=
  ∀ (pins : List (Addr × Obj)) (s : Shared) (σ : St) (H : Hp) (vs : List V) (us : List Value) (Q : St → Hp → Prop), Inv X pins σ H s → Vals vs us → t vs σ H Q →
    wpAny (model X.prog X.w) X.A (assignInOrder ((assignEach ts X.env).map (·.2)) us) (fun _ s' => ∃ σ' H', Inv X pins σ' H' s' ∧ Q σ' H') X.xe s
/-- o[i] = v, by values -/
abbrev TSet := V → V → V → Hp → (Hp → Prop) → Prop
def PSet (X : Cx) (t : TSet) : Prop :=
  ∀ (pins : List (Addr × Obj)) (s : Shared) (σ : St) (H : Hp) (o i v : V) (ov iv u : Value) (Q : Hp → Prop), Inv X pins σ H s → RelV o ov → RelV i iv → RelV v u → t o i v H Q →
    wpAny (model X.prog X.w) X.A (setItem ov iv u) (fun _ s' => ∃ H', Inv X pins σ H' s' ∧ Q H') X.xe s
section
variable {X : Cx} {pos : Pos}
def gName (i : Nat) : TG := fun v σ H Q => Q (σ.set i (some v)) H
theorem pg_name {i : Nat} {x : Str} (hN : X.N.Nodup) (hi : X.N[i]? = some x) (hx : Loc X.env.scope x) (hf : X.fn x = true ∨ X.env.scope.names.lookup x = some .local := by first | exact .inl rfl | exact .inr rfl | assumption) : PG X (.Name x pos) (gName i) := by
  intro pins s σ H v u Q I r h
  exact wpAny_assign_Name (store_ok I hN hi hx r (fun s' I' => ⟨_, H, I', h⟩) hf)
def gNil : TGs := fun vs σ H Q => vs = [] ∧ Q σ H
def gCons (t : TG) (u : TGs) : TGs := fun vs σ H Q => ∃ v r, vs = v :: r ∧ t v σ H fun σ' H' => u r σ' H' Q
theorem pgs_nil : PGs X [] gNil := by
  intro pins s σ H vs us Q I r h
  obtain ⟨e, h⟩ := h
  subst e
  cases r
  exact assignInOrder_nil ⟨σ, H, I, h⟩
theorem pgs_cons {e : Expr} {es : List Expr} {t : TG} {u : TGs} (h1 : PG X e t) (h2 : PGs X es u)
    (hs : (assignEach (e :: es) X.env).map (·.2) = assign e X.env :: (assignEach es X.env).map (·.2) := by rfl) : PGs X (e :: es) (gCons t u) := by
  intro pins s σ H vs us Q I r h
  obtain ⟨v, vr, e1, h⟩ := h
  subst e1
  cases r with
  | cons r rr =>
    rw [hs]
    refine assignInOrder_cons (thn (h1 pins s σ H _ _ _ I r h) fun _ s1 ⟨σ1, H1, I1, q1⟩ => ?_)
    exact h2 pins s1 σ1 H1 _ _ Q I1 rr q1
/-- (a, b, ..) = a tuple of that length -/
def gTup (K : PySem.W.Frag) (n : Nat) (t : TGs) : TG := fun v σ H Q => ∃ a xs, v = .ref a ∧ SqT K H a xs ∧ xs.length = n ∧ t xs σ H Q
theorem pg_tup {es : List Expr} {k : Nat} {t : TGs} {n : Nat} (hc : X.calm = true) (h : PGs X es t)
    (hn : (assignEach es X.env).length = n := by rfl) (hst : (assignEach es X.env).findIdx? (·.1) = none := by rfl) : PG X (.Tuple es k pos) (gTup X.K n t) := by
  intro pins s σ H v u Q I r hw
  obtain ⟨a, xs, e1, hq, hl, hw⟩ := hw
  subst e1
  cases r
  obtain ⟨its, rv, ht, hz⟩ := I.tuple hq
  refine assign_Tuple_tuple (I.ok.hd hc) ht (by simp [hn, ← hl, rv.length]) hst fun h' hx => ?_
  have I1 : Inv X pins σ H { s with heap := h' } := I.kept (t' := s.toks) fun b o e => hx b o (Nat.ne_of_lt (Heap.lt_size e)) e
  exact h pins _ σ H xs _ Q I1 (by simpa using rv) hw
/-- o[i] = .. -/
def gSub (to ti : TE) (t : TSet) : TG := fun v σ H Q => to σ H fun o H1 => ti σ H1 fun i H2 => t o i v H2 fun H3 => Q σ H3
theorem pg_sub {o i : Expr} {to ti : TE} {t : TSet} (ho : PE X o to) (hi : PE X i ti) (hs : PSet X t)
    (ha : ∀ v, assign (.Subscript o i pos) X.env v = (do
      let ov ← holding [v] (eval o X.env)
      let iv ← holding [v, ov] (eval i X.env)
      standAt pos
      holding [v, ov, iv] (setItem ov iv v)
      release [v, ov, iv] []) := by intro _; rfl) : PG X (.Subscript o i pos) (gSub to ti t) := by
  intro pins s σ H v u Q I r h
  rw [ha]
  refine wpAny_bind (wpAny_holding (thn (ho pins s σ H _ I h) fun ov s1 ⟨x, H1, I1, r1, q1⟩ => ?_))
  refine wpAny_bind (wpAny_holding (thn (hi pins s1 σ H1 _ I1 q1) fun iv s2 ⟨y, H2, I2, r2, q2⟩ => ?_))
  refine wpAny_bind (wpAny_standAt (wpAny_bind (wpAny_holding (thn (hs pins s2 σ H2 x y v ov iv u _ I2 r1 r2 r q2) fun _ s3 ⟨H3, I3, q3⟩ => ?_))))
  exact wpAny_release ⟨σ, H3, I3, q3⟩
/-- target = value -/
def tAsg (te : TE) (g : TG) : TS := fun D σ H => te σ H fun x H1 => g x σ H1 D.nx
theorem ps_asg {tg e : Expr} {te : TE} {g : TG} (he : PE X e te) (hg : PG X tg g) (hs : swapsWithSole [tg] e pos.line X.env = pure false := by rfl) (hw : swappedStores [tg] e X.env = pure none := by rfl)
    (h1 : (assignEach [tg] X.env).map (·.2) = [assign tg X.env] := by rfl) : PS X (.Assign [tg] e pos) (tAsg te g) := by
  intro pins s σ H D I h
  refine wpAny_Assign_stores (thn (he pins s σ H _ I h) fun v s1 ⟨x, H1, I1, r1, q1⟩ => ?_) hs hw
  rw [h1]
  exact thn (hg pins s1 σ H1 x v _ I1 r1 q1) fun _ s2 q => q
/-- name = value -/
theorem ps_set {i : Nat} {x : Str} {e : Expr} {te : TE} {pos' : Pos} (hN : X.N.Nodup) (hi : X.N[i]? = some x) (hx : Loc X.env.scope x) (he : PE X e te) (hs : swapsWith e (some (.Name x pos')) pos.line X.env = pure false := by rfl) (hf : X.fn x = true ∨ X.env.scope.names.lookup x = some .local := by first | exact .inl rfl | exact .inr rfl | assumption) :
    PS X (.Assign [.Name x pos'] e pos) (tAsg te (gName i)) := by
  intro pins s σ H D I h
  refine wpAny_Assign_Name (thn (he pins s σ H _ I h) fun v s1 ⟨y, H1, I1, r1, q1⟩ => ?_) hs
  exact store_ok I1 hN hi hx r1 (fun s2 I2 => ⟨_, H1, I2, q1⟩) hf
end

/-! ### while -/
section
variable {X : Cx} {pos : Pos}
end

/-! ### what a loop or a comprehension walks -/
/-- at turn i: it yields x (the heap may grow), or it stops -/
structure It where
  go : Nat → Hp → Prop
  yld : Nat → Hp → V → Hp → Prop
  stop : Nat → Hp → Prop
/-- the iterator's own objects may turn: they are not the frame's, not pinned, younger than the entry (or a comprehension's own) -/
def FpOk (X : Cx) (pins : List (Addr × Obj)) (H : Hp) (b : Addr) : Prop :=
  H b = none ∧ b ≠ X.env.locals ∧ b ∉ X.fs ∧ (b ∈ X.ex ∨ X.s₀.heap.objs.size ≤ b) ∧ (∀ x c, X.env.cells.lookup x = some c → c ≠ b) ∧ ∀ p ∈ X.pn ++ pins, p.1 ≠ b
theorem Inv.fpOk {X : Cx} {pins : List (Addr × Obj)} {σ : St} {H H' : Hp} {s : Shared} {b : Addr} (I : Inv X pins σ H s) (hb : s.heap.objs.size ≤ b) (hn : H' b = none) : FpOk X pins H' b := by
  refine ⟨hn, Nat.ne_of_gt (Nat.lt_of_lt_of_le I.lt hb), I.nofs hb, .inr (Nat.le_trans I.sz hb), fun x c e z => ?_, fun p hp z => ?_⟩
  · obtain ⟨v, q⟩ := I.cell x c e
    exact absurd (Nat.lt_of_lt_of_le q.lt (by rw [z]; exact hb)) (Nat.lt_irrefl _)
  · exact absurd (Nat.lt_of_lt_of_le (Heap.lt_size (I.pin p hp).1) (by rw [z]; exact hb)) (Nat.lt_irrefl _)
structure Turn (P : Program) (w : World) (K : PySem.W.Frag) (tg : Expr) (J : It) (fp : List Addr) (it : Addr) (tn : Nat → Heap → Prop) : Prop where
  mem : it ∈ fp
  obj : ∀ i h, tn i h → ∀ b ∈ fp, ∃ o, h.get? b = some o ∧ ∀ v, o.data ≠ .cell v
  keep : ∀ i h h', tn i h → (∀ b ∈ fp, ∀ o, h.get? b = some o → h'.get? b = some o) → tn i h'
  item : ∀ (X : Cx), X.prog = P → X.w = w → X.K = K → X.calm = true → ∀ (i : Nat) (pins : List (Addr × Obj)) (s : Shared) (σ : St) (H : Hp) (E : Value → Shared → Prop), Inv X pins σ H s → (∀ b ∈ fp, FpOk X pins H b) → tn i s.heap → J.go i H →
    wpAny (model P w) X.A (pyNext (.ref it)) (fun r s1 => ∃ u, r = some u ∧
      wpAny (model P w) X.A (letOwnedTupleGo tg (.ref it) u) (fun _ s2 => ∃ x H', Inv X pins σ H' s2 ∧ RelV x u ∧ J.yld i H x H' ∧ tn (i + 1) s2.heap ∧ ∀ b ∈ fp, H' b = none) E s1) E s
  done : ∀ (X : Cx), X.prog = P → X.w = w → X.K = K → X.calm = true → ∀ (i : Nat) (pins : List (Addr × Obj)) (s : Shared) (σ : St) (H : Hp) (E : Value → Shared → Prop), Inv X pins σ H s → (∀ b ∈ fp, FpOk X pins H b) → tn i s.heap → J.stop i H →
    wpAny (model P w) X.A (pyNext (.ref it)) (fun r s1 => r = none ∧ Inv X pins σ H s1) E s
  self : ∀ (A : Around) (i : Nat) (s : Shared) (Q : Value → Shared → Prop) (E : Value → Shared → Prop), tn i s.heap → Q (.ref it) s → wpAny (model P w) A (pyIter (.ref it)) Q E s
abbrev TI := St → Hp → (It → Hp → Prop) → Prop
/-- an iterator has come -/
def PIE (X : Cx) (pins : List (Addr × Obj)) (σ : St) (tg : Expr) (R : It → Hp → Prop) (itv : Value) (s2 : Shared) : Prop :=
  ∃ (it : Addr) (fp : List Addr) (tn : Nat → Heap → Prop) (J : It) (H' : Hp), itv = .ref it ∧ Inv X pins σ H' s2 ∧ Turn X.prog X.w X.K tg J fp it tn ∧ tn 0 s2.heap ∧ (∀ b ∈ fp, FpOk X pins H' b) ∧ R J H'
def PI (X : Cx) (tg iter : Expr) (wi : TI) : Prop :=
  ∀ (pins : List (Addr × Obj)) (s : Shared) (σ : St) (H : Hp) (R : It → Hp → Prop), Inv X pins σ H s → wi σ H R →
    wpAny (model X.prog X.w) X.A (eval iter X.env) (fun v s1 => wpAny (model X.prog X.w) X.A (pyIter v) (PIE X pins σ tg R) X.xe s1) X.xe s

/-- the step ahead of the store is nothing for an iterator that keeps no tuple -/
theorem go_of {M : Model} {A : Around} {E : Value → Shared → Prop} {s : Shared} {tg : Expr} {it : Addr} {u : Value} {o : Obj} {n : String} {vs : Array Value} {Q : Unit → Shared → Prop} (ho : s.heap.get? it = some o) (hc : o.cls = .type n) (hd : o.data = .fields vs)
    (hn : ["enumerate", "zip", "dict_itemiterator", "dict_reverseitemiterator", "odict_iterator", "itertools.zip_longest", "itertools.pairwise"].contains n = false) (hQ : Q () s) : wpAny M A (letOwnedTupleGo tg (.ref it) u) Q E s := by
  unfold letOwnedTupleGo
  cases tg <;> first
    | exact wpAny_pure hQ
    | (cases u <;> first
        | exact wpAny_pure hQ
        | (refine wpAny_bind (wpAny_load ho ?_)
           rw [hc, hd]
           show wpAny M A (if (["enumerate", "zip", "dict_itemiterator", "dict_reverseitemiterator", "odict_iterator", "itertools.zip_longest", "itertools.pairwise"].contains n && vs[0]? == some (rawInt _)) = true then _ else _) Q E s
           rw [if_neg (by intro h; rw [hn, Bool.false_and] at h; cases h)]
           exact wpAny_pure hQ))

/-- the list at a, as it stands at each turn (a loop may append to it) -/
def Itl (K : PySem.W.Frag) (a : Addr) : It :=
  ⟨fun i H => ∃ xs x, SqL K H a xs ∧ xs[i]? = some x, fun i H x H' => H' = H ∧ ∀ xs, SqL K H a xs → xs[i]? = some x, fun i H => ∃ xs, SqL K H a xs ∧ xs.length ≤ i⟩
def Itt (K : PySem.W.Frag) (a : Addr) : It :=
  ⟨fun i H => ∃ xs x, SqT K H a xs ∧ xs[i]? = some x, fun i H x H' => H' = H ∧ ∀ xs, SqT K H a xs → xs[i]? = some x, fun i H => ∃ xs, SqT K H a xs ∧ xs.length ≤ i⟩
/-- lo, lo + 1, .. (n of them) -/
def Itr (lo : Int) (n : Nat) : It := ⟨fun i _ => i < n, fun i H x H' => H' = H ∧ x = .int (lo + i), fun i _ => n ≤ i⟩
theorem turn_list {P : Program} {w : World} {K : PySem.W.Frag} {tg : Expr} (a it : Addr) : Turn P w K tg (Itl K a) [it] it (fun i h => h.IsListIter it a i) where
  mem := by simp
  obj := fun i h st b hb => by
    have e : b = it := by simpa using hb
    subst e
    obtain ⟨o, e, c, d⟩ := st
    exact ⟨o, e, fun v z => by rw [d] at z; cases z⟩
  keep := fun i h h' st k => st.at fun o e => k it (by simp) o e
  item := by
    intro X hP hw hK hc i pins s σ H E I hf st hg
    subst hP hw hK
    obtain ⟨xs, x, hq, hx⟩ := hg
    obtain ⟨its, rv, p, hz⟩ := I.list hq
    obtain ⟨u, hu, ru⟩ := rv.get hx
    obtain ⟨f0, f1, f2, f3, f4, f5⟩ := hf it (by simp)
    refine wpAny_pyNext_list_item st p.isList (x := u) (by simpa using hu) fun h' st' sb => ?_
    have I1 : Inv X pins σ H { s with heap := h' } := I.turned (t' := s.toks) (fun b o hb e => (sb.2 b hb).trans e) f0 f1 f3 f4 f5
    obtain ⟨o, e, c, d⟩ := id st'
    exact ⟨u, rfl, go_of (s := { s with heap := h' }) e c d (by decide) ⟨x, H, I1, ru, ⟨rfl, fun ys hy => by rw [I.list_inj hy hq]; exact hx⟩, st', fun b hb => (hf b hb).1⟩⟩
  done := by
    intro X hP hw hK hc i pins s σ H E I hf st hg
    subst hP hw hK
    obtain ⟨xs, hq, hx⟩ := hg
    obtain ⟨its, rv, p, hz⟩ := I.list hq
    obtain ⟨f0, f1, f2, f3, f4, f5⟩ := hf it (by simp)
    have hl := rv.length
    exact wpAny_pyNext_list_end (I.ok.hd hc) st p.isList (by simp; omega) fun h' eb => ⟨rfl, I.turned (t' := s.toks) (fun b o hb e => eb b o hb e) f0 f1 f3 f4 f5⟩
  self := fun _ _ _ _ _ st h => wpAny_pyIter_listiter st h
theorem turn_tuple {P : Program} {w : World} {K : PySem.W.Frag} {tg : Expr} (a it : Addr) : Turn P w K tg (Itt K a) [it] it (fun i h => h.IsTupleIter it a i) where
  mem := by simp
  obj := fun i h st b hb => by
    have e : b = it := by simpa using hb
    subst e
    obtain ⟨o, e, c, d⟩ := st
    exact ⟨o, e, fun v z => by rw [d] at z; cases z⟩
  keep := fun i h h' st k => st.at fun o e => k it (by simp) o e
  item := by
    intro X hP hw hK hc i pins s σ H E I hf st hg
    subst hP hw hK
    obtain ⟨xs, x, hq, hx⟩ := hg
    obtain ⟨its, rv, p, hz⟩ := I.tuple hq
    obtain ⟨u, hu, ru⟩ := rv.get hx
    obtain ⟨f0, f1, f2, f3, f4, f5⟩ := hf it (by simp)
    refine wpAny_pyNext_tuple_item st (show s.heap.IsTuple a its.toArray from p) (x := u) (by simpa using hu) fun h' st' sb => ?_
    have I1 : Inv X pins σ H { s with heap := h' } := I.turned (t' := s.toks) (fun b o hb e => (sb.2 b hb).trans e) f0 f1 f3 f4 f5
    obtain ⟨o, e, c, d⟩ := id st'
    exact ⟨u, rfl, go_of (s := { s with heap := h' }) e c d (by decide) ⟨x, H, I1, ru, ⟨rfl, fun ys hy => by rw [I.tuple_inj hy hq]; exact hx⟩, st', fun b hb => (hf b hb).1⟩⟩
  done := by
    intro X hP hw hK hc i pins s σ H E I hf st hg
    subst hP hw hK
    obtain ⟨xs, hq, hx⟩ := hg
    obtain ⟨its, rv, p, hz⟩ := I.tuple hq
    obtain ⟨f0, f1, f2, f3, f4, f5⟩ := hf it (by simp)
    have hl := rv.length
    exact wpAny_pyNext_tuple_end (I.ok.hd hc) st (show s.heap.IsTuple a its.toArray from p) (by simp; omega) fun h' eb => ⟨rfl, I.turned (t' := s.toks) (fun b o hb e => eb b o hb e) f0 f1 f3 f4 f5⟩
  self := fun _ _ _ _ _ st h => wpAny_pyIter_tupleiter st h
theorem turn_range {P : Program} {w : World} {K : PySem.W.Frag} {tg : Expr} (it : Addr) (lo : Int) (n : Nat) : Turn P w K tg (Itr lo n) [it] it (fun i h => IsRangeIter h it (lo + (i : Nat) * 1) ((n : Int) - (i : Nat)) 1) where
  mem := by simp
  obj := fun i h st b hb => by
    have e : b = it := by simpa using hb
    subst e
    exact ⟨_, st, fun v z => by
      have z' : Data.fields _ = Data.cell v := z
      cases z'⟩
  keep := fun i h h' st k => k it (by simp) _ st
  item := by
    intro X hP hw hK hc i pins s σ H E I hf st hg
    subst hP hw hK
    obtain ⟨f0, f1, f2, f3, f4, f5⟩ := hf it (by simp)
    have W := Walks.range (prog := X.prog) (w := X.w) (I.ok.hd hc) it lo 1 n
    refine W.item i s _ _ hg st fun v h' tk hv st' kk => ?_
    obtain ⟨t, rfl⟩ := hv
    have I1 : Inv X pins σ H { s with heap := h', toks := tk } := I.turned (fun b o hb e => kk b o (by simpa using hb) e) f0 f1 f3 f4 f5
    refine ⟨_, rfl, go_of (s := { s with heap := h', toks := tk }) (n := "range_iterator") st' rfl rfl (by decide) ⟨.int (lo + i), H, I1, ⟨t, ?_⟩, ⟨rfl, rfl⟩, st', fun b hb => (hf b hb).1⟩⟩
    rw [Int.mul_one]
  done := by
    intro X hP hw hK hc i pins s σ H E I hf st hg
    subst hP hw hK
    obtain ⟨f0, f1, f2, f3, f4, f5⟩ := hf it (by simp)
    exact wpAny_pyNext_range_end (I.ok.hd hc) st (by have : n ≤ i := hg; omega) fun h' eb => ⟨rfl, I.turned (t' := s.toks) (fun b o hb e => eb b o hb e) f0 f1 f3 f4 f5⟩
  self := fun _ _ _ _ _ st h => wpAny_pyIter_rangeiter st h
end L2

namespace L2
open PySem PySem.Spec PyProof.Rows
section
variable {X : Cx} {tg : Expr}
/-- a range object just made, walked -/
theorem range_it {pins : List (Addr × Obj)} {σ : St} {H : Hp} {s : Shared} {R : It → Hp → Prop} {E : Value → Shared → Prop} {lo hi : Int} {t u v : Tok} {tk : Nat} (I : Inv X pins σ H s) (h1 : -(2 ^ 62) ≤ lo) (h2 : lo < 2 ^ 62) (h3 : -(2 ^ 62) ≤ hi) (h4 : hi < 2 ^ 62)
    (q : R (Itr lo (hi - lo).toNat) H) : wpAny (model X.prog X.w) X.A (pyIter (.ref s.heap.objs.size)) (PIE X pins σ tg R) E { s with heap := s.heap.push { cls := .type "range", data := .fields #[.int lo t, .int hi u, .int 1 v] }, toks := tk } := by
  refine wpAny_pyIter_range (IsRange.new ..) (small_one h1 h2 h3 h4) ?_
  have I1 : Inv X pins σ H { s with heap := s.heap.push { cls := .type "range", data := .fields #[.int lo t, .int hi u, .int 1 v] }, toks := tk } := I.kept fun b o e => Heap.get?_push_of_some _ e
  refine ⟨(s.heap.push { cls := .type "range", data := .fields #[.int lo t, .int hi u, .int 1 v] }).objs.size, [(s.heap.push { cls := .type "range", data := .fields #[.int lo t, .int hi u, .int 1 v] }).objs.size], _, _, H, rfl,
    I1.kept (t' := tk) fun b o e => Heap.get?_push_of_some _ e, turn_range _ lo (hi - lo).toNat, ?_, fun b hb => ?_, q⟩
  · have e1 : lo + ((0 : Nat) : Int) * 1 = lo := by simp
    have e2 : (((hi - lo).toNat : Nat) : Int) - ((0 : Nat) : Int) = Builtin.Range.rangeSize lo hi 1 := by rw [rangeSize_one]; split <;> omega
    show IsRangeIter _ _ (lo + ((0 : Nat) : Int) * 1) ((((hi - lo).toNat : Nat) : Int) - ((0 : Nat) : Int)) 1
    rw [e1, e2]
    exact Heap.get?_push_size _ rfl
  · have e : b = (s.heap.push { cls := .type "range", data := .fields #[.int lo t, .int hi u, .int 1 v] }).objs.size := by simpa using hb
    subst e
    exact I1.fpOk (Nat.le_refl _) (I1.hok.fresh (Nat.le_refl _))
def iRng1 (ta : TA) : TI := fun σ H R => ta σ H fun vs H1 => ∃ j : Int, vs = [.int j] ∧ -(2 ^ 62) ≤ j ∧ j < 2 ^ 62 ∧ R (Itr 0 j.toNat) H1
theorem pi_range1 {a : Expr} {ta : TA} {p pos : Pos} (hg : Gl X "range") (hm : X.mg "range" = none) (ha : PA X [a] ta) (hs : starEach [a] X.env = [(false, eval a X.env)] := by rfl) : PI X tg (.Call (.Name "range" p) [a] [] pos) (iRng1 ta) := by
  intro pins s σ H R I h
  refine Call_ (ld_blt I hg hm boot_range (PyProof.Rows.callWith_type1 (thn (ha pos pins s σ H _ I h) fun us s1 ⟨vs, H1, I1, r1, q1⟩ => ?_) hs rfl))
  obtain ⟨j, e, q1, q2, q⟩ := q1
  subst e
  cases r1 with
  | cons r rr =>
    cases rr
    obtain ⟨t, rfl⟩ := r
    exact call_range_1 (range_it I1 (by omega) (by omega) q1 q2 (by simpa using q))

/-! ### for -/
/-- W: the invariant by the turn and a measure; N: what the body is to reach -/
def tFor (wi : TI) (g : TG) (tb : TS) : TS := fun D σ H => wi σ H fun J H1 => ∃ W : Nat → Nat → St → Hp → Prop, (∃ m, W 0 m σ H1) ∧ ∀ i m σ H, W i m σ H →
  (J.stop i H ∧ D.nx σ H) ∨ (J.go i H ∧ ∃ N : St → Hp → Prop, (∀ σ' H', N σ' H' → ∃ m', m' < m ∧ W (i + 1) m' σ' H') ∧ ∀ x H', J.yld i H x H' → g x σ H' fun σ2 H2 => tb { D with nx := N, ct := N, bk := D.nx } σ2 H2)
/-- the records at fp as they stand -/
def pinsAt (fp : List Addr) (h : Heap) : List (Addr × Obj) := fp.filterMap fun b => (h.get? b).map fun o => (b, o)
theorem mem_pinsAt {fp : List Addr} {h : Heap} {b : Addr} {o : Obj} (hb : b ∈ fp) (e : h.get? b = some o) : (b, o) ∈ pinsAt fp h := List.mem_filterMap.mpr ⟨b, hb, by rw [e]; rfl⟩
theorem of_pinsAt {fp : List Addr} {h : Heap} {p : Addr × Obj} (hp : p ∈ pinsAt fp h) : p.1 ∈ fp ∧ h.get? p.1 = some p.2 := by
  obtain ⟨b, hb, e⟩ := List.mem_filterMap.mp hp
  cases q : h.get? b with
  | none => rw [q] at e; cases e
  | some o =>
    rw [q] at e
    have e' : (b, o) = p := Option.some.inj e
    subst e'
    exact ⟨hb, q⟩
theorem Inv.pinned {pins : List (Addr × Obj)} {σ : St} {H : Hp} {s : Shared} {fp : List Addr} (I : Inv X pins σ H s) (hf : ∀ b ∈ fp, FpOk X pins H b) (ho : ∀ b ∈ fp, ∃ o, s.heap.get? b = some o ∧ ∀ v, o.data ≠ .cell v) : Inv X (pins ++ pinsAt fp s.heap) σ H s :=
  I.pins_of fun p hp => (List.mem_append.mp hp).elim (fun z => I.pin p (List.mem_append_right _ z)) fun z => by
    obtain ⟨hb, e⟩ := of_pinsAt z
    obtain ⟨f0, f1, f2, _⟩ := hf p.1 hb
    obtain ⟨o, e', d⟩ := ho p.1 hb
    rw [e] at e'; cases e'
    exact ⟨e, f0, f1, f2, d⟩
theorem Inv.unpinned {pins pl : List (Addr × Obj)} {σ : St} {H : Hp} {s : Shared} (I : Inv X (pins ++ pl) σ H s) : Inv X pins σ H s := I.pins_of fun p hp => I.pin p (List.mem_append_right _ (List.mem_append_left _ hp))
theorem ps_for {iter : Expr} {body : List Stmt} {wi : TI} {g : TG} {tb : TS} {pos : Pos} (hp : PassesOwn (model X.prog X.w) X.A X.env X.xe) (hc : X.calm = true) (hi : PI X tg iter wi) (hg : PG X tg g) (hb : PSs X body tb)
    (hs : ∀ x, foldedSetIterable iter X.env x = pure x := by intro _; rfl) : PS X (.For tg iter body [] pos) (tFor wi g tb) := by
  intro pins s σ H D I h
  refine wpAny_For (thn (hi pins s σ H _ I h) fun v s1 h1 => thn h1 fun itv s2 h2 => ?_) hs
  obtain ⟨it, fp, tn, J, H2, e, I2, T, st2, f2, W, ⟨m0, w0⟩, turn⟩ := h2
  subst e
  -- what stays true of the iterator's objects through the loop
  have stat : ∀ {H' : Hp}, (∀ b ∈ fp, H' b = none) → ∀ b ∈ fp, FpOk X pins H' b := fun hn b hb => ⟨hn b hb, (f2 b hb).2⟩
  refine codeAny_forLoop_any (fun n s' => ∃ i σ' H', Inv X pins σ' H' s' ∧ tn i s'.heap ∧ (∀ b ∈ fp, H' b = none) ∧ W i n σ' H') ?_ m0 ⟨0, σ, H2, I2, st2, fun b hb => (f2 b hb).1, w0⟩
  rintro n s3 ⟨i, σ3, H3, I3, st3, fr3, w3⟩
  rcases turn i n σ3 H3 w3 with ⟨stop, qn⟩ | ⟨go, N, hN, step⟩
  · refine wpAny_passesOwn hp (thn (T.done X rfl rfl rfl hc i pins s3 σ3 H3 X.xe I3 (stat fr3) st3 stop) fun r s4 ⟨hr, I4⟩ => ?_)
    subst hr
    exact wpAny_execs_nil ⟨σ3, H3, I4, qn⟩
  · refine wpAny_passesOwn hp (thn (T.item X rfl rfl rfl hc i pins s3 σ3 H3 X.xe I3 (stat fr3) st3 go) fun r s4 ⟨u, hr, h4⟩ => ?_)
    subst hr
    refine wpAny_passesOwn hp (thn h4 fun _ s5 ⟨x, H5, I5, r5, y5, st5, fr5⟩ => ?_)
    have I5' := I5.pinned (stat fr5) (T.obj _ _ st5)
    refine wpAny_passesOwn hp (thn (hg _ s5 σ3 H5 x u _ I5' r5 (step x H5 y5)) fun _ s6 ⟨σ6, H6, I6, q6⟩ => ?_)
    refine wpAny_passesOwn hp (thn (hb _ s6 σ6 H6 _ I6 q6) fun f s7 q7 => ?_)
    have again : ∀ {σ7 : St} {H7 : Hp}, Inv X (pins ++ pinsAt fp s5.heap) σ7 H7 s7 → N σ7 H7 → ∃ m, m < n ∧ ∃ i σ' H', Inv X pins σ' H' s7 ∧ tn i s7.heap ∧ (∀ b ∈ fp, H' b = none) ∧ W i m σ' H' := fun {σ7 H7} I7 n7 => by
      obtain ⟨m', hm, w7⟩ := hN σ7 H7 n7
      refine ⟨m', hm, i + 1, σ7, H7, I7.unpinned, T.keep _ _ _ st5 fun b hb o e => (I7.pin (b, o) (List.mem_append_right _ (List.mem_append_right _ (mem_pinsAt hb e)))).1, fun b hb => ?_, w7⟩
      obtain ⟨o, e, d⟩ := T.obj _ _ st5 b hb
      exact (I7.pin (b, o) (List.mem_append_right _ (List.mem_append_right _ (mem_pinsAt hb e)))).2.1
    cases f with
    | next => obtain ⟨σ7, H7, I7, n7⟩ := q7; exact again I7 n7
    | cont => obtain ⟨σ7, H7, I7, n7⟩ := q7; exact again I7 n7
    | brk => obtain ⟨σ7, H7, I7, q7⟩ := q7; exact ⟨σ7, H7, I7.unpinned, q7⟩
    | ret v => obtain ⟨x7, σ7, H7, I7, r7, q7⟩ := q7; exact ⟨x7, σ7, H7, I7.unpinned, r7, q7⟩
end

/-! ### the forms one uses -/
end L2

namespace L2
open PySem PySem.Spec PyProof.Rows

abbrev R2 := V → V → Hp → VK → Prop
/-- a two-place operation on values: f is binaryOp op, inplaceOp op or compareOp op -/
def OpR (X : Cx) (f : Value → Value → Sem Value) (r : R2) : Prop :=
  ∀ (pins : List (Addr × Obj)) (s : Shared) (σ : St) (H : Hp) (x y : V) (v u : Value) (Q : VK), Inv X pins σ H s → RelV x v → RelV y u → r x y H Q →
    wpAny (model X.prog X.w) X.A (f v u) (EP X pins σ Q) X.xe s
/-- a one-place operation -/
def UnR (X : Cx) (f : Value → Sem Value) (r : V → Hp → VK → Prop) : Prop :=
  ∀ (pins : List (Addr × Obj)) (s : Shared) (σ : St) (H : Hp) (x : V) (v : Value) (Q : VK), Inv X pins σ H s → RelV x v → r x H Q →
    wpAny (model X.prog X.w) X.A (f v) (EP X pins σ Q) X.xe s
/-- a call of a value that is known (a builtin, a type) with values -/
def CallR (X : Cx) (f : Value) (r : List V → Hp → VK → Prop) : Prop :=
  ∀ (pins : List (Addr × Obj)) (s : Shared) (σ : St) (H : Hp) (xs : List V) (us : List Value) (Q : VK), Inv X pins σ H s → Vals xs us → r xs H Q →
    wpAny (model X.prog X.w) X.A (call f us) (EP X pins σ Q) X.xe s
/-- a value's truth -/
def TruR (X : Cx) (r : V → Hp → (Bool → Hp → Prop) → Prop) : Prop :=
  ∀ (pins : List (Addr × Obj)) (s : Shared) (σ : St) (H : Hp) (x : V) (v : Value) (Q : Bool → Hp → Prop), Inv X pins σ H s → RelV x v → r x H Q →
    wpAny (model X.prog X.w) X.A (truthy v) (TP X pins σ Q) X.xe s

def tOp (r : R2) (ta tb : TE) : TE := fun σ H Q => ta σ H fun x H1 => tb σ H1 fun y H2 => r x y H2 Q
def tUn (r : V → Hp → VK → Prop) (ta : TE) : TE := fun σ H Q => ta σ H fun x H1 => r x H1 Q
/-- ints in, under C, and a value out -/
def rI (C : Int → Int → Prop) (g : Int → Int → V) : R2 := fun x y H Q => ∃ i j, x = .int i ∧ y = .int j ∧ C i j ∧ Q (g i j) H
def rI0 (g : Int → Int → V) : R2 := fun x y H Q => ∃ i j, x = .int i ∧ y = .int j ∧ Q (g i j) H
def rU (g : Int → V) : V → Hp → VK → Prop := fun x H Q => ∃ i, x = .int i ∧ Q (g i) H

section
variable {X : Cx} {a b c : Expr} {ta tb tc : TE} {pos : Pos}

theorem binT (ha : PE X a ta) (hb : PE X b tb) {pins : List (Addr × Obj)} {s : Shared} {σ : St} {H : Hp} {R : V → V → Hp → Prop} (I : Inv X pins σ H s)
    (h : ta σ H fun x H1 => tb σ H1 fun y H2 => R x y H2) {Q : Value → Shared → Prop} {f : Value → Value → Sem Value}
    (hf : ∀ v u s2 x y H2, Inv X pins σ H2 s2 → RelV x v → RelV y u → R x y H2 → wpAny (model X.prog X.w) X.A (f v u) Q X.xe s2) :
    wpAny (model X.prog X.w) X.A (eval a X.env) (fun v s₁ => wpAny (model X.prog X.w) X.A (eval b X.env) (fun u s₂ => wpAny (model X.prog X.w) X.A (f v u) Q X.xe s₂) X.xe s₁) X.xe s := by
  refine thn (ha pins s σ H _ I h) fun v s1 ⟨x, H1, I1, r1, q1⟩ => ?_
  refine thn (hb pins s1 σ H1 _ I1 q1) fun u s2 ⟨y, H2, I2, r2, q2⟩ => ?_
  exact hf v u s2 x y H2 I2 r1 r2 q2

theorem pe_op {op : Operator} {r : R2} (ho : OpR X (binaryOp op) r) (ha : PE X a ta) (hb : PE X b tb) : PE X (.BinOp a op b pos) (tOp r ta tb) := by
  intro pins s σ H Q I h
  exact wpAny_BinOp (binT ha hb I h fun v u s2 x y H2 I2 rx ry q => ho pins s2 σ H2 x y v u Q I2 rx ry q)
theorem pe_un {op : UnaryOp} {r : V → Hp → VK → Prop} (ho : UnR X (unaryOp op) r) (ha : PE X a ta) : PE X (.UnaryOp op a pos) (tUn r ta) := by
  intro pins s σ H Q I h
  exact UnaryOp_ (thn (ha pins s σ H _ I h) fun v s1 ⟨x, H1, I1, r1, q1⟩ => ho pins s1 σ H1 x v Q I1 r1 q1)

/-! ### ints -/
theorem opI {f : Value → Value → Sem Value} {C : Int → Int → Prop} {g : Int → Int → Int}
    (rule : ∀ (i j : Int) (t u : Tok) (s : Shared) (Q : Value → Shared → Prop) (E : Value → Shared → Prop), C i j → Q (.int (g i j) s.toks) { s with toks := s.toks + 1 } → wpAny (model X.prog X.w) X.A (f (.int i t) (.int j u)) Q E s) :
    OpR X f (rI C fun i j => .int (g i j)) := by
  intro pins s σ H x y v u Q I rx ry h
  obtain ⟨i, j, rfl, rfl, hc, q⟩ := h
  obtain ⟨t, rfl⟩ := rx
  obtain ⟨t', rfl⟩ := ry
  exact rule i j t t' s _ _ hc ⟨.int (g i j), H, I.tok _, ⟨_, rfl⟩, q⟩
theorem opI0 {f : Value → Value → Sem Value} {g : Int → Int → Int}
    (rule : ∀ (i j : Int) (t u : Tok) (s : Shared) (Q : Value → Shared → Prop) (E : Value → Shared → Prop), Q (.int (g i j) s.toks) { s with toks := s.toks + 1 } → wpAny (model X.prog X.w) X.A (f (.int i t) (.int j u)) Q E s) :
    OpR X f (rI0 fun i j => .int (g i j)) := by
  intro pins s σ H x y v u Q I rx ry h
  obtain ⟨i, j, rfl, rfl, q⟩ := h
  obtain ⟨t, rfl⟩ := rx
  obtain ⟨t', rfl⟩ := ry
  exact rule i j t t' s _ _ ⟨.int (g i j), H, I.tok _, ⟨_, rfl⟩, q⟩
theorem opB0 {f : Value → Value → Sem Value} {g : Int → Int → Bool}
    (rule : ∀ (i j : Int) (t u : Tok) (s : Shared) (Q : Value → Shared → Prop) (E : Value → Shared → Prop), Q (.bool (g i j)) s → wpAny (model X.prog X.w) X.A (f (.int i t) (.int j u)) Q E s) :
    OpR X f (rI0 fun i j => .bl (g i j)) := by
  intro pins s σ H x y v u Q I rx ry h
  obtain ⟨i, j, rfl, rfl, q⟩ := h
  obtain ⟨t, rfl⟩ := rx
  obtain ⟨t', rfl⟩ := ry
  exact rule i j t t' s _ _ ⟨.bl (g i j), H, I, rfl, q⟩

def CDiv (i j : Int) : Prop := 0 < j ∧ j < 1073741824
def CMul (i j : Int) : Prop := (-(2 ^ 64) < i ∧ i < 2 ^ 64) ∨ (-(2 ^ 64) < j ∧ j < 2 ^ 64)
theorem CMul.ok {i j : Int} (h : CMul i j) : IntMulOk i j := by
  rcases h with ⟨h1, h2⟩ | ⟨h1, h2⟩
  · exact .of_left (intBits_le_64 h1 h2)
  · exact .of_right (intBits_le_64 h1 h2)

theorem op_add : OpR X (binaryOp .Add) (rI0 fun i j => .int (i + j)) := opI0 fun _ _ _ _ _ _ _ q => add_int q
theorem op_sub : OpR X (binaryOp .Sub) (rI0 fun i j => .int (i - j)) := opI0 fun _ _ _ _ _ _ _ q => sub_int q
theorem op_mul : OpR X (binaryOp .Mult) (rI CMul fun i j => .int (i * j)) := opI fun _ _ _ _ _ _ _ hc q => mul_int q hc.ok
/-- // by a positive divisor -/
theorem op_fdiv : OpR X (binaryOp .FloorDiv) (rI CDiv fun i j => .int (i / j)) := opI fun i j _ _ _ _ _ hc q => by
  have h1 : (0 : Int) < j := hc.1
  have h2 : j < 1073741824 := hc.2
  exact floordiv_int (by omega) (by rw [Int.fdiv_eq_ediv_of_nonneg i (by omega)]; exact q) (.inl (PyProof.noPylong_small (by omega)))
/-- % by a positive divisor of any size -/
theorem op_mod : OpR X (binaryOp .Mod) (rI (fun _ j => 0 < j) fun i j => .int (i % j)) := opI fun i j _ _ _ _ _ hc q => by
  have h1 : (0 : Int) < j := hc
  exact mod_int' (by omega) (by rw [Int.fmod_eq_emod_of_nonneg i (by omega)]; exact q)


theorem unI {f : Value → Sem Value} {g : Int → Int}
    (rule : ∀ (i : Int) (t : Tok) (s : Shared) (Q : Value → Shared → Prop) (E : Value → Shared → Prop), Q (.int (g i) s.toks) { s with toks := s.toks + 1 } → wpAny (model X.prog X.w) X.A (f (.int i t)) Q E s) :
    UnR X f (rU fun i => .int (g i)) := by
  intro pins s σ H x v Q I rx h
  obtain ⟨i, rfl, q⟩ := h
  obtain ⟨t, rfl⟩ := rx
  exact rule i t s _ _ ⟨.int (g i), H, I.tok _, ⟨_, rfl⟩, q⟩
theorem un_neg : UnR X (unaryOp .USub) (rU fun i => .int (-i)) := unI fun _ _ _ _ _ q => neg_int q

/-! ### bools among ints: n += (a < b) -/
end

/-! ### comparisons -/
/-- the scalars that == tells apart as data does -/
def scal : V → V → Bool
  | .non, .non => true | .non, .int _ => true | .int _, .non => true | .non, .bl _ => true | .bl _, .non => true | .non, .str _ => true | .str _, .non => true
  | .int _, .int _ => true | .bl _, .bl _ => true | .str _, .str _ => true | .byt _, .byt _ => true
  | .int _, .str _ => true | .str _, .int _ => true | .bl _, .str _ => true | .str _, .bl _ => true
  | _, _ => false
def rEq : R2 := fun x y H Q => scal x y = true ∧ Q (.bl (decide (x = y))) H
def rNe : R2 := fun x y H Q => scal x y = true ∧ Q (.bl (!decide (x = y))) H

theorem dec_int {i j : Int} : decide (V.int i = V.int j) = (i == j) := by
  rw [Bool.eq_iff_iff]
  simp
theorem dec_bl {i j : Bool} : decide (V.bl i = V.bl j) = (i == j) := by
  rw [Bool.eq_iff_iff]
  simp
theorem dec_str {i j : Str} : decide (V.str i = V.str j) = (i == j) := by
  rw [Bool.eq_iff_iff]
  simp
theorem dec_byt {i j : Array UInt8} : decide (V.byt i = V.byt j) = (i.toList == j.toList) := by
  rw [Bool.eq_iff_iff]
  cases i
  cases j
  simp

section
variable {X : Cx} {a b c : Expr} {ta tb tc : TE} {pos : Pos}
theorem fin_bl {pins : List (Addr × Obj)} {σ : St} {H : Hp} {s : Shared} {Q : VK} {k k' : Bool} (I : Inv X pins σ H s) (q : Q (.bl k) H) (e : k = k') : EP X pins σ Q (.bool k') s := by
  subst e
  exact ⟨.bl k, H, I, rfl, q⟩
theorem op_eq : OpR X (compareOp .Eq) rEq := by
  intro pins s σ H x y v u Q I rx ry h
  obtain ⟨hs, q⟩ := h
  cases x with
  | non =>
    cases rx
    cases y with
    | non => cases ry; exact PySem.EqNone.eq_none_none (fin_bl I q (by simp))
    | bl j => cases ry; exact PySem.EqNone.eq_none_bool (fin_bl I q (by simp))
    | int j => obtain ⟨t', rfl⟩ := ry; exact PySem.EqNone.eq_none_int (fin_bl I q (by simp))
    | str j => obtain ⟨t', rfl⟩ := ry; exact PySem.EqNone.eq_none_str (fin_bl I q (by simp))
    | _ => exact absurd (show false = true from hs) Bool.false_ne_true
  | bl i =>
    cases rx
    cases y with
    | non => cases ry; exact PySem.EqNone.eq_bool_none (fin_bl I q (by simp))
    | bl j => cases ry; exact eq_bool (fin_bl I q dec_bl)
    | str j => obtain ⟨t', rfl⟩ := ry; exact PySem.EqMixed.eq_bool_str (fin_bl I q (by simp))
    | _ => exact absurd (show false = true from hs) Bool.false_ne_true
  | int i =>
    obtain ⟨t, rfl⟩ := rx
    cases y with
    | non => cases ry; exact PySem.EqNone.eq_int_none (fin_bl I q (by simp))
    | int j => obtain ⟨t', rfl⟩ := ry; exact eq_int (fin_bl I q dec_int)
    | str j => obtain ⟨t', rfl⟩ := ry; exact PySem.EqMixed.eq_int_str (fin_bl I q (by simp))
    | _ => exact absurd (show false = true from hs) Bool.false_ne_true
  | str i =>
    obtain ⟨t, rfl⟩ := rx
    cases y with
    | non => cases ry; exact PySem.EqNone.eq_str_none (fin_bl I q (by simp))
    | bl j => cases ry; exact PySem.EqMixed.eq_str_bool (fin_bl I q (by simp))
    | int j => obtain ⟨t', rfl⟩ := ry; exact PySem.EqMixed.eq_str_int (fin_bl I q (by simp))
    | str j => obtain ⟨t', rfl⟩ := ry; exact eq_str (fin_bl I q dec_str)
    | _ => exact absurd (show false = true from hs) Bool.false_ne_true
  | byt i =>
    obtain ⟨t, rfl⟩ := rx
    cases y with
    | byt j => obtain ⟨t', rfl⟩ := ry; exact PySem.W.eq_bytes (fin_bl I q dec_byt)
    | _ => exact absurd (show false = true from hs) Bool.false_ne_true
  | _ => cases y <;> exact absurd (show false = true from hs) Bool.false_ne_true
theorem op_ne : OpR X (compareOp .NotEq) rNe := by
  intro pins s σ H x y v u Q I rx ry h
  obtain ⟨hs, q⟩ := h
  cases x with
  | non =>
    cases rx
    cases y with
    | non => cases ry; exact PySem.EqNone.ne_none_none (fin_bl I q (by simp))
    | bl j => cases ry; exact PySem.EqNone.ne_none_bool (fin_bl I q (by simp))
    | int j => obtain ⟨t', rfl⟩ := ry; exact PySem.EqNone.ne_none_int (fin_bl I q (by simp))
    | str j => obtain ⟨t', rfl⟩ := ry; exact PySem.EqNone.ne_none_str (fin_bl I q (by simp))
    | _ => exact absurd (show false = true from hs) Bool.false_ne_true
  | bl i =>
    cases rx
    cases y with
    | non => cases ry; exact PySem.EqNone.ne_bool_none (fin_bl I q (by simp))
    | bl j => cases ry; exact ne_bool (fin_bl I q (congrArg not dec_bl))
    | str j => obtain ⟨t', rfl⟩ := ry; exact PySem.EqMixed.ne_bool_str (fin_bl I q (by simp))
    | _ => exact absurd (show false = true from hs) Bool.false_ne_true
  | int i =>
    obtain ⟨t, rfl⟩ := rx
    cases y with
    | non => cases ry; exact PySem.EqNone.ne_int_none (fin_bl I q (by simp))
    | int j => obtain ⟨t', rfl⟩ := ry; exact ne_int (fin_bl I q (congrArg not dec_int))
    | str j => obtain ⟨t', rfl⟩ := ry; exact PySem.EqMixed.ne_int_str (fin_bl I q (by simp))
    | _ => exact absurd (show false = true from hs) Bool.false_ne_true
  | str i =>
    obtain ⟨t, rfl⟩ := rx
    cases y with
    | non => cases ry; exact PySem.EqNone.ne_str_none (fin_bl I q (by simp))
    | bl j => cases ry; exact PySem.EqMixed.ne_str_bool (fin_bl I q (by simp))
    | int j => obtain ⟨t', rfl⟩ := ry; exact PySem.EqMixed.ne_str_int (fin_bl I q (by simp))
    | str j => obtain ⟨t', rfl⟩ := ry; exact ne_str (fin_bl I q (congrArg not dec_str))
    | _ => exact absurd (show false = true from hs) Bool.false_ne_true
  | byt i =>
    obtain ⟨t, rfl⟩ := rx
    cases y with
    | byt j => obtain ⟨t', rfl⟩ := ry; exact PySem.W.ne_bytes (fin_bl I q (congrArg not dec_byt))
    | _ => exact absurd (show false = true from hs) Bool.false_ne_true
  | _ => cases y <;> exact absurd (show false = true from hs) Bool.false_ne_true

theorem op_lt : OpR X (compareOp .Lt) (rI0 fun i j => .bl (decide (i < j))) := opB0 fun _ _ _ _ _ _ _ q => lt_int q
theorem op_gt : OpR X (compareOp .Gt) (rI0 fun i j => .bl (decide (j < i))) := opB0 fun _ _ _ _ _ _ _ q => gt_int q
theorem op_ge : OpR X (compareOp .GtE) (rI0 fun i j => .bl (decide (j ≤ i))) := opB0 fun _ _ _ _ _ _ _ q => ge_int q
/-- the one string within the other -/
theorem op_in_str : OpR X (compareOp .In) (fun x y H Q => ∃ i j, x = .str i ∧ y = .str j ∧ Q (.bl (!(Builtin.Str.occurrences j i 0 j.length 1).isEmpty)) H) := by
  intro pins s σ H x y v u Q I rx ry h
  obtain ⟨i, j, rfl, rfl, q⟩ := h
  obtain ⟨t, rfl⟩ := rx
  obtain ⟨t', rfl⟩ := ry
  exact in_str (fin_bl I q rfl)


/-- is, is not of two objects that are tracked lists or instances -/
def isObj : HO → Bool
  | .lst _ => true
  | .ins _ _ _ => true
  | _ => false
theorem obj_there {pins : List (Addr × Obj)} {s : Shared} {σ : St} {H : Hp} {a : Addr} {o : HO} (I : Inv X pins σ H s) (h : H a = some o) (p : isObj o = true) : ∃ ob, s.heap.get? a = some ob ∧ ob.cls ≠ .type "tuple" := by
  cases o with
  | lst xs =>
    obtain ⟨_, its, n, _, e⟩ : xs.length ≤ sizeLine ∧ ∃ (its : List Value) (n : Nat), Vals xs its ∧ s.heap.get? a = some { cls := .type "list", data := .seq its.toArray n } := I.hok a _ h
    exact ⟨_, e, (by show Value.type "list" ≠ .type "tuple"; decide +kernel)⟩
  | ins C dx fs =>
    have x := I.hok a _ h
    obtain ⟨_, _, _, e, _⟩ := x
    exact ⟨_, e, (by show Value.ref C ≠ .type "tuple"; exact fun z => by cases z)⟩
  | _ => exact absurd (show false = true from p) Bool.false_ne_true

/-- two rules for one operation: by cases -/
theorem OpR.or {f : Value → Value → Sem Value} {r r' : R2} (h : OpR X f r) (h' : OpR X f r') : OpR X f (fun x y H Q => r x y H Q ∨ r' x y H Q) := by
  intro pins s σ H x y v u Q I rx ry q
  rcases q with q | q
  · exact h pins s σ H x y v u Q I rx ry q
  · exact h' pins s σ H x y v u Q I rx ry q

theorem nomark (b : Expr) {op : CmpOp} (h : op ≠ .In := by decide) (h2 : op ≠ .NotIn := by decide) : behindInMarks op b = false := by
  have e1 : (op == CmpOp.In) = false := by cases op <;> first | rfl | exact absurd rfl h
  have e2 : (op == CmpOp.NotIn) = false := by cases op <;> first | rfl | exact absurd rfl h2
  cases b <;> simp [behindInMarks, e1, e2]
/-- a comparison as a value; hm: nomark b, or (for in, not in) by with_unfolding_all rfl -/
theorem pe_cmpR {op : CmpOp} {r : R2} (ho : OpR X (compareOp op) r) (ha : PE X a ta) (hb : PE X b tb) (hm : behindInMarks op b = false) : PE X (.Compare a [op] [b] pos) (tOp r ta tb) := by
  intro pins s σ H Q I h
  exact wpAny_Compare1 (binT ha hb I h fun v u s2 x y H2 I2 rx ry q => ho pins s2 σ H2 x y v u Q I2 rx ry q) hm
/-- a reading of a value as a test -/
def tTest (t : TE) : TT := fun σ H Q => t σ H fun x H' => ∃ k, x = .bl k ∧ Q k H'
theorem pt_cmpR {op : CmpOp} {r : R2} (ho : OpR X (compareOp op) r) (ha : PE X a ta) (hb : PE X b tb) (hm : behindInMarks op b = false) : PT X (.Compare a [op] [b] pos) (tTest (tOp r ta tb)) := by
  intro pins s σ H Q I h
  refine wpAny_isTrue_Compare1 (thn (ha pins s σ H _ I h) fun v s1 ⟨x, H1, I1, r1, q1⟩ => thn (hb pins s1 σ H1 _ I1 q1) fun u s2 ⟨y, H2, I2, r2, q2⟩ =>
    thn (ho pins s2 σ H2 x y v u _ I2 r1 r2 q2) fun c s3 ⟨z, H3, I3, r3, k, e, q3⟩ => ?_) hm
  subst e
  cases r3
  exact wpAny_truthy_bool ⟨H3, I3, q3⟩

/-! ### truth -/
/-- a value's truth by the abstract heap -/
def TruV (K : PySem.W.Frag) (x : V) (H : Hp) (k : Bool) : Prop :=
  match x with
  | .non => k = false
  | .bl b => k = b
  | .int i => k = (i != 0)
  | .str y => y.length ≤ sizeLine ∧ k = ((y.length : Int) != 0)
  | .byt y => y.size ≤ sizeLine ∧ k = ((y.size : Int) != 0)
  | .ref p => (∃ xs, SqL K H p xs ∧ k = !xs.isEmpty) ∨ (∃ xs, SqT K H p xs ∧ k = !xs.isEmpty) ∨ ∃ kvs, H p = some (.dK kvs) ∧ k = !kvs.isEmpty
  | _ => False
theorem isEmpty_kv {κ : Type} {kvs : List (κ × V)} {vs : List (κ × Value)} (r : KV kvs vs) : (!vs.isEmpty) = !kvs.isEmpty := by
  cases r <;> rfl
theorem isEmpty_of {xs : List V} {its : List Value} (r : Vals xs its) : (!its.toArray.isEmpty) = !xs.isEmpty := by
  cases r <;> simp
theorem line63 : (sizeLine : Nat) < 2 ^ 63 := by rw [sizeLine_eq]; decide
theorem tru_ok : TruR X (fun x H Q => ∃ k, TruV X.K x H k ∧ Q k H) := by
  intro pins s σ H x v Q I rx h
  obtain ⟨k, e, q⟩ := h
  have hl := line63
  have hs : sizeLine = 16777216 := sizeLine_eq
  cases x with
  | non =>
    cases rx
    have e' : k = false := e
    subst e'
    exact truthy_none ⟨H, I, q⟩
  | bl b =>
    cases rx
    have e' : k = b := e
    subst e'
    exact wpAny_truthy_bool ⟨H, I, q⟩
  | int i =>
    obtain ⟨t, rfl⟩ := rx
    have e' : k = (i != 0) := e
    subst e'
    exact PySem.P.truthy_int ⟨H, I, q⟩
  | str y =>
    obtain ⟨t, rfl⟩ := rx
    obtain ⟨hy, e'⟩ : y.length ≤ sizeLine ∧ k = ((y.length : Int) != 0) := e
    subst e'
    exact PySem.P.truthy_str (by omega) ⟨H, I.tok _, q⟩
  | byt y =>
    obtain ⟨t, rfl⟩ := rx
    obtain ⟨hy, e'⟩ : y.size ≤ sizeLine ∧ k = ((y.size : Int) != 0) := e
    subst e'
    exact PySem.W.truthy_bytes (by omega) ⟨H, I.tok _, q⟩
  | ref p =>
    cases rx
    have e' : (∃ xs, SqL X.K H p xs ∧ k = !xs.isEmpty) ∨ (∃ xs, SqT X.K H p xs ∧ k = !xs.isEmpty) ∨ ∃ kvs, H p = some (.dK kvs) ∧ k = !kvs.isEmpty := e
    rcases e' with ⟨xs, hx, e'⟩ | ⟨xs, hx, e'⟩ | ⟨kvs, hx, e'⟩
    · subst e'
      obtain ⟨its, r, pl, hz⟩ := I.list hx
      have hlen := r.length
      exact wpAny_truthy_list pl.isList (by simp only [List.size_toArray]; omega) ⟨H, I.tok _, by rw [isEmpty_of r]; exact q⟩
    · subst e'
      obtain ⟨its, r, pl, hz⟩ := I.tuple hx
      have hlen := r.length
      exact truthy_tuple pl (by simp only [List.size_toArray]; omega) ⟨H, I.tok _, by rw [isEmpty_of r]; exact q⟩
    · subst e'
      obtain ⟨hz, hS, vs, r, m⟩ : kvs.length ≤ sizeLine ∧ (p == sysModules) = false ∧ ∃ vs, KV kvs vs ∧ s.heap.DictOf (mixKind X.prog X.w) p vs := I.hok p _ hx
      have hlen : kvs.length = vs.length := Paired.length r
      exact wpAny_truthy_dict hS m (by omega) ⟨H, I.tok _, by rw [isEmpty_kv r]; exact q⟩
  | _ => exact (show False from e).elim
/-- any expression whose test is its value's truth (a name, a call, a subscript, a field ..: he by fun _ => rfl) -/
theorem pt_truth (ha : PE X a ta) (he : ∀ whole, isTrue a X.env whole = (do let v ← whole; standAt a.pos; holding [v] (truthy v))) :
    PT X a (fun σ H Q => ta σ H fun x H' => ∃ k, TruV X.K x H' k ∧ Q k H') := by
  intro pins s σ H Q I h
  exact isTrue_plain (thn (ha pins s σ H _ I h) fun v s1 ⟨x, H1, I1, r1, q1⟩ => tru_ok pins s1 σ H1 x v Q I1 r1 q1) (he _)

/-! ### strs and bytes -/
theorem op_add_str : OpR X (binaryOp .Add) (fun x y H Q => ∃ i j, x = .str i ∧ y = .str j ∧ i.length + j.length ≤ sizeLine ∧ Q (.str (i ++ j)) H) := by
  intro pins s σ H x y v u Q I rx ry h
  obtain ⟨i, j, rfl, rfl, hz, q⟩ := h
  obtain ⟨t, rfl⟩ := rx
  obtain ⟨t', rfl⟩ := ry
  exact add_str (fun t' tk => ⟨.str (i ++ j), H, I.tok _, ⟨_, rfl⟩, q⟩) hz


/-! ### scalar builtins, by CallR -/
theorem vals1 {x : V} {us : List Value} (r : Vals [x] us) : ∃ u, us = [u] ∧ RelV x u := by
  cases r with
  | cons r1 r2 => cases r2; exact ⟨_, rfl, r1⟩
theorem vals2 {x y : V} {us : List Value} (r : Vals [x, y] us) : ∃ u w', us = [u, w'] ∧ RelV x u ∧ RelV y w' := by
  cases r with
  | cons r1 r2 =>
    cases r2 with
    | cons r3 r4 => cases r4; exact ⟨_, _, rfl, r1, r3⟩
theorem call_min2 (hc : X.calm = true) : CallR X (.builtin "min") (fun xs H Q => ∃ i j, xs = [.int i, .int j] ∧ Q (.int (if j < i then j else i)) H) := by
  intro pins s σ H xs us Q I r h
  obtain ⟨i, j, rfl, q⟩ := h
  obtain ⟨u, w', rfl, ⟨t, rfl⟩, ⟨t', rfl⟩⟩ := vals2 r
  refine min_two_ints (I.ok.hd hc) fun h' tk k => ⟨_, H, I.kept k, ?_, q⟩
  by_cases hj : j < i
  · rw [if_pos hj, if_pos hj]; exact ⟨_, rfl⟩
  · rw [if_neg hj, if_neg hj]; exact ⟨_, rfl⟩
end
end L2

namespace L2
open PySem PySem.Spec PyProof.Rows

/-! ### an instance, its attributes a map -/



section
variable {prog : Program} {w : World} {A : Around} {E : Value → Shared → Prop} {s : Shared} {K : PySem.W.Frag} {x dx C f : Addr} {mA : Str → Option Value} {name : Str} {v : Value}





end

/-! ### the attributes as a list of pairs -/


section
variable {P : Program} {w : World} {H H' : Hp} {h h' : Heap} {a C dx : Addr} {fs fs' : List (Str × V)}
end

/-! ### what of the text a class must have -/
structure Cls (K : PySem.W.Frag) (C : Addr) : Prop where
  pg : PySem.W.plainGet K C Str.empty = true
  hd : PySem.W.hasDictIn K C = true
theorem Cls.get {K : PySem.W.Frag} {C : Addr} (c : Cls K C) (f : Str) : PySem.W.plainGet K C f = true := c.pg

section
variable {X : Cx} {pins : List (Addr × Obj)} {σ : St} {H : Hp} {s : Shared} {a C dx : Addr} {fs : List (Str × V)} {f : Str} {v : V} {A : Around} {E : Value → Shared → Prop}





/-- a new instance, tracked, without attributes -/
theorem Inv.made (I : Inv X pins σ H s) : Inv X pins σ (upd (upd H s.heap.objs.size (.own (s.heap.objs.size + 1))) (s.heap.objs.size + 1) (.ins C s.heap.objs.size []))
    { s with heap := (s.heap.push PySem.W.emptyDict).push (PySem.W.instObj C s.heap.objs.size) } := by
  have e1 : (s.heap.push PySem.W.emptyDict).get? s.heap.objs.size = some PySem.W.emptyDict := Heap.get?_push_size s.heap rfl
  have e2 : ((s.heap.push PySem.W.emptyDict).push (PySem.W.instObj C s.heap.objs.size)).get? (s.heap.objs.size + 1) = some (PySem.W.instObj C s.heap.objs.size) := by
    have := Heap.get?_push_size (s.heap.push PySem.W.emptyDict) (o := PySem.W.instObj C s.heap.objs.size) rfl
    rwa [Heap.size_push] at this
  have e3 : (s.heap.push PySem.W.emptyDict).Ns s.heap.objs.size (fun _ => none) := ⟨PySem.W.emptyDict, #[], _, e1, rfl, (fun e he => absurd he (by simp)), fun _ => rfl⟩
  have I1 := I.laid (a := s.heap.objs.size) (o := .own (s.heap.objs.size + 1)) (h' := s.heap.push PySem.W.emptyDict) (t' := s.toks) (fun b u q => Heap.get?_push_of_some _ q) (Nat.le_refl _) ⟨_, e1⟩
  refine I1.laid (a := s.heap.objs.size + 1) (o := .ins C s.heap.objs.size []) (t' := s.toks) (fun b u q => Heap.get?_push_of_some _ q) (Nat.le_of_eq (Heap.size_push _ _)) ?_
  have ne : s.heap.objs.size ≠ s.heap.objs.size + 1 := Nat.ne_of_lt (Nat.lt_succ_self _)
  refine ⟨by rw [upd_ne ne, upd_same], Nat.zero_le _, ne, e2, fun _ => none, (Heap.Ns1.of_empty e3).at fun o q => Heap.get?_push_of_some _ q, fun _ => True.intro, fun y hy => absurd rfl hy⟩

end

/-! ### readings and rules -/

section
variable {X : Cx} {o e value : Expr} {f : Str} {pos pos' tpos : Pos} {ta tv : TE}

end

/-! ### isinstance -/
section
variable {X : Cx} {pins : List (Addr × Obj)} {σ : St} {H : Hp} {s : Shared} {A : Around} {E : Value → Shared → Prop} {Q : Value → Shared → Prop} {c : Value} {b : Bool}
end
end L2

namespace L2
open PySem PySem.Spec PyProof.Rows

/-! ### room -/
structure Room (k : Nat) (A : Around) : Prop where
  hd : A.handled = none
  dp : A.depth + 3 * k + 5 < recursionLimit
  un : A.units + 16 * k + 200 < cLine
theorem Room.mono {j k : Nat} {A : Around} (r : Room k A) (h : j ≤ k) : Room j A := ⟨r.hd, by have := r.dp; omega, by have := r.un; omega⟩
theorem Room.deeper {k : Nat} {A : Around} (r : Room (k + 1) A) (env : Env) : Room k (A.deeper env) :=
  ⟨r.hd, by have := r.dp; show A.depth + 1 + 3 * k + 5 < _; omega, by have := r.un; show A.units + 3 + 16 * k + 200 < _; omega⟩
theorem Room.in1 {k : Nat} {A : Around} (r : Room (k + 1) A) : Room k A.in1 :=
  ⟨r.hd, by have := r.dp; show A.depth + 3 * k + 5 < _; omega, by have := r.un; show A.units + 1 + 16 * k + 200 < _; omega⟩
theorem Room.depth {k : Nat} {A : Around} (r : Room k A) : A.depth < recursionLimit := by have := r.dp; omega
theorem Room.units {k : Nat} {A : Around} (r : Room k A) : A.units + 64 < cLine := by have := r.un; omega

/-! ### argument lists and displays -/
def tNil : TA := fun _ H Q => Q [] H
def tCons (ta : TE) (tr : TA) : TA := fun σ H Q => ta σ H fun x H1 => tr σ H1 fun xs H2 => Q (x :: xs) H2
section
variable {X : Cx} {e : Expr} {es : List Expr} {te : TE} {t : TA} {pos : Pos}
theorem pa_nil : PA X [] tNil := fun _ _ _ _ H Q I h => Calls.spliced_nil ⟨[], H, I, .nil, h⟩
theorem pa_cons (ha : PE X e te) (hr : PA X es t) (hs : starEach (e :: es) X.env = (false, eval e X.env) :: starEach es X.env := by rfl) : PA X (e :: es) (tCons te t) := by
  intro pos pins s σ H Q I h
  rw [hs]
  show wpAny _ _ (spliced ((false, eval e X.env) :: backTo pos (starEach es X.env))) _ _ s
  refine Calls.spliced_cons (thn (ha pins s σ H _ I h) fun u s1 ⟨x, H1, I1, r1, q1⟩ => ?_)
  exact thn (hr pos pins s1 σ H1 _ I1 q1) fun us s2 ⟨xs, H2, I2, r2, q2⟩ => ⟨x :: xs, H2, I2, .cons r1 r2, q2⟩

def tLst (t : TA) : TE := fun σ H Q => t σ H fun xs H1 => xs.length ≤ sizeLine ∧ ∀ p, H1 p = none → Q (.ref p) (upd H1 p (.lst xs))
theorem pe_lst (h : PA X es t) : PE X (.List es pos) (tLst t) := by
  intro pins s σ H Q I hq
  refine wpAny_List_spliced (thn (h pos pins s σ H _ I hq) fun us s1 ⟨xs, H1, I1, r, z, q⟩ => ⟨by rw [← r.length]; exact z, ?_⟩)
  have hf : H1 s1.heap.objs.size = none := I1.hok.fresh (Nat.le_refl _)
  refine ⟨.ref s1.heap.objs.size, upd H1 s1.heap.objs.size (.lst xs), I1.laid (t' := s1.toks) (fun b u e => Heap.get?_push_of_some _ e) (Nat.le_refl _) ?_, rfl, q _ hf⟩
  exact ⟨z, us, 0, r, Heap.get?_push_size _ rfl⟩
end

/-! ### what a def promises -/
/-- a def's promise: the bound arguments in the parameters' order, the heap, the wanted end, the wanted exception -/
abbrev Sp := List V → Hp → VK → XK → Prop
/-- how an exception lies behind a call (file 08 gives it): the callers' frames, abstract heap and state ahead of the call, the wish, the exception, the state -/
abbrev CXT := List Env → Hp → Shared → XK → Value → Shared → Prop

/-- the state at a call -/
structure Env0 (P : Program) (w : World) (K : PySem.W.Frag) (mg : Str → Option Value) (base : Heap) (A : Around) (outer : List Env) (s : Shared) (H : Hp) : Prop where
  frames : A.frames = some outer
  mod : Mod K mg base
  bs : ∀ b o, base.get? b = some o → s.heap.get? b = some o ∧ H b = none
  bsz : base.objs.size ≤ s.heap.objs.size
  funs : s.heap.FunFrames base outer
  frf : ∀ b ∈ frs outer, H b = none
  hok : HOk P w H s.heap
  bare : AllBare s.gens
/-- a call's end -/
def CE (outer : List Env) (P : Program) (w : World) (H : Hp) (s : Shared) (Q : VK) (u : Value) (s' : Shared) : Prop :=
  ∃ v H', s'.os = s.os ∧ AllBare s'.gens ∧ Un (frs outer) [] H H' s.heap s'.heap ∧ HOk P w H' s'.heap ∧ RelV v u ∧ Q v H'
def CR (CX : CXT) (outer : List Env) (P : Program) (w : World) (H : Hp) (s : Shared) (Q : VK) (E : XK) (r : Result) (s' : Shared) : Prop :=
  match r with
  | .ok (.ret u) => CE outer P w H s Q u s'
  | .ok _ => False
  | .error e => CX outer H s E e s'
structure FnOk (P : Program) (w : World) (K : PySem.W.Frag) (mg : Str → Option Value) (base : Heap) (CX : CXT) (k : Nat) (f : Addr) (fd : FuncData) (ps : List Str) (sp : Sp) : Prop where
  len : ∀ vs H Q E, sp vs H Q E → vs.length = ps.length
  run : ∀ (A : Around) (outer : List Env) (s : Shared) (H : Hp) (args : Args) (us : List Value) (vs : List V) (Q : VK) (E : XK), Room k A → Env0 P w K mg base A outer s H → BindsTo s fd args (ps.zip us) → Vals vs us → sp vs H Q E →
    codeAny (model P w) A (.call (.ref f) args) (CR CX outer P w H s Q E) s
theorem FnOk.mono {P : Program} {w : World} {K : PySem.W.Frag} {mg : Str → Option Value} {base : Heap} {CX : CXT} {j k : Nat} {f : Addr} {fd : FuncData} {ps : List Str} {sp : Sp} (F : FnOk P w K mg base CX j f fd ps sp) (h : j ≤ k) :
    FnOk P w K mg base CX k f fd ps sp := ⟨F.len, fun A outer s H args us vs Q E hr => F.run A outer s H args us vs Q E (hr.mono h)⟩
/-- a weaker promise -/
theorem FnOk.imp {P : Program} {w : World} {K : PySem.W.Frag} {mg : Str → Option Value} {base : Heap} {CX : CXT} {k : Nat} {f : Addr} {fd : FuncData} {ps : List Str} {sp sp' : Sp} (F : FnOk P w K mg base CX k f fd ps sp)
    (h : ∀ vs H Q E, sp' vs H Q E → sp vs H Q E) : FnOk P w K mg base CX k f fd ps sp' :=
  ⟨fun vs H Q E q => F.len vs H Q E (h _ _ _ _ q), fun A outer s H args us vs Q E hr he hb hv hs => F.run A outer s H args us vs Q E hr he hb hv (h _ _ _ _ hs)⟩

theorem Env0.in1 {P : Program} {w : World} {K : PySem.W.Frag} {mg : Str → Option Value} {base : Heap} {A : Around} {outer : List Env} {s : Shared} {H : Hp} (e : Env0 P w K mg base A outer s H) :
    Env0 P w K mg base A.in1 outer s H := ⟨e.frames, e.mod, e.bs, e.bsz, e.funs, e.frf, e.hok, e.bare⟩

section
variable {X : Cx} {pins : List (Addr × Obj)} {σ : St} {H : Hp} {s s' : Shared}
/-- from a body: what a callee wants -/
theorem Inv.env0 (I : Inv X pins σ H s) : Env0 X.prog X.w X.K X.mg X.base X.A X.stack s H :=
  ⟨I.ok.frames, I.ok.mod, I.bs, Nat.le_trans I.ok.bsz I.sz, I.stack, I.stkFree, I.hok, I.bare⟩
/-- behind a call -/
theorem Inv.after {Q : VK} {u : Value} (I : Inv X pins σ H s) (h : CE X.stack X.prog X.w H s Q u s') : EP X pins σ Q u s' := by
  obtain ⟨v, H', os, bare, un, hok, r, q⟩ := h
  obtain ⟨hh, g, d, t, os'⟩ := s'
  obtain rfl : os' = s.os := os
  exact ⟨v, H', I.call (h' := hh) (g' := g) (d' := d) (t' := t) (ch := []) un hok bare (fun b z => absurd z (by simp)), r, q⟩
end

/-! ### calls -/
/-- f(..): the written arguments, then the defaults dvs; E: what is wanted of an exception -/
def tCall (sp : Sp) (dvs : List V) (E : XK) (t : TA) : TE := fun σ H Q => t σ H fun vs H1 => sp (vs ++ dvs) H1 Q E

/-- how the parameters are bound: us the positional arguments, kw the keywords' values by name, ds the defaults that fill up -/
def Binds (K : PySem.W.Frag) (fd : FuncData) (ps : List Str) (ds : List Value) : Prop :=
  ∀ (s : Shared) (us : List Value), K.In s.heap → (us ++ ds).length = ps.length → BindsTo s fd ⟨us, []⟩ (ps.zip (us ++ ds))
/-- every parameter is given -/
theorem Binds.all {K : PySem.W.Frag} {fd : FuncData} {ps : List Str} (h : ∀ us : List Value, us.length = ps.length → bindArgs fd ⟨us, []⟩ = pure (ps.zip us)) : Binds K fd ps [] := fun s us _ hl => by
  rw [List.append_nil] at hl ⊢
  exact .of_eq (h us hl)

/-- an exception of a callee reaches what this body wants of exceptions -/
def Passes (CX : CXT) (X : Cx) (E : XK) : Prop := ∀ (pins : List (Addr × Obj)) (σ : St) (H : Hp) (s : Shared) (e : Value) (s' : Shared), Inv X pins σ H s → CX X.stack H s E e s' → X.xe e s'

section
variable {X : Cx} {CX : CXT} {k : Nat} {f C : Addr} {fd : FuncData} {ps : List Str} {sp : Sp} {dvs : List V} {ds : List Value} {E : XK} {x m : Str} {p pos apos : Pos} {e o : Expr} {es : List Expr} {ta : TE} {t : TA}

/-- the callee runs -/
theorem run_fn {pins : List (Addr × Obj)} {σ : St} {H : Hp} {s : Shared} {Q : VK} {us : List Value} {vs : List V} (F : FnOk X.prog X.w X.K X.mg X.base CX k f fd ps sp) (hr : Room k X.A) (hb : Binds X.K fd ps ds) (hd : Vals dvs ds) (hx : Passes CX X E)
    (I : Inv X pins σ H s) (r : Vals vs us) (h : sp (vs ++ dvs) H Q E) : wpAny (model X.prog X.w) X.A (call (.ref f) us) (EP X pins σ Q) X.xe s := by
  have r2 : Vals (vs ++ dvs) (us ++ ds) := r.append hd
  have hl : (us ++ ds).length = ps.length := by rw [← r2.length]; exact F.len _ _ _ _ h
  refine wpAny_call (codeAny_mono (F.run X.A X.stack s H ⟨us, []⟩ (us ++ ds) (vs ++ dvs) Q E hr I.env0 (hb s us I.kIn hl) r2 h) fun r s' hq => ?_)
  cases r with
  | error e => exact hx pins σ H s e s' I hq
  | ok fl =>
    cases fl with
    | ret u => exact I.after hq
    | next => exact False.elim hq
    | brk => exact False.elim hq
    | cont => exact False.elim hq

theorem pe_call (F : FnOk X.prog X.w X.K X.mg X.base CX k f fd ps sp) (hr : Room k X.A) (hg : Gl X x) (hm : X.mg x = some (.ref f)) (hk : PySem.W.keepIn X.K (.ref f) = true) (hb : Binds X.K fd ps ds) (hd : Vals dvs ds) (hx : Passes CX X E)
    (ha : PA X (e :: es) t) (hdb : (x == ("__debug__" : Str)) = false := by decide) (he : starEach (e :: es) X.env = (false, eval e X.env) :: starEach es X.env := by rfl) (hpl : (backTo pos (starEach es X.env)).any (·.1) = false := by rfl) :
    PE X (.Call (.Name x p) (e :: es) [] pos) (tCall sp dvs E t) := by
  intro pins s σ H Q I h
  refine wpAny_Call_Name_kw (ld_glob I hg hm ?_ hdb)
  refine PySem.W.callWith_K (h₀ := X.base) I.ok.mod.kin hk (thn (ha pos pins s σ H _ I h) fun us s1 ⟨vs, H1, I1, r, q⟩ => ⟨I1.kIn, ?_⟩) he hpl
  exact run_fn F hr hb hd hx I1 r q



end

/-! ### keywords -/
section
variable {X : Cx} {CX : CXT} {k : Nat} {f C : Addr} {fd : FuncData} {ps ks : List Str} {sp : Sp} {E : XK} {x m : Str} {p pos apos kpos : Pos} {e o : Expr} {es : List Expr} {kws : List Keyword} {te ta : TE} {t tk : TA} {nm : Option Str}

variable {g : List Value → List Value → List Value} {gV : List V → List V → List V}
end

/-! ### a def's body keeps its promise -/
/-- names: the parameters first -/
structure FnScope (N P : List Str) (sc : Scope) : Prop where
  kind : sc.kind = .function
  co : sc.isCoroutine = false
  gen : sc.isGenerator = false
  nd : N.Nodup
  pre : N.take P.length = P
  par : ∀ x ∈ P, sc.names.lookup x = some .local ∨ sc.names.lookup x = some .cell
  nofree : ∀ y ∈ sc.names, y.2 ≠ .free

theorem bindL_out {kindOf : Str → Option NameKind} {x : Str} : ∀ {binds : List (Str × Value)} {m : Str → Option Value}, (∀ v, (x, v) ∉ binds) → bindL kindOf binds m x = m x
  | [], _, _ => rfl
  | (n, v) :: r, m, h => by
    unfold bindL
    rw [bindL_out fun w hw => h w (List.mem_cons_of_mem _ hw)]
    split
    · have : x ≠ n := by rintro rfl; exact h v List.mem_cons_self
      simp [this]
    · rfl
theorem bindC_out {kindOf : Str → Option NameKind} {x : Str} : ∀ {binds : List (Str × Value)} {m : Str → Option Value}, (∀ v, (x, v) ∉ binds) → bindC kindOf binds m x = m x
  | [], _, _ => rfl
  | (n, v) :: r, m, h => by
    unfold bindC
    rw [bindC_out fun w hw => h w (List.mem_cons_of_mem _ hw)]
    split
    · rfl
    · have : x ≠ n := by rintro rfl; exact h v List.mem_cons_self
      simp [this]
theorem bindL_get {kindOf : Str → Option NameKind} {x : Str} {v : Value} : ∀ {P : List Str} {vs : List Value} {i : Nat} {m : Str → Option Value}, P.Nodup → P[i]? = some x → vs[i]? = some v → kindOf x = some .local →
    bindL kindOf (P.zip vs) m x = some v
  | [], _, _, _, _, h, _, _ => by simp at h
  | _ :: _, [], _, _, _, _, h, _ => by simp at h
  | p :: P, w :: vs, 0, m, nd, h1, h2, hk => by
    simp at h1 h2; subst h1; subst h2
    show bindL kindOf ((p, w) :: P.zip vs) m p = _
    unfold bindL
    rw [bindL_out fun v hv => (List.nodup_cons.mp nd).1 (List.of_mem_zip hv).1, if_pos hk]
    simp
  | p :: P, w :: vs, i + 1, m, nd, h1, h2, hk => by
    show bindL kindOf ((p, w) :: P.zip vs) m x = _
    unfold bindL
    exact bindL_get (i := i) (List.nodup_cons.mp nd).2 (by simpa using h1) (by simpa using h2) hk
theorem bindC_get {kindOf : Str → Option NameKind} {x : Str} {v : Value} : ∀ {P : List Str} {vs : List Value} {i : Nat} {m : Str → Option Value}, P.Nodup → P[i]? = some x → vs[i]? = some v → kindOf x ≠ some .local →
    bindC kindOf (P.zip vs) m x = some v
  | [], _, _, _, _, h, _, _ => by simp at h
  | _ :: _, [], _, _, _, _, h, _ => by simp at h
  | p :: P, w :: vs, 0, m, nd, h1, h2, hk => by
    simp at h1 h2; subst h1; subst h2
    show bindC kindOf ((p, w) :: P.zip vs) m p = _
    unfold bindC
    rw [bindC_out fun v hv => (List.nodup_cons.mp nd).1 (List.of_mem_zip hv).1, if_neg hk]
    simp
  | p :: P, w :: vs, i + 1, m, nd, h1, h2, hk => by
    show bindC kindOf ((p, w) :: P.zip vs) m x = _
    unfold bindC
    exact bindC_get (i := i) (List.nodup_cons.mp nd).2 (by simpa using h1) (by simpa using h2) hk

/-- the names' values at the entry -/
def start (N : List Str) (vs : List V) : St := vs.map some ++ List.replicate (N.length - vs.length) none

/-- the context of a def's body, at its entry; an exception leaves the frame, then lies as CX says -/
def cxOf (CX : CXT) (P : Program) (w : World) (K : PySem.W.Frag) (mg : Str → Option Value) (base : Heap) (N : List Str) (qual : Str) (scope : Scope) (f : Addr) (cd : Value) (A : Around) (outer : List Env) (s : Shared) (H : Hp) (E : XK) : Cx where
  prog := P
  w := w
  K := K
  mg := mg
  base := base
  A := A.deeper (envOfC qual scope s.heap.objs.size f cd)
  N := N
  s₀ := s
  H₀ := H
  env := envOfC qual scope s.heap.objs.size f cd
  outer := outer
  stack := envOfC qual scope s.heap.objs.size f cd :: outer
  ex := []
  calm := true
  fn := fun _ => true
  pn := []
  xe := fun e s' => wpAny (model P w) (A.deeper (envOfC qual scope s.heap.objs.size f cd)) (leaving (envOfC qual scope s.heap.objs.size f cd) e) (fun _ s'' => CX outer H s E e s'') (fun e' s'' => CX outer H s E e' s'') s'

theorem cell_has {sc : Scope} {n : Nat} {x : Str} (h : sc.names.lookup x = some .cell) : ∃ c, (cellsFrom n sc.names []).lookup x = some c := by
  have q := PySem.W.cellsFrom_some sc.names n [] (.inl h)
  exact Option.isSome_iff_exists.mp q

theorem inv_start {CX : CXT} {P : Program} {w : World} {K : PySem.W.Frag} {mg : Str → Option Value} {base : Heap} {N ps : List Str} {qual : Str} {scope : Scope} {f : Addr} {cd : Value} {A : Around} {outer : List Env} {s s1 : Shared} {H : Hp} {E : XK} {us : List Value} {vs : List V}
    (S : FnScope N ps scope) (hd : A.handled = none) (e0 : Env0 P w K mg base A outer s H) (hl : vs.length = ps.length) (r : Vals vs us)
    (x : InCallC s s.heap.objs.size (bindL (envOfC qual scope s.heap.objs.size f cd).kindOf (ps.zip us) fun _ => none) (cellsFrom (s.heap.objs.size + 1) scope.names []) (bindC (envOfC qual scope s.heap.objs.size f cd).kindOf (ps.zip us) fun _ => none) s1) :
    Inv (cxOf CX P w K mg base N qual scope f cd A outer s H E) [] (start N vs) H s1 := by
  have hpl : ps.length ≤ N.length := by have := congrArg List.length S.pre; rw [List.length_take] at this; omega
  obtain ⟨h1, tk, rfl, hk⟩ := x.done
  have noA : ∀ b : Addr, b ∉ (cxOf CX P w K mg base N qual scope f cd A outer s H E).ex := fun b z => absurd (show b ∈ ([] : List Addr) from z) (by simp)
  refine ⟨⟨e0.mod, S.kind, rfl, rfl, Nat.le_refl _, fun y z c h1 h2 => ?_, fun y hy => ?_, fun y c _ h => ?_, fun _ => hd, Around.frames_deeper e0.frames, .inr ⟨rfl, rfl⟩, fun b z => absurd z (noA b), e0.bs, e0.bsz, fun b _ _ => noA b, fun b z => absurd z (noA b), e0.funs, e0.frf⟩,
    rfl, e0.bare, Un.kept hk, ⟨_, x.toInCall.ns, fun i y v h1 h2 h3 => ?_⟩, fun y c h => ⟨_, x.cell y c h⟩, e0.hok.fresh (Nat.le_refl _), fun y c h => ?_, fun p hp => absurd (show p ∈ ([] : List (Addr × Obj)) from hp) (by simp), e0.hok.kept hk, ?_⟩
  · exact name_of_addr x.apart (PySem.mem_of_lookup h1) (PySem.mem_of_lookup h2)
  · have hy : scope.names.lookup y = some .cell ∨ scope.names.lookup y = some .free := hy
    rcases hy with hy | hy
    · exact cell_has hy
    · exact absurd rfl (S.nofree _ (PySem.mem_of_lookup hy))
  · exact Nat.le_of_lt (x.above y c (PySem.mem_of_lookup h))
  · have hi : i < vs.length := by
      unfold start at h2
      by_cases hi : i < vs.length
      · exact hi
      · rw [List.getElem?_append_right (by simpa using hi)] at h2
        rw [List.getElem?_replicate] at h2
        split at h2 <;> cases h2
    have ha : vs[i]? = some v := by
      unfold start at h2
      rw [List.getElem?_append_left (by simpa using hi), List.getElem?_map] at h2
      cases e : vs[i]? with
      | none => rw [e] at h2; cases h2
      | some a => rw [e] at h2; cases h2; rfl
    obtain ⟨u, hu, rv⟩ := r.get ha
    have hp : ps[i]? = some y := by
      rw [← S.pre, List.getElem?_take_of_lt (by omega)]; exact h1
    have ndP : ps.Nodup := by rw [← S.pre]; exact S.nd.sublist (List.take_sublist _ _)
    refine ⟨u, rv, ?_⟩
    rcases S.par y (List.mem_of_getElem? hp) with k | k
    · exact .inl ⟨k, bindL_get ndP hp hu k⟩
    · obtain ⟨c, e⟩ := cell_has (n := s.heap.objs.size + 1) k
      refine .inr ⟨.inl k, c, e, ?_⟩
      have q := x.cell y c e
      rw [bindC_get ndP hp hu (by show scope.names.lookup y ≠ _; rw [k]; decide)] at q
      exact q
  · exact e0.hok.fresh (Nat.le_of_lt (x.above y c (PySem.mem_of_lookup h)))
  · unfold start
    show _ = N.length
    rw [List.length_append, List.length_map, List.length_replicate]
    omega

/-- THE RULE: a def (or a method) of the text, by its body. The body's reading t is chosen for each entry; it is run at the parameters' values -/
theorem fn_of {CX : CXT} {P : Program} {w : World} {K : PySem.W.Frag} {mg : Str → Option Value} {base : Heap} {k : Nat} {f : Addr} {name qual : Str} {params : Arguments} {body : List Stmt} {scope : Scope} {dV kV doc pm cdv ct oc : Value} {an od : Option Addr}
    {osl : Array (Option Value)} {N ps : List Str} {sp : Sp} (lk : K.lookup f = some ⟨oc, od, .func (PySem.W.fnOf name qual params body scope dV kV doc pm an cdv ct), osl⟩) (hcd : PySem.W.codeIn K cdv qual = true) (S : FnScope N ps scope)
    (len : ∀ vs H Q E, sp vs H Q E → vs.length = ps.length)
    (hbody : ∀ (A : Around) (outer : List Env) (s : Shared) (H : Hp) (vs : List V) (Q : VK) (E : XK), Room k (A.deeper (envOfC qual scope s.heap.objs.size f cdv)) → sp vs H Q E →
      ∃ t, PSs (cxOf CX P w K mg base N qual scope f cdv A outer s H E) body t ∧ t { nx := fun _ H' => Q .non H', rt := Q } (start N vs) H) :
    FnOk P w K mg base CX (k + 1) f (PySem.W.fnOf name qual params body scope dV kV doc pm an cdv ct) ps sp := by
  refine ⟨len, fun A outer s H args us vs Q E hr e0 hb r hsp => ?_⟩
  have hl := len _ _ _ _ hsp
  have KX : K.In s.heap := e0.mod.kin.keeps fun b o e => (e0.bs b o e).1
  have lim : s.heap.NoLimit := e0.mod.nolimit.keeps fun b o e => (e0.bs b o e).1
  have hkind : ∀ y ∈ ps.zip us, scope.names.lookup y.1 = some .local ∨ (scope.names.lookup y.1 = some .cell ∧ ((cellsFrom (s.heap.objs.size + 1) scope.names []).lookup y.1).isSome = true) := fun ⟨n, v⟩ hy => by
    rcases S.par n (List.of_mem_zip hy).1 with q | q
    · exact .inl q
    · exact .inr ⟨q, PySem.W.cellsFrom_some _ _ _ (.inl q)⟩
  refine codeAny_call_function hr.depth (KX _ _ lk) rfl S.co S.gen rfl (PySem.W.codeRec_of KX hcd) (hb _ _ _ _ ?_)
  refine wpAny_newFunctionEnv_cells S.kind hkind fun env he s1 x => ?_
  subst he
  refine ⟨lim.keeps x.toInCall.keep, codeAny_func ?_⟩
  obtain ⟨t, ht, hq⟩ := hbody A outer s H vs Q E (hr.deeper _) hsp
  have I : Inv (cxOf CX P w K mg base N qual scope f cdv A outer s H E) [] (start N vs) H s1 := inv_start S hr.hd e0 hl r x
  refine wpAny_mono (ht [] s1 (start N vs) H _ I hq) (fun fl s' hs => ?_) fun e s' hs => hs
  have fin : ∀ {σ' : St} {H' : Hp} {v : V} {u : Value}, Inv (cxOf CX P w K mg base N qual scope f cdv A outer s H E) [] σ' H' s' → RelV v u → Q v H' → CE outer P w H s Q u s' :=
    fun {σ' H' v u} J rv q => ⟨v, H', J.os, J.bare, J.base, J.hok, rv, q⟩
  cases fl with
  | ret u =>
    obtain ⟨v, σ', H', J, rv, q⟩ := hs
    exact fin J rv q
  | next =>
    obtain ⟨σ', H', J, q⟩ := hs
    exact fin (v := V.non) (u := Value.none) J rfl q
  | brk =>
    obtain ⟨_, _, _, q⟩ := hs
    exact False.elim q
  | cont =>
    obtain ⟨_, _, _, q⟩ := hs
    exact False.elim q
end L2

namespace L2
open PySem PySem.Spec PyProof.Rows
section
variable {X : Cx} {x : Str} {p pos : Pos} {e : Expr} {es : List Expr} {t : TA} {id T : String} {r : List V → Hp → VK → Prop}

def tCB (r : List V → Hp → VK → Prop) (t : TA) : TE := fun σ H Q => t σ H fun vs H1 => r vs H1 Q
/-- f(e, ..), f a built-in function -/
theorem pe_callB (hc : CallR X (.builtin id) r) (hg : Gl X x) (hm : X.mg x = none) (hv : bootBuiltins x = some (.builtin id)) (ha : PA X (e :: es) t) (hn : x ≠ "__name__" := by decide) (hdb : (x == ("__debug__" : Str)) = false := by decide)
    (he : starEach (e :: es) X.env = (false, eval e X.env) :: starEach es X.env := by rfl) (hpl : (backTo pos (starEach es X.env)).any (·.1) = false := by rfl) : PE X (.Call (.Name x p) (e :: es) [] pos) (tCB r t) := by
  intro pins s σ H Q I h
  refine wpAny_Call_Name_kw (ld_blt I hg hm hv ?_ hn hdb)
  exact PyProof.Rows.callWith_builtin1 (thn (ha pos pins s σ H _ I h) fun us s1 ⟨vs, H1, I1, r1, q1⟩ => hc pins s1 σ H1 vs us Q I1 r1 q1) he hpl
end
end L2

namespace HT
open PySem PyProof.Rows



section
open PySem.SeqAt
open PySem.AutoSeq1 (wpAny_loadPart')
open PySem.MeetsSeq PySem.MeetsSeq2 PySem.MeetsSeq3

end

section
variable {prog : Program} {w : World} {A : Around} {E : Value → Shared → Prop} {s : Shared}



/-! ### t[a:b], not the whole -/
/-- a slice's bound as a place among n (d where it is left out) -/
def sIx (n d : Nat) : Option Int → Nat
  | none => d
  | some v => if v < 0 then (v + (n : Int)).toNat else min v.toNat n

end
end HT

namespace L2
open PySem PySem.Spec PyProof.Rows

/-! ### the parts of a slice -/
abbrev TO := St → Hp → (Option Int → Hp → Prop) → Prop
/-- a slice's part (left out, or an int) -/
def PO (X : Cx) (e : Option Expr) (t : TO) : Prop :=
  ∀ (pins : List (Addr × Obj)) (s : Shared) (σ : St) (H : Hp) (Q : Option Int → Hp → Prop), Inv X pins σ H s → t σ H Q →
    wpAny (model X.prog X.w) X.A (evalPart e X.env) (fun u s' => ∃ o H', Inv X pins σ H' s' ∧ IsPart u o ∧ Q o H') X.xe s
def tNoPart : TO := fun _ H Q => Q none H
def tPart (t : TE) : TO := fun σ H Q => t σ H fun x H1 => ∃ i, x = .int i ∧ Q (some i) H1


section
variable {X : Cx} {e : Expr} {te : TE} {lo hi : Option Expr} {tl th : TO} {pos p2 : Pos}

theorem po_none : PO X none tNoPart := by
  intro pins s σ H Q I h
  rw [evalPart_none]
  exact wpAny_pure ⟨none, H, I, .none, h⟩
theorem po_some (h : PE X e te) : PO X (some e) (tPart te) := by
  intro pins s σ H Q I hw
  rw [evalPart_some]
  refine thn (h pins s σ H _ I hw) fun u s1 ⟨x, H1, I1, r1, q1⟩ => ?_
  obtain ⟨i, rfl, q⟩ := q1
  obtain ⟨t, rfl⟩ := r1
  exact ⟨some i, H1, I1, .int i t, q⟩

/-- what a slice of a value is, by values: the slice object stands at sl -/
def SlR (X : Cx) (r : V → Option Int → Option Int → Hp → VK → Prop) : Prop :=
  ∀ (pins : List (Addr × Obj)) (s : Shared) (σ : St) (H : Hp) (x : V) (v vl vu : Value) (lo hi : Option Int) (sl : Addr) (Q : VK), Inv X pins σ H s → RelV x v → s.heap.IsSliceOf sl vl vu .none → IsPart vl lo → IsPart vu hi → r x lo hi H Q →
    ∃ T id, typeLookup (.type T) "__getitem__" = pure (some (.builtin id)) ∧ s.TypeIs v T ∧ wpAny (model X.prog X.w) X.A (getItem v (.ref sl)) (EP X pins σ Q) X.xe s
theorem SlR.or {r r' : V → Option Int → Option Int → Hp → VK → Prop} (h : SlR X r) (h' : SlR X r') : SlR X (fun x lo hi H Q => r x lo hi H Q ∨ r' x lo hi H Q) := by
  intro pins s σ H x v vl vu lo hi sl Q I rx hs pl pu q
  rcases q with q | q
  · exact h pins s σ H x v vl vu lo hi sl Q I rx hs pl pu q
  · exact h' pins s σ H x v vl vu lo hi sl Q I rx hs pl pu q
def tSl (r : V → Option Int → Option Int → Hp → VK → Prop) (te : TE) (tl th : TO) : TE := fun σ H Q => te σ H fun x H1 => tl σ H1 fun l H2 => th σ H2 fun u H3 => r x l u H3 Q
/-- a[lo:hi], any a -/
theorem pe_slice {r : V → Option Int → Option Int → Hp → VK → Prop} (hr : SlR X r) (he : PE X e te) (hl : PO X lo tl) (hu : PO X hi th) : PE X (.Subscript e (.Slice lo hi none p2) pos) (tSl r te tl th) := by
  intro pins s σ H Q I h
  refine Subscript_ (thn (he pins s σ H _ I h) fun v s1 ⟨x, H1, I1, r1, q1⟩ => ?_)
  refine wpAny_Slice (thn (hl pins s1 σ H1 _ I1 q1) fun vl s2 ⟨l, H2, I2, pl, q2⟩ => thn (hu pins s2 σ H2 _ I2 q2) fun vu s3 ⟨u, H3, I3, pu, q3⟩ => ?_)
  rw [evalPart_none]
  refine wpAny_pure ?_
  have I4 : Inv X pins σ H3 { s3 with heap := s3.heap.push { cls := .type "slice", data := .fields #[vl, vu, .none] } } := I3.kept (t' := s3.toks) fun b ob q => Heap.get?_push_of_some _ q
  obtain ⟨T, id, hT, ht, hg⟩ := hr pins { s3 with heap := s3.heap.push { cls := .type "slice", data := .fields #[vl, vu, .none] } } σ H3 x v vl vu l u s3.heap.objs.size Q I4 r1 (Heap.IsSliceOf.new ..) pl pu q3
  show wpAny (model X.prog X.w) X.A (subscriptTail e (.Slice lo hi none p2) v (.ref s3.heap.objs.size)) (EP X pins σ Q) X.xe { s3 with heap := s3.heap.push { cls := .type "slice", data := .fields #[vl, vu, .none] } }
  exact tail_any (ops := [.ref s3.heap.objs.size, v]) ht hT hg (by with_unfolding_all rfl)

/-- the items of xs[lo:hi] -/
def cutV (xs : List V) (lo hi : Option Int) : List V := (xs.drop (HT.sIx xs.length 0 lo)).take (HT.sIx xs.length xs.length hi - HT.sIx xs.length 0 lo)
theorem cutV_length (xs : List V) (lo hi : Option Int) : (cutV xs lo hi).length ≤ xs.length := by
  unfold cutV
  rw [List.length_take, List.length_drop]
  omega

/-! ### t < u, t + u -/
end
end L2

namespace L2
open PySem PySem.Spec PyProof.Rows

/-! ### places -/
/-- the place that an index of any sign means -/
def ixN (n : Nat) (i : Int) : Option Nat := if 0 ≤ i then (if i < n then some i.toNat else none) else if -(n : Int) ≤ i then some (i + n).toNat else none
def atI {α : Type} (xs : List α) (i : Int) : Option α := (ixN xs.length i).bind fun j => xs[j]?
theorem ixN_seq {n : Nat} {i : Int} {j : Nat} (h : ixN n i = some j) : seqIndex? i n = some j ∧ j < n ∧ -(n : Int) ≤ i ∧ i < n := by
  unfold ixN at h
  by_cases h0 : 0 ≤ i
  · rw [if_pos h0] at h
    by_cases h1 : i < n
    · rw [if_pos h1] at h
      have e : i.toNat = j := Option.some.inj h
      exact ⟨by rw [seqIndex_of h0 h1, e], by omega, by omega, h1⟩
    · rw [if_neg h1] at h; cases h
  · rw [if_neg h0] at h
    by_cases h1 : -(n : Int) ≤ i
    · rw [if_pos h1] at h
      have e : (i + n).toNat = j := Option.some.inj h
      exact ⟨by rw [seqIndex_neg (by omega) h1, e], by omega, h1, by omega⟩
    · rw [if_neg h1] at h; cases h
theorem atI_get {α : Type} {xs : List α} {i : Int} {v : α} (h : atI xs i = some v) : ∃ j, seqIndex? i xs.length = some j ∧ xs[j]? = some v ∧ j < xs.length ∧ -(xs.length : Int) ≤ i ∧ i < xs.length := by
  unfold atI at h
  cases e : ixN xs.length i with
  | none => rw [e] at h; cases h
  | some j =>
    rw [e] at h
    obtain ⟨h1, h2, h3, h4⟩ := ixN_seq e
    exact ⟨j, h1, h, h2, h3, h4⟩
theorem atI_nat {α : Type} {xs : List α} {j : Nat} {v : α} (h : xs[j]? = some v) : atI xs (j : Int) = some v := by
  have hj : j < xs.length := (List.getElem?_eq_some_iff.mp h).1
  have e : ixN xs.length (j : Int) = some j := by
    unfold ixN
    rw [if_pos (by omega), if_pos (by omega)]; simp
  unfold atI; rw [e]; exact h

/-! ### what may be subscripted -/
/-- what stands as an index of a plain subscript -/
def PlainIx (b : Expr) : Prop := ∀ o i, subscripted b false o i = operate [o, i] (getItem o i)
/-- a subscript by values -/
def IxR (X : Cx) (r : R2) : Prop :=
  ∀ (value slice : Expr) (pins : List (Addr × Obj)) (s : Shared) (σ : St) (H : Hp) (x y : V) (v u : Value) (Q : VK), Inv X pins σ H s → RelV x v → RelV y u → r x y H Q →
    subscripted slice false v u = operate [v, u] (getItem v u) → wpAny (model X.prog X.w) X.A (subscriptTail value slice v u) (EP X pins σ Q) X.xe s
/-- a call of a builtin's method by values: the receiver, the arguments -/
def MtR (X : Cx) (id : String) (r : V → List V → Hp → VK → Prop) : Prop :=
  ∀ (pins : List (Addr × Obj)) (s : Shared) (σ : St) (H : Hp) (x : V) (xs : List V) (v : Value) (us : List Value) (Q : VK), Inv X pins σ H s → RelV x v → Vals xs us → r x xs H Q →
    wpAny (model X.prog X.w) X.A (call (.builtin id) (v :: us)) (EP X pins σ Q) X.xe s
section
variable {X : Cx} {a b : Expr} {ta tb : TE} {pos : Pos}
theorem IxR.or {r r' : R2} (h : IxR X r) (h' : IxR X r') : IxR X (fun x y H Q => r x y H Q ∨ r' x y H Q) := by
  intro value slice pins s σ H x y v u Q I rx ry q hs
  rcases q with q | q
  · exact h value slice pins s σ H x y v u Q I rx ry q hs
  · exact h' value slice pins s σ H x y v u Q I rx ry q hs
theorem MtR.or {id : String} {r r' : V → List V → Hp → VK → Prop} (h : MtR X id r) (h' : MtR X id r') : MtR X id (fun x xs H Q => r x xs H Q ∨ r' x xs H Q) := by
  intro pins s σ H x xs v us Q I rx rs q
  rcases q with q | q
  · exact h pins s σ H x xs v us Q I rx rs q
  · exact h' pins s σ H x xs v us Q I rx rs q
/-- a[b] -/
theorem pe_ix {r : R2} (hr : IxR X r) (ha : PE X a ta) (hb : PE X b tb) (hs : PlainIx b) : PE X (.Subscript a b pos) (tOp r ta tb) := by
  intro pins s σ H Q I h
  exact Subscript_ (binT ha hb I h fun v u s2 x y H2 I2 rx ry q => hr a b pins s2 σ H2 x y v u Q I2 rx ry q (hs _ _))

def rIxL (K : PySem.W.Frag) : R2 := fun x y H Q => ∃ p xs i v, x = .ref p ∧ y = .int i ∧ SqL K H p xs ∧ atI xs i = some v ∧ Q v H
def rIxT (K : PySem.W.Frag) : R2 := fun x y H Q => ∃ p xs i v, x = .ref p ∧ y = .int i ∧ SqT K H p xs ∧ atI xs i = some v ∧ Q v H
def rIxS : R2 := fun x y H Q => ∃ z i c, x = .str z ∧ y = .int i ∧ z.length ≤ sizeLine ∧ atI z.cps.toList i = some c ∧ Q (.str ⟨#[c]⟩) H
theorem ix_list : IxR X (rIxL X.K) := by
  intro value slice pins s σ H x y v u Q I rx ry h hs
  obtain ⟨p, xs, i, z, rfl, rfl, hq, he, q⟩ := h
  cases rx
  obtain ⟨t, rfl⟩ := ry
  obtain ⟨its, r, pl, hz⟩ := I.list hq
  obtain ⟨j, h1, h2, h3, h4, h5⟩ := atI_get he
  obtain ⟨w, ew, rw'⟩ := r.get h2
  have hl := r.length
  have hn := line63
  have fin : EP X pins σ Q w s := ⟨z, H, I, rw', q⟩
  by_cases h0 : 0 ≤ i
  · have hj : i.toNat = j := by
      rw [seqIndex_of h0 h5] at h1
      exact Option.some.inj h1
    exact item_listR pl.isList h0 (by omega) (by rw [hj]; simpa using ew) fin hs
  · have hj : (i + (its.toArray.size : Int)).toNat = j := by
      rw [seqIndex_neg (by omega) h4] at h1
      rw [List.size_toArray, ← hl]
      exact Option.some.inj h1
    exact subscriptTail_builtinR (x := w) pl.isList.typeIs slot_list_getitem.lookup
      (wpAny_getItem_list_neg (Q := fun r s' => r = w ∧ EP X pins σ Q r s') pl.isList (by omega) (by rw [List.size_toArray] <;> omega) (by omega) (by rw [hj]; simpa using ew) ⟨rfl, fin⟩) hs
theorem ix_tup : IxR X (rIxT X.K) := by
  intro value slice pins s σ H x y v u Q I rx ry h hs
  obtain ⟨p, xs, i, z, rfl, rfl, hq, he, q⟩ := h
  cases rx
  obtain ⟨t, rfl⟩ := ry
  obtain ⟨its, r, pl, hz⟩ := I.tuple hq
  obtain ⟨j, h1, h2, h3, h4, h5⟩ := atI_get he
  obtain ⟨w, ew, rw'⟩ := r.get h2
  have hl := r.length
  have hn := line63
  have fin : EP X pins σ Q w s := ⟨z, H, I, rw', q⟩
  exact subscriptTail_builtinR (x := w) pl.typeIs slot_tuple_getitem.lookup
    (getItem_tuple (j := j) (Q := fun r s' => r = w ∧ EP X pins σ Q r s') pl (by omega) (by omega) (by rw [List.size_toArray, ← hl]; exact h1) (by simpa using ew) ⟨rfl, fin⟩) hs
theorem ix_str : IxR X rIxS := by
  intro value slice pins s σ H x y v u Q I rx ry h hs
  obtain ⟨z, i, c, rfl, rfl, hz, he, q⟩ := h
  obtain ⟨t, rfl⟩ := rx
  obtain ⟨t', rfl⟩ := ry
  obtain ⟨j, h1, h2, h3, h4, h5⟩ := atI_get he
  have hl : z.cps.toList.length = z.length := by simp [Str.length]
  rw [hl] at h1 h4 h5
  have hn := line63
  exact tail_any (typeIs_str s z t) slot_str_getitem.lookup (getItem_str (c := c) (by
    have e1 : decide (i < -(2 ^ 63 : Int)) = false := decide_eq_false (by omega)
    have e2 : decide (i ≥ 2 ^ 63) = false := decide_eq_false (by omega)
    rw [e1, e2, Bool.or_false]) (by rw [h1]; simpa using h2) ⟨.str ⟨#[c]⟩, H, I.tok _, ⟨_, rfl⟩, q⟩) hs
/-- list, tuple or str -/
def rIx (K : PySem.W.Frag) : R2 := fun x y H Q => rIxL K x y H Q ∨ rIxT K x y H Q ∨ rIxS x y H Q
theorem ix_seq : IxR X (rIx X.K) := ix_list.or (ix_tup.or ix_str)

/-! ### xs[i] = v, any sign -/
/-- the list's object behind a store -/
theorem mapSeq_set (its : List Value) (n j : Nat) (u : Value) : Obj.mapSeq (·.setIfInBounds j u) { cls := .type "list", data := .seq its.toArray n } = { cls := .type "list", data := .seq (its.set j u).toArray n } := by
  simp [Obj.mapSeq]
theorem Inv.lst {pins : List (Addr × Obj)} {σ : St} {H : Hp} {s : Shared} {p : Addr} {xs : List V} (I : Inv X pins σ H s) (h : H p = some (.lst xs)) :
    ∃ (its : List Value) (n : Nat), Vals xs its ∧ s.heap.get? p = some { cls := .type "list", data := .seq its.toArray n } ∧ xs.length ≤ sizeLine := by
  obtain ⟨z, its, n, r, e⟩ := I.hok p _ h
  exact ⟨its, n, r, e, z⟩
/-- the list at p is written by an update of its object -/
theorem Inv.lstUpd {pins : List (Addr × Obj)} {σ : St} {H : Hp} {s : Shared} {p : Addr} {xs ys : List V} {its its' : List Value} {n n' : Nat} {f : Obj → Obj} (I : Inv X pins σ H s) (h : H p = some (.lst xs))
    (ho : s.heap.get? p = some { cls := .type "list", data := .seq its.toArray n }) (hf : f { cls := .type "list", data := .seq its.toArray n } = { cls := .type "list", data := .seq its'.toArray n' }) (r : Vals ys its') (hz : ys.length ≤ sizeLine) (t : Nat) :
    Inv X pins σ (upd H p (.lst ys)) { s with heap := s.heap.update p f, toks := t } := by
  have e : (s.heap.update p f).get? p = some { cls := .type "list", data := .seq its'.toArray n' } := by
    rw [Heap.get?_update_self f ho (by rw [hf] <;> rfl), hf]
  refine I.write (x := p) (e := p) (by rw [h]; trivial) (.inl rfl) (fun b u hb q => (Heap.get?_update_other _ _ (Ne.symm hb)).trans q) ⟨_, e⟩ ?_
  exact ⟨hz, its', n', r, e⟩
def rSetL : V → V → V → Hp → (Hp → Prop) → Prop := fun o i v H Q => ∃ p xs k j, o = .ref p ∧ i = .int k ∧ H p = some (.lst xs) ∧ ixN xs.length k = some j ∧ Q (upd H p (.lst (xs.set j v)))
theorem set_list : PSet X rSetL := by
  intro pins s σ H o i v ov iv u Q I ro ri rv h
  obtain ⟨p, xs, k, j, rfl, rfl, hp, hj, q⟩ := h
  cases ro
  obtain ⟨t, rfl⟩ := ri
  obtain ⟨its, n, r, ho, hz⟩ := I.lst hp
  obtain ⟨h1, h2, h3, h4⟩ := ixN_seq hj
  have hl := r.length
  have hn := line63
  have I' : Inv X pins σ (upd H p (.lst (xs.set j v))) { s with heap := s.heap.update p (Obj.mapSeq (·.setIfInBounds j u)) } :=
    I.lstUpd hp ho (mapSeq_set its n j u) (r.set rv j) (by rw [List.length_set]; exact hz) s.toks
  by_cases h0 : 0 ≤ k
  · have hk : k.toNat = j := by
      rw [seqIndex_of h0 h4] at h1
      exact Option.some.inj h1
    exact PySem.W.ki_setAt ho h0 (by omega) (by rw [List.size_toArray, ← hl]; exact h4) (by rw [hk]; exact ⟨_, I', q⟩)
  · have hk : (k + (its.toArray.size : Int)).toNat = j := by
      rw [seqIndex_neg (by omega) h3] at h1
      rw [List.size_toArray, ← hl]
      exact Option.some.inj h1
    exact PySem.W.ki_setBack ho (by omega) (by rw [List.size_toArray, ← hl]; exact h3) (by omega) (by rw [hk]; exact ⟨_, I', q⟩)

/-! ### slices -/
theorem slice_bounds (lo hi : Option Int) (n : Nat) : (sliceBounds lo hi none n).1 = ((HT.sIx n 0 lo : Nat) : Int) ∧ (sliceBounds lo hi none n).2.1 = ((HT.sIx n n hi : Nat) : Int) ∧ (sliceBounds lo hi none n).2.2 = 1 := by
  refine ⟨?_, ?_, rfl⟩
  · cases lo with
    | none => simp [sliceBounds, HT.sIx]
    | some i =>
      simp only [sliceBounds, HT.sIx, Option.getD_none, show (1 : Int) > 0 by decide, if_true]
      by_cases h : i < 0
      · simp only [h, if_true] <;> omega
      · simp only [h, if_false] <;> omega
  · cases hi with
    | none => simp [sliceBounds, HT.sIx]
    | some i =>
      simp only [sliceBounds, HT.sIx, Option.getD_none, show (1 : Int) > 0 by decide, if_true]
      by_cases h : i < 0
      · simp only [h, if_true] <;> omega
      · simp only [h, if_false] <;> omega
theorem slicePick_cut (its : List Value) (lo hi : Option Int) : slicePick its.toArray lo hi none = ((its.drop (HT.sIx its.length 0 lo)).take (HT.sIx its.length its.length hi - HT.sIx its.length 0 lo)).toArray := by
  obtain ⟨h1, h2, h3⟩ := slice_bounds lo hi its.toArray.size
  unfold slicePick
  rw [h1, h2, h3]
  simp only [sliceRange_one, pick_run, List.size_toArray] <;> rfl
/-- xs[lo:hi] of a list: a new list -/
def rSlL (K : PySem.W.Frag) : V → Option Int → Option Int → Hp → VK → Prop := fun x lo hi H Q => ∃ a xs, x = .ref a ∧ SqL K H a xs ∧ ∀ p, H p = none → Q (.ref p) (upd H p (.lst (cutV xs lo hi)))
theorem sl_list : SlR X (rSlL X.K) := by
  intro pins s σ H x v vl vu lo hi sl Q I rx hs pl pu h
  obtain ⟨a, xs, rfl, hx, q⟩ := h
  cases rx
  obtain ⟨its, r, ht, hz⟩ := I.list hx
  have hlen := r.length
  refine ⟨"list", _, slot_list_getitem.lookup, ht.isList.typeIs, ?_⟩
  refine wpAny_getItem_list_slice ht.isList hs pl pu .none (by simp) ?_ (by rw [List.size_toArray] <;> omega)
  rw [slicePick_cut, ← hlen]
  refine ⟨.ref s.heap.objs.size, _, I.laid (t' := s.toks) (o := .lst (cutV xs lo hi)) (fun b ob q => Heap.get?_push_of_some _ q) (Nat.le_refl _) ?_, rfl, q _ (I.hok.fresh (Nat.le_refl _))⟩
  exact ⟨Nat.le_trans (cutV_length xs lo hi) hz, _, 0, (r.drop (HT.sIx xs.length 0 lo)).take (HT.sIx xs.length xs.length hi - HT.sIx xs.length 0 lo), Heap.get?_push_size _ rfl⟩

/-! ### in, not in: flat items -/

/-! ### len, list(x), tuple(x) of any list or tuple that is read -/
theorem call_len_seq : CallR X (.builtin "len") (fun xs H Q => ∃ p ys, xs = [.ref p] ∧ (SqL X.K H p ys ∨ SqT X.K H p ys) ∧ Q (.int ys.length) H) := by
  intro pins s σ H xs us Q I r h
  obtain ⟨p, ys, rfl, hq, q⟩ := h
  obtain ⟨u, rfl, rx⟩ := vals1 r
  cases rx
  have hn := line63
  rcases hq with hq | hq
  · obtain ⟨its, r', pl, hz⟩ := I.list hq
    have hlen := r'.length
    exact Calls.call_len_list pl.isList (by simp only [List.size_toArray] <;> omega) ⟨.int ys.length, H, I.tok _, ⟨s.toks + 1, by rw [List.size_toArray, hlen]⟩, q⟩
  · obtain ⟨its, r', pl, hz⟩ := I.tuple hq
    have hlen := r'.length
    exact len_tuple pl (by simp only [List.size_toArray] <;> omega) ⟨.int ys.length, H, I.tok _, ⟨s.toks + 1, by rw [List.size_toArray, hlen]⟩, q⟩
theorem call_len_str : CallR X (.builtin "len") (fun xs H Q => ∃ z, xs = [.str z] ∧ z.length ≤ sizeLine ∧ Q (.int z.length) H) := by
  intro pins s σ H xs us Q I r h
  obtain ⟨z, rfl, hz, q⟩ := h
  obtain ⟨u, rfl, t, rfl⟩ := vals1 r
  have hn := line63
  exact len_str (by omega) ⟨.int z.length, H, I.tok _, ⟨_, rfl⟩, q⟩
theorem CallR.or {f : Value} {r r' : List V → Hp → VK → Prop} (h : CallR X f r) (h' : CallR X f r') : CallR X f (fun xs H Q => r xs H Q ∨ r' xs H Q) := by
  intro pins s σ H xs us Q I rs q
  rcases q with q | q
  · exact h pins s σ H xs us Q I rs q
  · exact h' pins s σ H xs us Q I rs q

/-! ### the call of a builtin's method: o.m(..) -/
/-- the value is of that builtin type -/
def tyV (K : PySem.W.Frag) (T : String) (x : V) (H : Hp) : Prop := match x with
  | .str _ => T = "str"
  | .int _ => T = "int"
  | .ref p => (T = "list" ∧ ∃ xs, SqL K H p xs) ∨ (T = "tuple" ∧ ∃ o, K.lookup p = some o ∧ o.cls = .type "tuple" ∧ o.dict = none) ∨
      (T = "dict" ∧ ((∃ kvs, H p = some (.dK kvs)) ∨ ∃ kvs, H p = some (.dT kvs))) ∨ (T = "set" ∧ ∃ S n, H p = some (.set S n))
  | _ => False
theorem tyV_is {pins : List (Addr × Obj)} {σ : St} {H : Hp} {s : Shared} {T : String} {x : V} {v : Value} (I : Inv X pins σ H s) (r : RelV x v) (ty : tyV X.K T x H) :
    s.TypeIs v T ∧ ∀ a, v = .ref a → ∃ ob, s.heap.get? a = some ob ∧ ob.dict = none := by
  cases x with
  | str z =>
    obtain ⟨t, rfl⟩ := r
    cases (show T = "str" from ty)
    exact ⟨typeIs_str s z t, fun _ e => nomatch e⟩
  | int i =>
    obtain ⟨t, rfl⟩ := r
    cases (show T = "int" from ty)
    exact ⟨typeIs_int s i t, fun _ e => nomatch e⟩
  | ref p =>
    cases r
    rcases ty with ⟨rfl, xs, hq⟩ | ⟨rfl, o, hk, hc, hd⟩ | ⟨rfl, hk⟩ | ⟨rfl, S, n, hk⟩
    · obtain ⟨its, _, pl, _⟩ := I.list hq
      refine ⟨pl.isList.typeIs, fun a e => ?_⟩
      cases e
      obtain ⟨o, n, e, c, hd, _⟩ := pl
      exact ⟨o, e, hd⟩
    · refine ⟨⟨o, I.kIn p o hk, hc⟩, fun a e => ?_⟩
      cases e
      exact ⟨o, I.kIn _ o hk, hd⟩
    · have z : ∃ o, s.heap.get? p = some o ∧ o.ExactDict := by
        rcases hk with ⟨kvs, hk⟩ | ⟨kvs, hk⟩
        · obtain ⟨_, _, _, _, o, _, _, e, ex, _⟩ := I.hok p _ hk
          exact ⟨o, e, ex⟩
        · obtain ⟨_, _, _, _, o, _, _, e, ex, _⟩ := I.hok p _ hk
          exact ⟨o, e, ex⟩
      obtain ⟨o, e, ex⟩ := z
      refine ⟨⟨o, e, ex.1⟩, fun a e2 => ?_⟩
      cases e2
      exact ⟨o, e, ex.2.1⟩
    · obtain ⟨o, _, _, _, e, ex, _⟩ := I.hok p _ hk
      refine ⟨⟨o, e, ex.1⟩, fun a e2 => ?_⟩
      cases e2
      exact ⟨o, e, ex.2.1⟩
  | _ => exact False.elim ty
def tBM0 (K : PySem.W.Frag) (T : String) (r : V → List V → Hp → VK → Prop) (to : TE) : TE := fun σ H Q => to σ H fun x H1 => tyV K T x H1 ∧ r x [] H1 Q
def tBM (K : PySem.W.Frag) (T : String) (r : V → List V → Hp → VK → Prop) (to : TE) (t : TA) : TE := fun σ H Q => to σ H fun x H1 => tyV K T x H1 ∧ t σ H1 fun xs H2 => r x xs H2 Q
variable {o e : Expr} {es : List Expr} {to : TE} {t : TA} {name : Str} {apos cpos : Pos} {T id : String} {r : V → List V → Hp → VK → Prop}
theorem pe_bm0 (pa : PlainAttrs T) (slot : Slot T name id) (hty : typeOf (.builtin id) = pure (.type "method_descriptor")) (hm : MtR X id r) (ho : PE X o to)
    (hbase : attributeBase o name X.env (eval o X.env) = eval o X.env := by rfl) (hline : (apos.endLine == cpos.line) = true := by rfl) : PE X (.Call (.Attribute o name apos) [] [] cpos) (tBM0 X.K T r to) := by
  intro pins s σ H Q I h
  refine wpAny_Call_method0_late hbase hline (thn (ho pins s σ H _ I h) fun v s1 ⟨x, H1, I1, r1, ty, q1⟩ => ?_)
  obtain ⟨h1, h2⟩ := tyV_is I1 r1 ty
  exact ⟨T, id, pa, slot, hty, h1, h2, Calls.callWith_builtin rfl (PySem.evalArgs_none (hm pins s1 σ H1 x [] v [] Q I1 r1 .nil q1))⟩
theorem pe_bm (pa : PlainAttrs T) (slot : Slot T name id) (hty : typeOf (.builtin id) = pure (.type "method_descriptor")) (hm : MtR X id r) (ho : PE X o to) (ha : PA X (e :: es) t)
    (hbase : attributeBase o name X.env (eval o X.env) = eval o X.env := by rfl)
    (hfew : ((backTo cpos (starEach (e :: es) X.env)).all (fun x => !x.1) && (backToKw cpos (keywordEach [] X.env)).all (fun x => x.1.isSome)
      && decide ((e :: es).length + ([] : List Keyword).length + (if ([] : List Keyword).isEmpty then 0 else 1) < 30)) = true := by rfl)
    (hline : (apos.endLine == cpos.line) = true := by rfl) (hs : starEach (e :: es) X.env = (false, eval e X.env) :: starEach es X.env := by rfl) (hplain : (backTo cpos (starEach es X.env)).any (·.1) = false := by rfl) :
    PE X (.Call (.Attribute o name apos) (e :: es) [] cpos) (tBM X.K T r to t) := by
  intro pins s σ H Q I h
  refine wpAny_Call_method_late hbase hfew hline rfl (thn (ho pins s σ H _ I h) fun v s1 ⟨x, H1, I1, r1, ty, q1⟩ => ?_)
  obtain ⟨h1, h2⟩ := tyV_is I1 r1 ty
  refine ⟨T, id, pa, slot, hty, h1, h2, ?_⟩
  have hA := ha cpos pins s1 σ H1 _ I1 q1
  rw [hs] at hA ⊢
  refine Calls.callWith_builtin (by show (false || (backTo cpos (starEach es X.env)).any (·.1)) = false; rw [hplain] <;> rfl) (Calls.evalArgs_plain ?_)
  exact thn hA fun us s2 ⟨vs, H2, I2, r2, q2⟩ => hm pins s2 σ H2 x vs v us Q I2 r1 r2 q2
/- xs.append(e), list.index on a module's tuple .. are MtR facts of 06m -/
end
end L2

namespace L2
open PySem PySem.Spec PyProof.Rows

def MtM (X : Cx) (id : String) (r : V → List V → Hp → VK → Prop) : Prop :=
  ∀ (pins : List (Addr × Obj)) (s : Shared) (σ : St) (H : Hp) (x : V) (xs : List V) (v : Value) (us : List Value) (Q : VK), Inv X pins σ H s → RelV x v → Vals xs us → r x xs H Q →
    wpAny (model X.prog X.w) X.A (call (.builtin id) (v :: us)) (EP X pins σ Q) X.xe s

/-! ### lists of values -/
theorem Vals.one : ∀ {x : V} {us : List Value}, Vals [x] us → ∃ u, us = [u] ∧ RelV x u
  | _, _, .cons r .nil => ⟨_, rfl, r⟩
theorem Vals.two : ∀ {x y : V} {us : List Value}, Vals [x, y] us → ∃ u v, us = [u, v] ∧ RelV x u ∧ RelV y v
  | _, _, _, .cons r (.cons q .nil) => ⟨_, _, rfl, r, q⟩
theorem Vals.zero : ∀ {us : List Value}, Vals [] us → us = []
  | _, .nil => rfl
theorem Vals.dropLast {xs : List V} {us : List Value} (h : Vals xs us) : Vals xs.dropLast us.dropLast := by
  induction h with
  | nil => exact .nil
  | cons r t ih =>
    cases t with
    | nil => exact .nil
    | cons q t' => exact .cons r ih
theorem Vals.reverse {xs : List V} {us : List Value} (h : Vals xs us) : Vals xs.reverse us.reverse := by
  induction h with
  | nil => exact .nil
  | cons r t ih => rw [List.reverse_cons, List.reverse_cons]; exact Vals.append ih (.cons r .nil)
theorem Vals.rep {xs : List V} {us : List Value} (h : Vals xs us) : ∀ k : Nat, Vals (List.replicate k xs).flatten (List.replicate k us).flatten
  | 0 => .nil
  | k + 1 => by
    rw [List.replicate_succ, List.replicate_succ, List.flatten_cons, List.flatten_cons]
    exact Vals.append h (Vals.rep h k)
theorem foldl_rep (its : List Value) : ∀ (k : Nat) (acc : List Value),
    List.foldl (fun x1 x2 => x1 ++ x2) acc.toArray (List.replicate k its.toArray) = (acc ++ (List.replicate k its).flatten).toArray
  | 0, acc => by simp
  | k + 1, acc => by
    have e : acc.toArray ++ its.toArray = (acc ++ its).toArray := by simp
    have e2 : (acc ++ its) ++ (List.replicate k its).flatten = acc ++ (List.replicate (k + 1) its).flatten := by
      rw [List.replicate_succ, List.flatten_cons, List.append_assoc]
    rw [← e2, ← foldl_rep its k (acc ++ its), ← e, List.replicate_succ, List.foldl_cons]

section
variable {X : Cx} {pins : List (Addr × Obj)} {σ : St} {H : Hp} {s : Shared} {l b : Addr} {xs ys zs : List V}

/-! ### the two steps: a tracked list is rewritten, a new list is laid -/
theorem Inv.lset {its its' : List Value} {n : Nat} {f : Array Value → Array Value} {t' : Nat} (I : Inv X pins σ H s) (hH : H l = some (.lst xs))
    (e : s.heap.get? l = some { cls := .type "list", data := .seq its.toArray n }) (hf : f its.toArray = its'.toArray) (hv : Vals ys its') (hz : ys.length ≤ sizeLine) :
    Inv X pins σ (upd H l (.lst ys)) { s with heap := s.heap.update l (Obj.mapSeq f), toks := t' } := by
  have q := PySem.IsL.update e f
  rw [hf] at q
  refine I.write (x := l) (e := l) (by rw [hH]; exact trivial) (.inl rfl) (fun b' u hb hu => (Heap.get?_update_other s.heap (Obj.mapSeq f) (Ne.symm hb)).trans hu) ⟨_, q⟩ ?_
  exact ⟨hz, its', _, hv, q⟩
theorem Inv.lnew {its : List Value} {t' : Nat} (I : Inv X pins σ H s) (hv : Vals ys its) (hz : ys.length ≤ sizeLine) :
    Inv X pins σ (upd H s.heap.objs.size (.lst ys)) { s with heap := s.heap.push { cls := .type "list", data := .seq its.toArray }, toks := t' } :=
  I.laid (fun _ _ q => Heap.get?_push_of_some _ q) (Nat.le_refl _) ⟨hz, its, 0, hv, Heap.get?_push_size _ rfl⟩
theorem Inv.fresh (I : Inv X pins σ H s) : H s.heap.objs.size = none := I.hok.fresh (Nat.le_refl _)
theorem Inv.lstM (I : Inv X pins σ H s) (hH : H l = some (.lst xs)) : xs.length ≤ sizeLine ∧ ∃ (its : List Value) (n : Nat), Vals xs its ∧ xs.length = its.length ∧ s.heap.get? l = some { cls := .type "list", data := .seq its.toArray n } := by
  obtain ⟨z, its, n, r, e⟩ := I.hok l _ hH
  exact ⟨z, its, n, r, r.length, e⟩

theorem notLongL {n : Nat} (h : n ≤ sizeLine) : Builtin.List.listTooLong n = false := by
  unfold Builtin.List.listTooLong
  exact decide_eq_false (by omega)
end

section
variable {X : Cx}

/-! ### methods -/
def rAppend : V → List V → Hp → VK → Prop := fun x vs H Q => ∃ l xs y, x = .ref l ∧ vs = [y] ∧ H l = some (.lst xs) ∧ xs.length < sizeLine ∧ Q .non (upd H l (.lst (xs ++ [y])))
theorem mt_append : MtM X "list.append" rAppend := by
  intro pins s σ H x vs v us Q I rx rv h
  obtain ⟨l, xs, y, rfl, rfl, hH, hz, q⟩ := h
  cases rx
  obtain ⟨u, rfl, ru⟩ := rv.one
  obtain ⟨z, its, n, r, hl, e⟩ := I.lstM hH
  refine call_meets F.slot_list_append ⟨_, e, rfl⟩ F.entry_list_append (F.args_list_append_2 _ _) (PySem.list_append l its.toArray n u (by rw [List.size_toArray]; omega)) ⟨e, ?_⟩
  refine ⟨.non, _, I.lset (its' := its ++ [u]) hH e (by simp) (r.append (.cons ru .nil)) ?_, rfl, q⟩
  rw [List.length_append, List.length_singleton]
  omega






/-! ### list + list, list += list, list * int -/
def rCat : R2 := fun x y H Q => ∃ l b xs zs, x = .ref l ∧ y = .ref b ∧ H l = some (.lst xs) ∧ H b = some (.lst zs) ∧ xs.length + zs.length ≤ sizeLine ∧ ∀ p, H p = none → Q (.ref p) (upd H p (.lst (xs ++ zs)))
theorem op_cat : OpR X (binaryOp .Add) rCat := by
  intro pins s σ H x y v u Q I rx ry h
  obtain ⟨l, b, xs, zs, rfl, rfl, hH, hB, hz, q⟩ := h
  cases rx
  cases ry
  obtain ⟨z, its, n, r, hl, e⟩ := I.lstM hH
  obtain ⟨z2, its2, n2, r2, hl2, e2⟩ := I.lstM hB
  refine PySem.P.add_list e e2 ?_ (by rw [List.size_toArray, List.size_toArray]; omega)
  have ea : its.toArray ++ its2.toArray = (its ++ its2).toArray := by simp
  rw [ea]
  exact ⟨.ref _, _, I.lnew (t' := s.toks) (r.append r2) (by rw [List.length_append]; omega), rfl, q _ I.fresh⟩
/-- a list times an int (a negative one is nothing) -/
def rRep : R2 := fun x y H Q => ∃ l k xs, x = .ref l ∧ y = .int k ∧ H l = some (.lst xs) ∧ -(2 ^ 63) ≤ k ∧ k < 2 ^ 63 ∧ xs.length * k.toNat ≤ sizeLine ∧
  ∀ p, H p = none → Q (.ref p) (upd H p (.lst (List.replicate k.toNat xs).flatten))
theorem len_rep {α : Type} (xs : List α) (k : Nat) : (List.replicate k xs).flatten.length = k * xs.length := by
  induction k with
  | zero => simp
  | succ k ih => rw [List.replicate_succ, List.flatten_cons, List.length_append, ih, Nat.succ_mul, Nat.add_comm]
theorem op_rep : OpR X (binaryOp .Mult) rRep := by
  intro pins s σ H x y v u Q I rx ry h
  obtain ⟨l, k, xs, rfl, rfl, hH, h1, h2, hz, q⟩ := h
  cases rx
  obtain ⟨t, rfl⟩ := ry
  obtain ⟨z, its, n, r, hl, e⟩ := I.lstM hH
  have hlen : its.toArray.size * k.toNat ≤ sizeLine := by rw [List.size_toArray, ← hl]; exact hz
  have hcap : ¬ its.toArray.size * k.toNat > (2 ^ 63 - 1) / 8 := by
    have : (sizeLine : Nat) ≤ (2 ^ 63 - 1) / 8 := by decide
    omega
  have hfit : ¬ (!Builtin.List.listFitsIndex k) = true := by
    rw [fitsIndex_both h1 h2]
    exact Bool.false_ne_true
  have hlong : ¬ Builtin.List.listTooLong (its.toArray.size * k.toNat) = true := by
    rw [notLongL hlen]
    exact Bool.false_ne_true
  have hnew : List.foldl (fun x1 x2 => x1 ++ x2) #[] (List.replicate (if its.toArray.isEmpty = true then 0 else k.toNat) its.toArray) = (List.replicate k.toNat its).flatten.toArray := by
    have f0 : ∀ m : Nat, List.foldl (fun x1 x2 => x1 ++ x2) #[] (List.replicate m its.toArray) = (List.replicate m its).flatten.toArray := fun m => by
      have := foldl_rep its m []
      rw [List.nil_append] at this
      exact this
    rw [f0]
    cases its with
    | nil => simp
    | cons a r' => rw [if_neg (by simp)]
  refine wpAny_binaryOp_repeat_ref (T := "list") (U := "int") (by decide) ⟨_, e, rfl⟩ (fun s' => typeIs_int s' k t) noFill_list_mul F.fills_int_mul F.slot_int_rmul repeat_list F.slot_int_index.lookup
    (call_meets F.slot_int_rmul (typeIs_int s k t) F.entry_int_rmul (F.args_int_rmul_2 _ _) (int___rmul___int_list k t l its.toArray n)
      ⟨e, rfl, ⟨_, e, rfl⟩, call_meets F.slot_list_mul ⟨_, e, rfl⟩ F.entry_list_mul (F.args_list_mul_2 _ _) (AutoListH.list___mul___list_int_3 l its.toArray n k t hfit hcap hlong) ⟨e, ?_⟩⟩)
  rw [hnew]
  exact ⟨.ref _, _, I.lnew (t' := s.toks) (r.rep k.toNat) (by rw [len_rep, Nat.mul_comm]; exact hz), rfl, q _ I.fresh⟩

/-! ### del xs[i] -/
end

/-! ### xs[a:b] = ys -/
section
variable {prog : Program} {w : World} {A : Around} {E : Value → Shared → Prop} {s : Shared}
end

section
variable {X : Cx}
end
end L2

namespace Att
open PySem PySem.W PySem.Calls PyProof.Rows

/-! ### the script -/
theorem ints_of_wellAll {P : Params} {h : Heap} : ∀ (ns : List Int) (vs : List Value), WellAll P h vs (ns.map WData.int) → IntsAre vs ns := by
  intro ns
  induction ns with
  | nil =>
    intro vs w
    rw [List.map_nil] at w
    cases w
    exact .nil
  | cons n ns ih =>
    intro vs w
    rw [List.map_cons] at w
    cases w with
    | cons a b =>
      cases a
      exact .cons _ _ (ih _ b)

theorem script_of {l : OpenLaw} {n : Nat} (hn : l.most = some n) {P : Params} {h : Heap} {args : List WData} {vals : List Value}
    (hpre : l.row.toRowW.claim.pre args = true) (hwl : WellAll P h vals args) :
    ∃ a vs ns, vals = [Value.ref a] ∧ args = [WData.list (ns.map WData.int)] ∧ h.get? a = some { cls := .type "list", data := .seq vs.toArray } ∧ IntsAre vs ns ∧ ns.length ≤ n := by
  have hsh : WShape.hasAll [] args [.list .int] = true := (pre_splitW hpre).1
  have hc : l.pre.holds [] { args := args } = true := (pre_splitW hpre).2
  obtain ⟨d, r, rfl, h1, h2⟩ := hasAllW_cons hsh
  obtain rfl := hasAllW_nil h2
  obtain ⟨xs, rfl, h3⟩ := hasW_list h1
  obtain ⟨ns, rfl⟩ := items_int h3
  have hlen : ns.length ≤ n := by
    unfold OpenLaw.pre at hc
    have h4 : (WTm.not (.lt (.lit (.int (n : Int))) (.len (.arg 0)))).holds [] { args := [.list (ns.map .int)] } = true := by
      have h4 := (holds_andW hc).1
      rw [hn] at h4
      exact h4
    have h5 := condW_of h4 (w_not (w_lt w_lit (w_len_list (w_arg rfl))))
    rw [List.length_map] at h5
    refine Nat.le_of_not_lt fun q => ?_
    have q' : (n : Int) < ((ns.length : Nat) : Int) := by omega
    first
      | (rw [decide_eq_true q'] at h5; exact absurd h5 (by decide))
      | (simp at h5; omega)
  cases hwl with
  | cons w1 w2 =>
    cases w2
    cases w1 with
    | list ho hall => exact ⟨_, _, ns, rfl, rfl, ho, ints_of_wellAll ns _ hall, hlen⟩

theorem post_true (l : OpenLaw) (args : List WData) : l.row.toRowW.claim.post args (.bool true) args = true :=
  postW_of (r := l.row.toRowW) (X := (true == true))
    (show WShape.has [] (.bool true) .bool = true by first | rfl | decide | simp [WShape.has, WShape.arms, WShape.armsAll])
    (show (WTm.eq .res (.lit (.bool true))).value [] { args := args, res := some (.bool true), after := args } = some (.bool (true == true)) from w_eq_bool (w_res rfl) w_lit) rfl

/-! ### the attachment: holds_open's last premise (the goal 'hc' behind k_head) from a wpAny of the law's body -/

/-- the same from a codeAny of the CALL (for a layer whose function contracts speak of calls) -/
theorem attach_call {l : OpenLaw} {n : Nat} {q : Program} {loose : List Str} {XP : (Str → Option Value) → Heap → Prop} {YP : World → Heap → Prop} {d : DefRec}
    (hn : l.most = some n) (hdf : d.params.defaults = [])
    (call : ∀ (w : World) (s₀ s₁ : Shared) (mg mb : Str → Option Value) (fa : Addr) (o : Obj) (pm cd doc : Value) (a : Addr) (vs : List Value) (ns : List Int),
      Ground q loose [] XP w s₀ mg mb s₁.heap → YP w s₁.heap →
      s₁.heap.get? fa = some o → o.data = .func (docDef d.name d.params d.body d.scope pm cd doc) → s₁.heap.CodeRec cd d.name → mg d.name = some (.ref fa) →
      s₁.heap.get? a = some { cls := .type "list", data := .seq vs.toArray } → IntsAre vs ns → ns.length ≤ n → s₁.gens = #[] →
      codeAny (model l.prog w) callerA (.call (.ref fa) ⟨[.ref a], []⟩) (fun r s' => r = .ok (.ret (.bool true)) ∧ OldK s₁.heap s'.heap ∧ s'.os = s₁.os ∧ AllBare s'.gens) s₁) :
    WalkO q loose XP YP l.row.toRowW d [] (fun f vs => PySem.call f vs) := by
  intro w s₀ s₁ mg mb G Y fa o pm cd doc dV kV ho hd hcd hD hmg hg args vals as hpre hlay hrd hwl hlo
  obtain rfl : dV = .none := Dflts.none hD hdf
  obtain rfl : kV = .none := Dflts.noKw hD
  obtain ⟨a, vs, ns, rfl, rfl, hobj, hints, hlen⟩ := script_of hn hpre hwl
  refine enter_call (codeAny_mono (call w s₀ s₁ mg mb fa o pm cd doc a vs ns G Y ho (fd_plain hd) hcd hmg hobj hints hlen hg) fun r s' hq => ?_)
  obtain ⟨rfl, h2, h3, h4⟩ := hq
  exact ⟨.inl ⟨.bool true, .bool true, [], rfl, fun _ => rfl, .bool true, post_true l _, fun _ => ⟨List.Pairwise.nil, fun _ hm => (nomatch hm)⟩⟩, h2, h3, h4⟩


/-! ### rules over ANY heap (no ledger) from facts about the written part K: the library's own take a ledger (News) for what they write -/
section
variable {prog : Program} {w : World} {A : Around} {E : Value → Shared → Prop} {s : Shared} {K : Frag}





/-! the whole heap as the ledger: makes every rule that writes through a ledger a rule over any heap -/
def ledger (h : Heap) (L d : Addr) : List (Addr × Obj) := (List.range h.objs.size).filterMap fun a => if a = L ∨ a = d then none else (h.get? a).map fun o => (a, o)

end
end Att

namespace L2
open PySem PySem.Spec PyProof.Rows

theorem vals_ints : ∀ {vs : List Value} {ns : List Int}, IntsAre vs ns → Vals (ns.map V.int) vs
  | _, _, .nil => .nil
  | _, _, .cons n t h => .cons ⟨t, rfl⟩ (vals_ints h)

/-- nothing is tracked but the script, known to the object (or it is an object of the module) -/
def Only (H : Hp) : Prop := ∀ b, H b = none ∨ ∃ o xs, H b = some (.frz o (.lst xs))

/-- THE HEAD: the law's promise, at the heap behind the top. F, the promise of the law's def, may use that base is part of the heap (so K.In base, base.Ns mainGlobals mg stand in Mod) -/
theorem law_call {P : Program} {w : World} {K : PySem.W.Frag} {mg mb : Str → Option Value} {CX : CXT} {k : Nat} {fa a : Addr} {fd : FuncData} {x : Str} {sp : Sp} {s₁ : Shared} {vs : List Value} {ns : List Int}
    (KX : K.In s₁.heap) (hns : s₁.heap.Ns mainGlobals mg) (hb : s₁.heap.Ns builtinsNs mb) (hbb : ∀ x : Str, x ≠ "__name__" → mb x = bootBuiltins x) (hlim : s₁.heap.NoLimit) (hg : s₁.gens = #[])
    (ha : s₁.heap.get? a = some { cls := .type "list", data := .seq vs.toArray }) (hi : IntsAre vs ns) (hl : ns.length ≤ sizeLine) (hr : Room k callerA)
    (F : ∀ base : Heap, K.In base → base.Ns mainGlobals mg → FnOk P w K mg base CX k fa fd [x] sp) (hbind : ∀ (s : Shared) (u : Value), BindsTo s fd ⟨[u], []⟩ [(x, u)])
    (hsp : ∀ H : Hp, Only H → SqL K H a (ns.map V.int) → sp [.ref a] H (fun v _ => v = .bl true) fun _ _ _ => False)
    (hCX : ∀ H e s', CX [] H s₁ (fun _ _ _ => False) e s' → False) :
    codeAny (model P w) callerA (.call (.ref fa) ⟨[.ref a], []⟩) (fun r s' => r = .ok (.ret (.bool true)) ∧ OldK s₁.heap s'.heap ∧ s'.os = s₁.os ∧ AllBare s'.gens) s₁ := by
  have rv := vals_ints hi
  have lenV := hi.length
  -- from an abstract heap in which nothing but the script may be tracked
  have core : ∀ H : Hp, Only H → SqL K H a (ns.map V.int) → HOk P w H s₁.heap → (∀ b, H b ≠ none → b = a) → (H a ≠ none → K.lookup a = none) →
      codeAny (model P w) callerA (.call (.ref fa) ⟨[.ref a], []⟩) (fun r s' => r = .ok (.ret (.bool true)) ∧ OldK s₁.heap s'.heap ∧ s'.os = s₁.os ∧ AllBare s'.gens) s₁ := by
    intro H hO hS hok hA hK
    have base_of : ∀ {b : Addr} {o : Obj}, s₁.heap.get? b = some o → H b = none → (hidT s₁.heap H).get? b = some o := fun e n => hidT_get e n
    have noA : ∀ {b : Addr} {o : Obj} {es : Array DictEntry} {ep : Nat}, s₁.heap.get? b = some o → o.data = .dict es ep → H b = none := fun {b o es ep} e d => by
      cases q : H b with
      | none => rfl
      | some u =>
        have e' : b = a := hA b (by rw [q]; simp)
        subst e'
        rw [ha] at e; cases e
        have d' : Data.seq vs.toArray _ = Data.dict es ep := d
        cases d'
    have nsK : ∀ {b : Addr} {m : Str → Option Value}, s₁.heap.Ns b m → (hidT s₁.heap H).Ns b m := fun {b m} ⟨o, es, ep, e, d, r⟩ => ⟨o, es, ep, base_of e (noA e d), d, r⟩
    have hKb : K.In (hidT s₁.heap H) := fun b o e => base_of (KX b o e) (by
      cases q : H b with
      | none => rfl
      | some u =>
        have e' : b = a := hA b (by rw [q]; simp)
        subst e'
        rw [hK (by rw [q]; simp)] at e; cases e)
    have hM : Mod K mg (hidT s₁.heap H) := ⟨hKb, nsK hns, ⟨mb, nsK hb, hbb⟩, let ⟨mc, h1, h2⟩ := hlim; ⟨mc, nsK h1, h2⟩⟩
    have e0 : Env0 P w K mg (hidT s₁.heap H) callerA [] s₁ H := ⟨rfl, hM, fun b o e => of_hidT e, Nat.le_of_eq (hidT_size _ _), trivial, fun b hb => absurd (show b ∈ ([] : List Addr) from hb) (by simp), hok, .of_eq hg⟩
    refine codeAny_mono ((F _ hKb (nsK hns)).run callerA [] s₁ H ⟨[.ref a], []⟩ [.ref a] [.ref a] _ _ hr e0 (hbind s₁ (.ref a)) (.cons rfl .nil) (hsp H hO hS)) fun r s' h => ?_
    cases r with
    | error e => exact (hCX H e s' h).elim
    | ok fl =>
      cases fl with
      | next => exact False.elim h
      | brk => exact False.elim h
      | cont => exact False.elim h
      | ret u =>
        obtain ⟨v, H', os, bare, un, hok', r', q⟩ := h
        have q' : v = .bl true := q
        subst q'
        obtain rfl : u = Value.bool true := r'
        refine ⟨rfl, OldK.of_keep fun b o e => ?_, os, bare⟩
        cases q : H b with
        | none => exact un.keep b o e q (by intro z; exact absurd (show b ∈ ([] : List Addr) from z) (by simp)) (by simp)
        | some u =>
          rcases hO b with z | ⟨ob, xs, z⟩
          · rw [q] at z; cases z
          · have z2 := un.frzs b ob _ z
            obtain ⟨e1, _⟩ := hok b _ z
            obtain ⟨e2, _⟩ := hok' b _ z2
            rw [e] at e1; cases e1
            exact e2
  cases hk : K.lookup a with
  | some o =>
    -- the script is one of the module's own objects
    have e := KX a o hk
    rw [ha] at e
    cases e
    refine core (fun _ => none) (fun _ => .inl rfl) (.inr ⟨_, vs.toArray, _, hk, rfl, rfl, rfl, by rw [List.size_toArray, lenV]; exact hl, by simpa using rv⟩) (fun b u z => by have z' : (none : Option HO) = some u := z; cases z') (fun b z => absurd rfl z) fun z => absurd rfl z
  | none =>
    refine core (fun b => if b = a then some (.frz { cls := .type "list", data := .seq vs.toArray } (.lst (ns.map V.int))) else none) (fun b => ?_) (.inl (.inr ⟨{ cls := .type "list", data := .seq vs.toArray }, if_pos rfl⟩)) (fun b u z => ?_) (fun b z => ?_) fun _ => hk
    · by_cases hb : b = a
      · exact .inr ⟨_, _, if_pos hb⟩
      · exact .inl (if_neg hb)
    · by_cases hb : b = a
      · have z' := (if_pos hb).symm.trans z
        cases z'
        subst hb
        exact ⟨ha, by rw [List.length_map]; exact hl, vs, _, rv, ha⟩
      · have z' := (if_neg hb).symm.trans z
        cases z'
    · by_cases hb : b = a
      · exact hb
      · exact absurd (if_neg hb) z
end L2

namespace L2
open PySem PySem.Spec PyProof.Rows

abbrev KOf {K : PySem.W.Frag} {h : Heap} (_ : K.In h) : PySem.W.Frag := K

/-- the goal that k_head leaves (case hc), from the law's promise. F gives the function object fd (K's own) once, then the promise over every base -/
theorem walk_of {l : PySem.W.OpenLaw} {n k : Nat} {q : Program} {loose : List Str} {XP : (Str → Option Value) → Heap → Prop} {YP : World → Heap → Prop} {d : DefRec} {K : Params → PySem.W.Frag} {CX : World → CXT} {sp : World → Sp} {x : Str}
    (hn : l.most = some n) (hn2 : n ≤ sizeLine) (hdf : d.params.defaults = []) (hr : Room k callerA)
    (hY : ∀ (w : World) (h : Heap), YP w h → (K w.params).In h)
    (F : ∀ (w : World) (mg : Str → Option Value) (fa : Addr) (h : Heap), (K w.params).In h → h.Ns mainGlobals mg → mg d.name = some (.ref fa) →
      ∃ fd : FuncData, (∀ (s : Shared) (u : Value), BindsTo s fd ⟨[u], []⟩ [(x, u)]) ∧
        ∀ base : Heap, (K w.params).In base → base.Ns mainGlobals mg → FnOk l.prog w (K w.params) mg base (CX w) k fa fd [x] (sp w))
    (hsp : ∀ (w : World) (H : Hp) (a : Addr) (ns : List Int), ns.length ≤ n → Only H → SqL (K w.params) H a (ns.map V.int) → sp w [.ref a] H (fun v _ => v = .bl true) fun _ _ _ => False)
    (hCX : ∀ (w : World) (H : Hp) (s : Shared) (e : Value) (s' : Shared), CX w [] H s (fun _ _ _ => False) e s' → False) :
    PySem.W.WalkO q loose XP YP l.row.toRowW d [] (fun f vs => PySem.call f vs) := by
  refine Att.attach_call hn hdf fun w s₀ s₁ mg mb fa o pm cd doc a vs ns G Y ho hd hcd hmg hobj hints hlen hg => ?_
  have KX := hY w _ Y
  obtain ⟨fd, hb, hF⟩ := F w mg fa _ KX G.T.g hmg
  exact law_call KX G.T.g G.T.b G.T.builtins G.T.nolimit hg hobj hints (Nat.le_trans hlen hn2) hr hF hb (fun H hO hS => hsp w H a ns hlen hO hS) fun H e s' => hCX w H s₁ e s'
end L2

/- THE LAST THEOREM (shape; LID, My.* are yours):
   My.Adr: a structure of the addresses that your layer names (classes, functions); My.Txt K t: a structure (Prop) of the equations over K;
   My.txt_mk : {K} {implicit addresses ..} (e1 : nsIn K mainGlobals "law" = some (some (.ref f))) (e2 : K.lookup f = some ⟨oc, od, .func (fnOf "law" "law" params body scope dV kV doc pm an cdv ct), sl⟩) (e3 : codeIn K cdv "law" = true) .. : ∃ t, My.Txt K t

set_option maxRecDepth 100000 in
set_option maxHeartbeats 0 in
theorem PySem.Challenge.cw_LID_holds : PySem.Challenge.rw_LID.Holds := by
  w_on; o_law; k_head; (case hw => w_witness2)
  k_fill
  refine L2.walk_of (l := PySem.Challenge.rw_LID) (n := 63) (k := 40) (x := "script") (CX := fun w => ..) (sp := fun _ => My.sp_law) rfl (by decide) rfl ⟨rfl, by decide, by decide⟩ (fun w h Y => PySem.W.kIn_of Y) ?F ?S ?C
  case F =>
    intro w mg fa h KX G hmg
    have T : ∃ t, My.Txt (L2.KOf KX) t := by
      dsimp only [L2.KOf]                          -- K must stand as «<heap const> w.params» for k_is
      refine' My.txt_mk ?e1 ?e2 ?e3 ..
      (case e1 => PySem.W.k_is)                    -- in the order: a name -> its address -> its object -> its parts
      (case e2 => PySem.W.k_is)
      ..
    obtain ⟨t, T⟩ := T
    have e0 := hmg.symm.trans (PySem.W.mg_of KX G T.law)
    cases e0                                       -- fa is the law's own address
    exact ⟨_, fun s u => .of_eq rfl, fun base kb nb => My.law_fn T kb nb⟩     -- if «.of_eq rfl» comes too early: refine' ⟨_, ?b, fun base kb nb => My.law_fn T kb nb⟩; exact fun s u => .of_eq rfl
  case S => exact fun w H a ns hl hO hS => ..
  case C => exact ..
(the tactic k_is has no namespace: write k_is) -/

/-! SHORT WORDS over the layer: a def of the text, its body, what a loop and a test want. -/
namespace L2
open PySem PySem.Spec PyProof.Rows

/-! ### the text by places -/
def defArgs (s : Stmt) : Arguments := match s with
  | .FunctionDef _ a _ _ _ _ _ _ _ _ => a
  | _ => { posonlyargs := [], args := [], vararg := none, kwonlyargs := [], kw_defaults := [], kwarg := none, defaults := [] }
def defBody (s : Stmt) : List Stmt := match s with
  | .FunctionDef _ _ b _ _ _ _ _ _ _ => b
  | _ => []
def defScope (s : Stmt) : Scope := match s with
  | .FunctionDef _ _ _ _ _ _ sc _ _ _ => sc
  | _ => { kind := .function, names := [], isGenerator := false, isCoroutine := false }

/-! ### no exception leaves a def -/
abbrev CX0 : CXT := fun _ _ _ _ _ _ => False
abbrev E0 : XK := fun _ _ _ => False
theorem pass0 {X : Cx} : Passes CX0 X E0 := fun _ _ _ _ _ _ _ h => h.elim

/-! ### a def (or method) of the text as it stands behind the top -/
structure Fun (K : PySem.W.Frag) (x qual : Str) (st : Stmt) (f : Addr) (fd : FuncData) : Prop where
  ex : ∃ (oc : Value) (od : Option Addr) (kV doc pm : Value) (an : Option Addr) (cdv ct : Value) (osl : Array (Option Value)),
    fd = PySem.W.fnOf x qual (defArgs st) (defBody st) (defScope st) .none kV doc pm an cdv ct ∧ K.lookup f = some ⟨oc, od, .func fd, osl⟩ ∧ PySem.W.codeIn K cdv qual = true
  kp : PySem.W.keepIn K (.ref f) = true
section
variable {P : Program} {w : World} {K : PySem.W.Frag} {mg : Str → Option Value} {base : Heap}
/-- THE RULE for a def: its body as a term of rules, and the reading of that term -/
theorem Fun.ok {x qual : Str} {st : Stmt} {f : Addr} {fd : FuncData} {N ps : List Str} {k : Nat} {sp : Sp} (F : Fun K x qual st f fd) (S : FnScope N ps (defScope st)) (len : ∀ vs H Q E, sp vs H Q E → vs.length = ps.length)
    (hbody : ∀ (cdv : Value) (A : Around) (outer : List Env) (s : Shared) (H : Hp) (vs : List V) (Q : VK) (E : XK), Room k (A.deeper (envOfC qual (defScope st) s.heap.objs.size f cdv)) → sp vs H Q E →
      ∃ t, PSs (cxOf CX0 P w K mg base N qual (defScope st) f cdv A outer s H E).nox (defBody st) t ∧ t { nx := fun _ H' => Q .non H', rt := Q } (start N vs) H) : FnOk P w K mg base CX0 (k + 1) f fd ps sp := by
  obtain ⟨oc, od, kV, doc, pm, an, cdv, ct, osl, rfl, lk, hcd⟩ := F.ex
  refine fn_of lk hcd S len fun A outer s H vs Q E hr hsp => ?_
  obtain ⟨t, h, q⟩ := hbody cdv A outer s H vs Q E hr hsp
  exact ⟨t, h.nox, q⟩
/-- how its arguments bind (no defaults): h is «fun _ _ _ _ _ _ us hl => match us, hl with | [_, _], _ => rfl», one _ a parameter -/
theorem Fun.binds {x qual : Str} {st : Stmt} {f : Addr} {fd : FuncData} {ps : List Str} (F : Fun K x qual st f fd)
    (h : ∀ (kV doc pm : Value) (an : Option Addr) (cdv ct : Value) (us : List Value), us.length = ps.length → bindArgs (PySem.W.fnOf x qual (defArgs st) (defBody st) (defScope st) .none kV doc pm an cdv ct) ⟨us, []⟩ = pure (ps.zip us)) : Binds K fd ps [] := by
  obtain ⟨oc, od, kV, doc, pm, an, cdv, ct, osl, rfl, lk, hcd⟩ := F.ex
  exact .all (h kV doc pm an cdv ct)
theorem fun_mk {x qual : Str} {st : Stmt} {f : Addr} {oc : Value} {od an : Option Addr} {osl : Array (Option Value)} {kV doc pm cdv ct : Value} (l : K.lookup f = some ⟨oc, od, .func (PySem.W.fnOf x qual (defArgs st) (defBody st) (defScope st) .none kV doc pm an cdv ct), osl⟩)
    (c : PySem.W.codeIn K cdv qual = true) (k : PySem.W.keepIn K (.ref f) = true) : Fun K x qual st f (PySem.W.fnOf x qual (defArgs st) (defBody st) (defScope st) .none kV doc pm an cdv ct) := ⟨⟨oc, od, kV, doc, pm, an, cdv, ct, osl, rfl, l, c⟩, k⟩
end

/-! ### expressions in short: the name that stands in the i-th slot -/
section
variable {X : Cx}
theorem pv (i : Nat) {x : Str} {pos : Pos} (hN : X.N[i]? = some x := by rfl) (hv : Vis X.env.scope x := by first | exact Or.inl rfl | exact Or.inr (Or.inl rfl) | exact Or.inr (Or.inr rfl)) (hd : (x == ("__debug__" : Str)) = false := by decide)
    (hcd : (x == ("__classdict__" : Str)) = false := by decide) : PE X (.Name x pos) (tVar i) := pe_var hN hv hd hcd
end

/-! ### tests -/

/-! ### heaps -/
/-- all that was tracked is as it was -/
def Same (H H' : Hp) : Prop := ∀ b o, H b = some o → H' b = some o
theorem Same.refl (H : Hp) : Same H H := fun _ _ h => h
theorem Same.trans {H H1 H2 : Hp} (a : Same H H1) (b : Same H1 H2) : Same H H2 := fun c o h => b c o (a c o h)
theorem Same.free {H H' : Hp} (e : Same H H') {l : Addr} (h : H' l = Option.none) : H l = Option.none := by
  cases q : H l with
  | none => rfl
  | some o =>
    rw [e l o q] at h
    cases h
theorem Same.seq {K : PySem.W.Frag} {H H' : Hp} {a : Addr} {xs : List V} (e : Same H H') (h : SqL K H a xs) : SqL K H' a xs := by
  rcases h with (h | ⟨o, h⟩) | h
  · exact .inl (.inl (e _ _ h))
  · exact .inl (.inr ⟨o, e _ _ h⟩)
  · exact .inr h

end L2

set_option Elab.async false
set_option linter.all false
set_option maxRecDepth 100000
namespace FD
open PySem PySem.Spec PyProof.Rows L2

abbrev St := L2.St
/-! ### plain data: a value with all that it holds -/
inductive D where
  | non | bl (b : Bool) | int (i : Int) | str (x : Str) | lst (xs : List D) | tup (xs : List D) | scr (ns : List Int) | raw (v : V) | exc (c : Str)

/-- an answer: a value, a refusal by its class, or nothing is promised -/
inductive Rs (α : Type) where
  | ok (a : α) | ex (c : Str) | no
def Rs.bind {α β : Type} (r : Rs α) (k : α → Rs β) : Rs β := match r with
  | .ok a => k a
  | .ex c => .ex c
  | .no => .no
@[simp] theorem Rs.bind_ok {α β : Type} (a : α) (k : α → Rs β) : (Rs.ok a).bind k = k a := rfl

/-- at a stands an exception of the class that the module knows by the name c -/
def excIs (K : PySem.W.Frag) (a : Addr) (c : Str) : Heap → Prop := fun h => ∃ oe cls vs, h.get? a = some oe ∧ oe.cls = cls ∧ oe.dict = none ∧ oe.data = .fields vs ∧ PySem.W.nsIn K mainGlobals c = some (some cls)
section
variable (K : PySem.W.Frag)
mutual
/-- in the frozen heap F the value v is the datum d -/
def Rep (F : Hp) : D → V → Prop
  | .non, v => v = .non
  | .bl b, v => v = .bl b
  | .int i, v => v = .int i
  | .str x, v => v = .str x
  | .lst ds, v => ∃ a vs, v = .ref a ∧ F a = some (.lst vs) ∧ Reps F ds vs
  | .scr ns, v => ∃ a, v = .ref a ∧ SqL K F a (ns.map V.int)
  | .tup ds, v => ∃ a vs, v = .ref a ∧ SqT K F a vs ∧ Reps F ds vs
  | .raw u, v => v = u
  | .exc c, v => ∃ a, v = .ref a ∧ F a = some (.ext (excIs K a c))
def Reps (F : Hp) : List D → List V → Prop
  | [], vs => vs = []
  | d :: ds, vs => ∃ v r, vs = v :: r ∧ Rep F d v ∧ Reps F ds r
end
end
theorem Same.refl (H : Hp) : Same H H := fun _ _ h => h
theorem Same.seqT {K : PySem.W.Frag} {H H' : Hp} {a : Addr} {xs : List V} (e : Same H H') (h : SqT K H a xs) : SqT K H' a xs := by
  rcases h with (h | ⟨o, h⟩) | h
  · exact .inl (.inl (e _ _ h))
  · exact .inl (.inr ⟨o, e _ _ h⟩)
  · exact .inr h
section
variable {K : PySem.W.Frag} {F F' : Hp}
mutual
theorem Rep.mono (h : Same F F') : ∀ {d : D} {v : V}, Rep K F d v → Rep K F' d v
  | .non, _, r => by simpa only [Rep] using r
  | .bl _, _, r => by simpa only [Rep] using r
  | .int _, _, r => by simpa only [Rep] using r
  | .str _, _, r => by simpa only [Rep] using r
  | .raw _, _, r => by simpa only [Rep] using r
  | .exc c, v, r => by
    simp only [Rep] at r ⊢
    obtain ⟨a, e, q⟩ := r
    exact ⟨a, e, h _ _ q⟩
  | .lst ds, v, r => by
    simp only [Rep] at r ⊢
    obtain ⟨a, vs, e, q, t⟩ := r
    exact ⟨a, vs, e, h _ _ q, Reps.mono h t⟩
  | .scr ns, v, r => by
    simp only [Rep] at r ⊢
    obtain ⟨a, e, q⟩ := r
    exact ⟨a, e, h.seq q⟩
  | .tup ds, v, r => by
    simp only [Rep] at r ⊢
    obtain ⟨a, vs, e, q, t⟩ := r
    exact ⟨a, vs, e, Same.seqT h q, Reps.mono h t⟩
theorem Reps.mono (h : Same F F') : ∀ {ds : List D} {vs : List V}, Reps K F ds vs → Reps K F' ds vs
  | [], _, r => by simpa only [Reps] using r
  | d :: ds, vs, r => by
    simp only [Reps] at r ⊢
    obtain ⟨v, r', e, q, t⟩ := r
    exact ⟨v, r', e, Rep.mono h q, Reps.mono h t⟩
end
theorem Reps.length : ∀ {ds : List D} {vs : List V}, Reps K F ds vs → ds.length = vs.length
  | [], _, r => by simp only [Reps] at r; subst r; rfl
  | d :: ds, _, r => by
    simp only [Reps] at r
    obtain ⟨v, r', rfl, _, t⟩ := r
    simp [Reps.length t]
theorem Reps.get : ∀ {ds : List D} {vs : List V} {i : Nat} {d : D}, Reps K F ds vs → ds[i]? = some d → ∃ v, vs[i]? = some v ∧ Rep K F d v
  | [], _, _, _, _, e => by simp at e
  | d :: ds, _, 0, _, r, e => by
    simp only [Reps] at r
    obtain ⟨v, r', rfl, q, t⟩ := r
    simp at e; subst e
    exact ⟨v, rfl, q⟩
  | d :: ds, _, i + 1, _, r, e => by
    simp only [Reps] at r
    obtain ⟨v, r', rfl, q, t⟩ := r
    obtain ⟨w, h1, h2⟩ := Reps.get (i := i) t (by simpa using e)
    exact ⟨w, by simpa using h1, h2⟩
theorem Reps.nil : Reps K F [] [] := by simp only [Reps]
theorem Reps.cons {d : D} {v : V} {ds : List D} {vs : List V} (h : Rep K F d v) (t : Reps K F ds vs) : Reps K F (d :: ds) (v :: vs) := by
  simp only [Reps]; exact ⟨v, vs, rfl, h, t⟩
theorem Reps.append : ∀ {ds es : List D} {vs ws : List V}, Reps K F ds vs → Reps K F es ws → Reps K F (ds ++ es) (vs ++ ws)
  | [], _, _, _, r, t => by simp only [Reps] at r; subst r; exact t
  | d :: ds, es, _, ws, r, t => by
    simp only [Reps] at r
    obtain ⟨v, r', rfl, q, u⟩ := r
    exact Reps.cons q (Reps.append u t)
theorem Reps.take : ∀ {ds : List D} {vs : List V} (n : Nat), Reps K F ds vs → Reps K F (ds.take n) (vs.take n)
  | _, _, 0, _ => by simp only [List.take_zero]; exact Reps.nil
  | [], _, n + 1, r => by simp only [Reps] at r; subst r; simp only [List.take_nil]; exact Reps.nil
  | d :: ds, _, n + 1, r => by
    simp only [Reps] at r
    obtain ⟨v, r', rfl, q, u⟩ := r
    exact Reps.cons q (Reps.take n u)
theorem Reps.drop : ∀ {ds : List D} {vs : List V} (n : Nat), Reps K F ds vs → Reps K F (ds.drop n) (vs.drop n)
  | _, _, 0, r => r
  | [], _, n + 1, r => by simp only [Reps] at r; subst r; simp only [List.drop_nil]; exact Reps.nil
  | d :: ds, _, n + 1, r => by
    simp only [Reps] at r
    obtain ⟨v, r', rfl, q, u⟩ := r
    exact Reps.drop n u
theorem Reps.reverse : ∀ {ds : List D} {vs : List V}, Reps K F ds vs → Reps K F ds.reverse vs.reverse
  | [], _, r => by simp only [Reps] at r; subst r; exact Reps.nil
  | d :: ds, _, r => by
    simp only [Reps] at r
    obtain ⟨v, r', rfl, q, u⟩ := r
    rw [List.reverse_cons, List.reverse_cons]
    exact Reps.append (Reps.reverse u) (Reps.cons q Reps.nil)
theorem Reps.set {d : D} {v : V} (h : Rep K F d v) : ∀ {ds : List D} {vs : List V} (i : Nat), Reps K F ds vs → Reps K F (ds.set i d) (vs.set i v)
  | [], _, _, r => by simp only [Reps] at r; subst r; exact Reps.nil
  | e :: ds, _, 0, r => by
    simp only [Reps] at r
    obtain ⟨w, r', rfl, q, u⟩ := r
    exact Reps.cons h u
  | e :: ds, _, i + 1, r => by
    simp only [Reps] at r
    obtain ⟨w, r', rfl, q, u⟩ := r
    exact Reps.cons q (Reps.set h i u)
theorem Reps.one {d : D} {vs : List V} (h : Reps K F [d] vs) : ∃ v, vs = [v] ∧ Rep K F d v := by
  simp only [Reps] at h
  obtain ⟨v, r, e, q, e2⟩ := h
  subst e2; exact ⟨v, e, q⟩
theorem Reps.two {d e : D} {vs : List V} (h : Reps K F [d, e] vs) : ∃ v w, vs = [v, w] ∧ Rep K F d v ∧ Rep K F e w := by
  simp only [Reps] at h
  obtain ⟨v, r, e1, q, w, r2, e2, q2, e3⟩ := h
  subst e3; subst e2; exact ⟨v, w, e1, q, q2⟩
theorem Reps.rep {ds : List D} {vs : List V} (h : Reps K F ds vs) : ∀ k : Nat, Reps K F (List.replicate k ds).flatten (List.replicate k vs).flatten
  | 0 => Reps.nil
  | k + 1 => by
    rw [List.replicate_succ, List.replicate_succ, List.flatten_cons, List.flatten_cons]
    exact Reps.append h (Reps.rep h k)
theorem Reps.ints : ∀ (ns : List Int), Reps K F (ns.map D.int) (ns.map V.int)
  | [] => Reps.nil
  | n :: r => Reps.cons (by simp only [Rep]) (Reps.ints r)
end

/-! ### how the heaps grow -/
structure Ext (F H F' H' : Hp) : Prop where
  ff : Same F F'
  hh : Same H H'
  fh : Same F' H'
  nw : ∀ a o, F' a = some o → F a = some o ∨ H a = none
theorem Ext.refl {F H : Hp} (h : Same F H) : Ext F H F H := ⟨Same.refl F, Same.refl H, h, fun _ _ e => .inl e⟩
theorem Ext.trans {F H F1 H1 F2 H2 : Hp} (a : Ext F H F1 H1) (b : Ext F1 H1 F2 H2) : Ext F H F2 H2 :=
  ⟨a.ff.trans b.ff, a.hh.trans b.hh, b.fh, fun c o e => by
    rcases b.nw c o e with q | q
    · exact a.nw c o q
    · cases z : H c with
      | none => exact .inr rfl
      | some u => rw [a.hh c u z] at q; cases q⟩
theorem none_of_same {F H : Hp} (h : Same F H) {a : Addr} (e : H a = none) : F a = none := by
  cases q : F a with
  | none => rfl
  | some o => rw [h a o q] at e; cases e
theorem same_upd {H : Hp} {p : Addr} {o : HO} (h : H p = none) : Same H (upd H p o) := fun b u q => by rw [upd_ne (ne_of_none q h)]; exact q
theorem same_upd2 {F H : Hp} {p : Addr} {o : HO} (h : Same F H) (hp : H p = none) : Same (upd F p o) (upd H p o) := fun b u q => by
  by_cases hb : b = p
  · subst hb; rw [upd_same] at q ⊢; exact q
  · rw [upd_ne hb] at q ⊢; exact h b u q
/-- a new frozen object -/
theorem Ext.new {F H : Hp} {p : Addr} {o : HO} (h : Same F H) (hp : H p = none) : Ext F H (upd F p o) (upd H p o) :=
  ⟨same_upd (none_of_same h hp), same_upd hp, same_upd2 h hp, fun a u e => by
    by_cases hb : a = p
    · subst hb; exact .inr hp
    · rw [upd_ne hb] at e; exact .inl e⟩
/-- a new object that is not frozen -/
theorem Ext.open {F H : Hp} {p : Addr} {o : HO} (h : Same F H) (hp : H p = none) : Ext F H F (upd H p o) :=
  ⟨Same.refl F, same_upd hp, h.trans (same_upd hp), fun a u e => .inl e⟩

/-! ### the names' data -/
inductive Sl where
  | val (d : D)
  /-- a list of this body's own, that it may still change -/
  | own (ds : List D)
abbrev DS := List (Option Sl)
structure RV (K : PySem.W.Frag) (F : Hp) (τ : DS) (σ : St) (H : Hp) : Prop where
  fh : Same F H
  len : τ.length = σ.length
  val : ∀ (i : Nat) (d : D), τ[i]? = some (some (.val d)) → ∃ v, σ[i]? = some (some v) ∧ Rep K F d v
  own : ∀ (i : Nat) (ds : List D), τ[i]? = some (some (.own ds)) → ∃ a vs, σ[i]? = some (some (.ref a)) ∧ H a = some (.lst vs) ∧ F a = none ∧ Reps K F ds vs
  dis : ∀ (i j : Nat) (ds es : List D) (a : Addr), i ≠ j → τ[i]? = some (some (.own ds)) → τ[j]? = some (some (.own es)) → σ[i]? = some (some (.ref a)) → σ[j]? = some (some (.ref a)) → False
theorem RV.ext {K : PySem.W.Frag} {F H F' H' : Hp} {τ : DS} {σ : St} (R : RV K F τ σ H) (x : Ext F H F' H') : RV K F' τ σ H' :=
  ⟨x.fh, R.len, fun i d e => by
    obtain ⟨v, h1, h2⟩ := R.val i d e
    exact ⟨v, h1, h2.mono x.ff⟩,
   fun i ds e => by
    obtain ⟨a, vs, h1, h2, h3, h4⟩ := R.own i ds e
    refine ⟨a, vs, h1, x.hh _ _ h2, ?_, h4.mono x.ff⟩
    cases q : F' a with
    | none => rfl
    | some o =>
      rcases x.nw a o q with z | z
      · rw [h3] at z; cases z
      · rw [h2] at z; exact absurd z (by simp),
   R.dis⟩
/-- the same with the body's frame: B all that stood at the entry, Z what was frozen then -/
structure RS (K : PySem.W.Frag) (B Z F : Hp) (τ : DS) (σ : St) (H : Hp) : Prop where
  rv : RV K F τ σ H
  bh : Same B H
  zf : Same Z F
  nb : ∀ a o, F a = some o → Z a = some o ∨ B a = none
  ob : ∀ (i : Nat) (ds : List D) (a : Addr), τ[i]? = some (some (.own ds)) → σ[i]? = some (some (.ref a)) → B a = none
theorem RS.ext {K : PySem.W.Frag} {B Z F H F' H' : Hp} {τ : DS} {σ : St} (R : RS K B Z F τ σ H) (x : Ext F H F' H') : RS K B Z F' τ σ H' :=
  ⟨R.rv.ext x, R.bh.trans x.hh, R.zf.trans x.ff, fun a o e => by
    rcases x.nw a o e with q | q
    · exact R.nb a o q
    · exact .inr (none_of_same R.bh q), R.ob⟩
/-- behind the body: all that the caller knows -/
theorem RS.out {K : PySem.W.Frag} {B Z F H : Hp} {τ : DS} {σ : St} (R : RS K B Z F τ σ H) : Ext Z B F H := ⟨R.zf, R.bh, R.rv.fh, R.nb⟩

/-! ### readings of plain data -/
/-- what is asked where a refusal of class c leaves the code -/
def Xob (X : Cx) (c : Str) : Prop := ∀ e s', X.xe e s'
def Ok (X : Cx) {α : Type} (r : Rs α) (P : α → Prop) : Prop := match r with
  | .ok a => P a
  | .ex c => Xob X c
  | .no => False
theorem Ok.bind {X : Cx} {α β : Type} {r : Rs α} {k : α → Rs β} {P : β → Prop} (h : Ok X (r.bind k) P) : Ok X r fun a => Ok X (k a) P := by
  cases r <;> exact h
theorem Ok.imp {X : Cx} {α : Type} {r : Rs α} {P Q : α → Prop} (h : Ok X r P) (f : ∀ a, P a → Q a) : Ok X r Q := by
  cases r with
  | ok a => exact f a h
  | ex c => exact h
  | no => exact h
abbrev FE := DS → Rs D
abbrev FA := DS → Rs (List D)
abbrev FT := DS → Rs Bool
/-- what is asked of a value d behind an expression -/
def Ev (K : PySem.W.Frag) (F H : Hp) (Q : VK) (d : D) : Prop := ∀ v F' H', Ext F H F' H' → Rep K F' d v → Q v H'
def Evs (K : PySem.W.Frag) (F H : Hp) (Q : List V → Hp → Prop) (ds : List D) : Prop := ∀ vs F' H', Ext F H F' H' → Reps K F' ds vs → Q vs H'
def Evb (F H : Hp) (Q : Bool → Hp → Prop) (b : Bool) : Prop := ∀ F' H', Ext F H F' H' → Q b H'
theorem Ev.ext {K : PySem.W.Frag} {F H F1 H1 : Hp} {Q : VK} {d : D} (h : Ev K F H Q d) (x : Ext F H F1 H1) : Ev K F1 H1 Q d := fun v F' H' y r => h v F' H' (x.trans y) r
theorem Evs.ext {K : PySem.W.Frag} {F H F1 H1 : Hp} {Q : List V → Hp → Prop} {d : List D} (h : Evs K F H Q d) (x : Ext F H F1 H1) : Evs K F1 H1 Q d := fun v F' H' y r => h v F' H' (x.trans y) r
theorem Evb.ext {F H F1 H1 : Hp} {Q : Bool → Hp → Prop} {d : Bool} (h : Evb F H Q d) (x : Ext F H F1 H1) : Evb F1 H1 Q d := fun F' H' y => h F' H' (x.trans y)
def tE (X : Cx) (f : FE) : TE := fun σ H Q => ∃ F τ, RV X.K F τ σ H ∧ Ok X (f τ) (Ev X.K F H Q)
def tAs (X : Cx) (f : FA) : TA := fun σ H Q => ∃ F τ, RV X.K F τ σ H ∧ Ok X (f τ) (Evs X.K F H Q)
def tTs (X : Cx) (f : FT) : TT := fun σ H Q => ∃ F τ, RV X.K F τ σ H ∧ Ok X (f τ) (Evb F H Q)
def PDE (X : Cx) (e : Expr) (f : FE) : Prop := PE X e (tE X f)
def PDA (X : Cx) (e : List Expr) (f : FA) : Prop := PA X e (tAs X f)
def PDT (X : Cx) (e : Expr) (f : FT) : Prop := PT X e (tTs X f)
def PDW (X : Cx) (e : Expr) (f : FT) : Prop := PW X e (tTs X f)
theorem _root_.L2.PE.imp {X : Cx} {e : Expr} {t t' : TE} (h : PE X e t) (f : ∀ σ H Q, t' σ H Q → t σ H Q) : PE X e t' := fun pins s σ H Q I q => h pins s σ H Q I (f _ _ _ q)
theorem _root_.L2.PT.imp {X : Cx} {e : Expr} {t t' : TT} (h : PT X e t) (f : ∀ σ H Q, t' σ H Q → t σ H Q) : PT X e t' := fun pins s σ H Q I q => h pins s σ H Q I (f _ _ _ q)
theorem _root_.L2.PW.imp {X : Cx} {e : Expr} {t t' : TT} (h : PW X e t) (f : ∀ σ H Q, t' σ H Q → t σ H Q) : PW X e t' := fun w pins s σ H Q I q => h w pins s σ H Q I (f _ _ _ q)
theorem _root_.L2.PA.imp {X : Cx} {e : List Expr} {t t' : TA} (h : PA X e t) (f : ∀ σ H Q, t' σ H Q → t σ H Q) : PA X e t' := fun p pins s σ H Q I q => h p pins s σ H Q I (f _ _ _ q)
theorem _root_.L2.PS.imp {X : Cx} {e : Stmt} {t t' : TS} (h : PS X e t) (f : ∀ E σ H, t' E σ H → t E σ H) : PS X e t' := fun pins s σ H Q I q => h pins s σ H Q I (f _ _ _ q)
theorem _root_.L2.PSs.imp {X : Cx} {e : List Stmt} {t t' : TS} (h : PSs X e t) (f : ∀ E σ H, t' E σ H → t E σ H) : PSs X e t' := fun pins s σ H Q I q => h pins s σ H Q I (f _ _ _ q)

/-- one part, then the rest: the part's reading from the whole's -/
theorem tE.of {X : Cx} {f : FE} {F H : Hp} {τ : DS} {σ : St} {Q : VK} {G : D → Prop} (R : RV X.K F τ σ H) (h : Ok X (f τ) G)
    (k : ∀ d v F1 H1, G d → Ext F H F1 H1 → RV X.K F1 τ σ H1 → Rep X.K F1 d v → Q v H1) : tE X f σ H Q :=
  ⟨F, τ, R, h.imp fun d g v F1 H1 x r => k d v F1 H1 g x (R.ext x) r⟩
theorem tAs.of {X : Cx} {f : FA} {F H : Hp} {τ : DS} {σ : St} {Q : List V → Hp → Prop} {G : List D → Prop} (R : RV X.K F τ σ H) (h : Ok X (f τ) G)
    (k : ∀ d v F1 H1, G d → Ext F H F1 H1 → RV X.K F1 τ σ H1 → Reps X.K F1 d v → Q v H1) : tAs X f σ H Q :=
  ⟨F, τ, R, h.imp fun d g v F1 H1 x r => k d v F1 H1 g x (R.ext x) r⟩
theorem tTs.of {X : Cx} {f : FT} {F H : Hp} {τ : DS} {σ : St} {Q : Bool → Hp → Prop} {G : Bool → Prop} (R : RV X.K F τ σ H) (h : Ok X (f τ) G)
    (k : ∀ b F1 H1, G b → Ext F H F1 H1 → RV X.K F1 τ σ H1 → Q b H1) : tTs X f σ H Q :=
  ⟨F, τ, R, h.imp fun d g F1 H1 x => k d F1 H1 g x (R.ext x)⟩

/-! ### names, constants -/
def eVar (i : Nat) : FE := fun τ => match τ[i]? with
  | some (some (.val d)) => .ok d
  | _ => .no
section
variable {X : Cx} {pos : Pos}
theorem pde_var {i : Nat} {x : Str} (h : PE X (.Name x pos) (tVar i)) : PDE X (.Name x pos) (eVar i) := h.imp fun σ H Q ⟨F, τ, R, q⟩ => by
  unfold eVar at q
  cases e : τ[i]? with
  | none => rw [e] at q; exact q.elim
  | some o =>
    cases o with
    | none => rw [e] at q; exact q.elim
    | some sl =>
      cases sl with
      | own ds => rw [e] at q; exact q.elim
      | val d =>
        rw [e] at q
        obtain ⟨v, h1, h2⟩ := R.val i d e
        exact ⟨v, h1, q v F H (Ext.refl R.fh) h2⟩
def eC (d : D) : FE := fun _ => .ok d
theorem pde_c {e : Expr} {v : V} {d : D} (h : PE X e (tC v)) (r : ∀ F, Rep X.K F d v) : PDE X e (eC d) := h.imp fun σ H Q ⟨F, τ, R, q⟩ => q v F H (Ext.refl R.fh) (r F)
theorem pde_int {i j} : PDE X (.Constant (.int i) j pos) (eC (.int i)) := pde_c pe_int fun _ => by simp only [Rep]
theorem pde_bl {i j} : PDE X (.Constant (.bool i) j pos) (eC (.bl i)) := pde_c pe_bl fun _ => by simp only [Rep]
theorem pde_str {i j} : PDE X (.Constant (.str i) j pos) (eC (.str i)) := pde_c pe_str fun _ => by simp only [Rep]
end
end FD

set_option Elab.async false
set_option linter.all false
set_option maxRecDepth 100000
namespace FD
open PySem PySem.Spec PyProof.Rows L2

/-! ### two-place operations -/
def OpD (X : Cx) (g : Value → Value → Sem Value) (op : D → D → Rs D) : Prop := ∃ r : R2, OpR X g r ∧
  ∀ F H x y dx dy Q, Same F H → Rep X.K F dx x → Rep X.K F dy y → Ok X (op dx dy) (Ev X.K F H Q) → r x y H Q
def eOp (op : D → D → Rs D) (fa fb : FE) : FE := fun τ => (fa τ).bind fun x => (fb τ).bind fun y => op x y
section
variable {X : Cx} {pos : Pos} {a b c : Expr} {fa fb fc : FE}
theorem op_of {r : R2} {op : D → D → Rs D} (hl : ∀ F H x y dx dy Q, Same F H → Rep X.K F dx x → Rep X.K F dy y → Ok X (op dx dy) (Ev X.K F H Q) → r x y H Q)
    (σ : St) (H : Hp) (Q : VK) (h : tE X (eOp op fa fb) σ H Q) : tOp r (tE X fa) (tE X fb) σ H Q := by
  obtain ⟨F, τ, R, h⟩ := h
  refine tE.of R h.bind fun x u F1 H1 g x1 R1 r1 => ?_
  refine tE.of R1 g.bind fun y v F2 H2 g2 x2 R2 r2 => ?_
  exact hl F2 H2 u v x y Q R2.fh (r1.mono x2.ff) r2 (g2.imp fun d e => e.ext (x1.trans x2))
theorem pde_op {o : Operator} {op : D → D → Rs D} (ho : OpD X (binaryOp o) op) (ha : PDE X a fa) (hb : PDE X b fb) : PDE X (.BinOp a o b pos) (eOp op fa fb) := by
  obtain ⟨r, h1, h2⟩ := ho
  exact (pe_op h1 ha hb).imp (op_of h2)
theorem pde_cmp {o : CmpOp} {op : D → D → Rs D} (ho : OpD X (compareOp o) op) (ha : PDE X a fa) (hb : PDE X b fb) (hm : behindInMarks o b = false) : PDE X (.Compare a [o] [b] pos) (eOp op fa fb) := by
  obtain ⟨r, h1, h2⟩ := ho
  exact (pe_cmpR h1 ha hb hm).imp (op_of h2)
/-- a value that is a bool, as a test -/
def tB (f : FE) : FT := fun τ => (f τ).bind fun d => match d with
  | .bl b => .ok b
  | _ => .no
theorem test_of {t : FE} {u : TE} (hi : ∀ σ H Q, tE X t σ H Q → u σ H Q) (σ : St) (H : Hp) (Q : Bool → Hp → Prop) (h : tTs X (tB t) σ H Q) : tTest u σ H Q := by
  obtain ⟨F, τ, R, h⟩ := h
  refine hi σ H _ (tE.of R h.bind fun d v F1 H1 g x R1 r => ?_)
  cases d with
  | bl k => simp only [Rep] at r; exact ⟨k, r, g F1 H1 x⟩
  | _ => exact g.elim
theorem pdt_cmp {o : CmpOp} {op : D → D → Rs D} (ho : OpD X (compareOp o) op) (ha : PDE X a fa) (hb : PDE X b fb) (hm : behindInMarks o b = false) : PDT X (.Compare a [o] [b] pos) (tB (eOp op fa fb)) := by
  obtain ⟨r, h1, h2⟩ := ho
  exact (pt_cmpR h1 ha hb hm).imp (test_of (op_of h2))

/-! ### truth -/
def truD : D → Rs Bool
  | .non => .ok false
  | .bl b => .ok b
  | .int i => .ok (i != 0)
  | .str x => if x.length ≤ sizeLine then .ok ((x.length : Int) != 0) else .no
  | .lst ds => .ok (!ds.isEmpty)
  | .tup ds => .ok (!ds.isEmpty)
  | .scr ns => .ok (!ns.isEmpty)
  | .raw _ => .no
  | .exc _ => .no
theorem isEmpty_reps {K : PySem.W.Frag} {F : Hp} {ds : List D} {vs : List V} (h : Reps K F ds vs) : ds.isEmpty = vs.isEmpty := by
  have := h.length
  cases ds <;> cases vs <;> simp_all
theorem tru_of {F H : Hp} {d : D} {v : V} {Q : Bool → Hp → Prop} (fh : Same F H) (r : Rep X.K F d v) (h : Ok X (truD d) (fun b => Q b H)) : ∃ k, TruV X.K v H k ∧ Q k H := by
  cases d with
  | non => simp only [Rep] at r; subst r; exact ⟨_, rfl, h⟩
  | bl b => simp only [Rep] at r; subst r; exact ⟨_, rfl, h⟩
  | int i => simp only [Rep] at r; subst r; exact ⟨_, rfl, h⟩
  | str x =>
    simp only [Rep] at r; subst r
    simp only [truD] at h
    by_cases z : x.length ≤ sizeLine
    · rw [if_pos z] at h; exact ⟨_, ⟨z, rfl⟩, h⟩
    · rw [if_neg z] at h; exact h.elim
  | lst ds =>
    simp only [Rep] at r; obtain ⟨a, vs, rfl, e, q⟩ := r
    refine ⟨!vs.isEmpty, .inl ⟨vs, SqL.of (fh _ _ e), rfl⟩, ?_⟩
    rw [← isEmpty_reps q]; exact h
  | tup ds =>
    simp only [Rep] at r; obtain ⟨a, vs, rfl, e, q⟩ := r
    refine ⟨!vs.isEmpty, .inr (.inl ⟨vs, Same.seqT fh e, rfl⟩), ?_⟩
    rw [← isEmpty_reps q]; exact h
  | scr ns =>
    simp only [Rep] at r; obtain ⟨a, rfl, e⟩ := r
    refine ⟨!(ns.map V.int).isEmpty, .inl ⟨_, fh.seq e, rfl⟩, ?_⟩
    have e2 : (ns.map V.int).isEmpty = ns.isEmpty := by cases ns <;> rfl
    rw [e2]; exact h
  | raw u => exact h.elim
  | exc c => exact h.elim
def tTru (f : FE) : FT := fun τ => (f τ).bind truD
theorem pdt_tru (ha : PDE X a fa) (he : ∀ whole, isTrue a X.env whole = (do let v ← whole; standAt a.pos; holding [v] (truthy v)) := by intro _; rfl) : PDT X a (tTru fa) :=
  (pt_truth ha he).imp fun σ H Q ⟨F, τ, R, h⟩ => tE.of R h.bind fun d v F1 H1 g x R1 r => tru_of R1.fh r (g.imp fun b e => e F1 H1 x)

/-! ### and, or, not, if-else -/
def tAndD (f g : FT) : FT := fun τ => (f τ).bind fun b => if b = true then g τ else .ok false
def tOrD (f g : FT) : FT := fun τ => (f τ).bind fun b => if b = true then .ok true else g τ
def tNotD (f : FT) : FT := fun τ => (f τ).bind fun b => .ok (!b)
variable {ga gb : FT} {rest : List Expr}
theorem pdw_and1 (ha : PDT X a ga) : PDW X (.BoolOp .And [a] pos) ga := pw_and1 ha
theorem pdw_or1 (ha : PDT X a ga) : PDW X (.BoolOp .Or [a] pos) ga := pw_or1 ha
theorem pdw_and (ha : PDT X a ga) (hb : PDW X (.BoolOp .And (b :: rest) pos) gb) : PDW X (.BoolOp .And (a :: b :: rest) pos) (tAndD ga gb) :=
  PW.imp (pw_and ha hb) fun σ H Q ⟨F, τ, R, h⟩ => tTs.of R h.bind fun k F1 H1 g x R1 => by
    cases k with
    | true => rw [if_pos rfl]; rw [if_pos rfl] at g; exact ⟨F1, τ, R1, g.imp fun d e => e.ext x⟩
    | false => rw [if_neg (by simp)]; rw [if_neg (by simp)] at g; exact g F1 H1 x
theorem pdw_or (ha : PDT X a ga) (hb : PDW X (.BoolOp .Or (b :: rest) pos) gb) : PDW X (.BoolOp .Or (a :: b :: rest) pos) (tOrD ga gb) :=
  PW.imp (pw_or ha hb) fun σ H Q ⟨F, τ, R, h⟩ => tTs.of R h.bind fun k F1 H1 g x R1 => by
    cases k with
    | false => rw [if_neg (by simp)]; rw [if_neg (by simp)] at g; exact ⟨F1, τ, R1, g.imp fun d e => e.ext x⟩
    | true => rw [if_pos rfl]; rw [if_pos rfl] at g; exact g F1 H1 x
theorem pdt_w {e : Expr} (h : PDW X e ga) : PDT X e ga := PW.pt h
theorem pdt_not (ha : PDT X a ga) : PDT X (.UnaryOp .Not a pos) (tNotD ga) :=
  PT.imp (pt_not ha) fun σ H Q ⟨F, τ, R, h⟩ => tTs.of R h.bind fun k F1 H1 g x R1 => g F1 H1 x
def eIf (g : FT) (fa fb : FE) : FE := fun τ => (g τ).bind fun b => if b = true then fa τ else fb τ
/-- and, or, not as values -/
def eAnd (fa fb : FE) : FE := fun τ => (fa τ).bind fun x => (truD x).bind fun b => if b = true then fb τ else .ok x
def eOr (fa fb : FE) : FE := fun τ => (fa τ).bind fun x => (truD x).bind fun b => if b = true then .ok x else fb τ
def eNot (fa : FE) : FE := fun τ => (fa τ).bind fun x => (truD x).bind fun b => .ok (.bl (!b))
theorem pde_one {op} (h : PDE X a fa) : PDE X (.BoolOp op [a] pos) fa := pe_one h
theorem pde_and (ha : PDE X a fa) (hb : PDE X (.BoolOp .And (b :: rest) pos) fb) : PDE X (.BoolOp .And (a :: b :: rest) pos) (eAnd fa fb) := by
  intro pins s σ H Q I ⟨F, τ, R, h⟩
  refine BoolOp_and (thn (ha pins s σ H _ I (tE.of R h.bind fun d v F1 H1 g x R1 r => (⟨d, F1, g, x, R1, r⟩ : ∃ d F1, Ok X ((truD d).bind fun b => if b = true then fb τ else .ok d) (Ev X.K F H Q) ∧ Ext F H F1 H1 ∧ RV X.K F1 τ σ H1 ∧ Rep X.K F1 d v))) fun v s1 ⟨x, H1, I1, r1, d, F1, g, x1, R1, r⟩ => ?_)
  refine thn (tru_ok pins s1 σ H1 x v (fun b H2 => H2 = H1 ∧ Ok X (if b = true then fb τ else .ok d) (Ev X.K F H Q)) I1 r1 (tru_of (Q := fun b H2 => H2 = H1 ∧ Ok X (if b = true then fb τ else .ok d) (Ev X.K F H Q)) R1.fh r (g.bind.imp fun b e => ⟨rfl, e⟩))) fun k s2 ⟨H2, I2, e2, q⟩ => ?_
  subst e2
  cases k with
  | true => rw [if_pos rfl] at q ⊢; exact hb pins s2 σ _ Q I2 ⟨F1, τ, R1, q.imp fun d e => e.ext x1⟩
  | false => rw [if_neg (by simp)] at q ⊢; exact ⟨x, _, I2, r1, q x F1 _ x1 r⟩
theorem pde_or (ha : PDE X a fa) (hb : PDE X (.BoolOp .Or (b :: rest) pos) fb) : PDE X (.BoolOp .Or (a :: b :: rest) pos) (eOr fa fb) := by
  intro pins s σ H Q I ⟨F, τ, R, h⟩
  refine BoolOp_or (thn (ha pins s σ H _ I (tE.of R h.bind fun d v F1 H1 g x R1 r => (⟨d, F1, g, x, R1, r⟩ : ∃ d F1, Ok X ((truD d).bind fun b => if b = true then .ok d else fb τ) (Ev X.K F H Q) ∧ Ext F H F1 H1 ∧ RV X.K F1 τ σ H1 ∧ Rep X.K F1 d v))) fun v s1 ⟨x, H1, I1, r1, d, F1, g, x1, R1, r⟩ => ?_)
  refine thn (tru_ok pins s1 σ H1 x v (fun b H2 => H2 = H1 ∧ Ok X (if b = true then .ok d else fb τ) (Ev X.K F H Q)) I1 r1 (tru_of (Q := fun b H2 => H2 = H1 ∧ Ok X (if b = true then .ok d else fb τ) (Ev X.K F H Q)) R1.fh r (g.bind.imp fun b e => ⟨rfl, e⟩))) fun k s2 ⟨H2, I2, e2, q⟩ => ?_
  subst e2
  cases k with
  | false => rw [if_neg (by simp)] at q ⊢; exact hb pins s2 σ _ Q I2 ⟨F1, τ, R1, q.imp fun d e => e.ext x1⟩
  | true => rw [if_pos rfl] at q ⊢; exact ⟨x, _, I2, r1, q x F1 _ x1 r⟩
theorem pde_not (ha : PDE X a fa) : PDE X (.UnaryOp .Not a pos) (eNot fa) := by
  intro pins s σ H Q I ⟨F, τ, R, h⟩
  refine UnaryOp_ (thn (ha pins s σ H _ I (tE.of R h.bind fun d v F1 H1 g x R1 r => (⟨d, F1, g, x, R1, r⟩ : ∃ d F1, Ok X ((truD d).bind fun b => .ok (.bl (!b))) (Ev X.K F H Q) ∧ Ext F H F1 H1 ∧ RV X.K F1 τ σ H1 ∧ Rep X.K F1 d v))) fun v s1 ⟨x, H1, I1, r1, d, F1, g, x1, R1, r⟩ => ?_)
  refine not_of (thn (tru_ok pins s1 σ H1 x v (fun b H2 => H2 = H1 ∧ Ok X (.ok (.bl (!b))) (Ev X.K F H Q)) I1 r1 (tru_of (Q := fun b H2 => H2 = H1 ∧ Ok X (.ok (.bl (!b))) (Ev X.K F H Q)) R1.fh r (g.bind.imp fun b e => ⟨rfl, e⟩))) fun k s2 ⟨H2, I2, e2, q⟩ => ?_)
  subst e2
  exact ⟨.bl (!k), _, I2, rfl, q (.bl (!k)) F1 _ x1 (by simp only [Rep])⟩
end
end FD

set_option Elab.async false
set_option linter.all false
set_option maxRecDepth 100000
namespace FD
open PySem PySem.Spec PyProof.Rows L2

/-! ### argument lists, displays -/
section
variable {X : Cx} {pos : Pos} {e : Expr} {es : List Expr} {fe : FE} {fs : FA}
def aNil : FA := fun _ => .ok []
def aCons (f : FE) (g : FA) : FA := fun τ => (f τ).bind fun x => (g τ).bind fun r => .ok (x :: r)
theorem pda_nil : PDA X [] aNil := PA.imp pa_nil fun σ H Q ⟨F, τ, R, h⟩ => h [] F H (Ext.refl R.fh) Reps.nil
theorem pda_cons (ha : PDE X e fe) (hr : PDA X es fs) (hs : starEach (e :: es) X.env = (false, eval e X.env) :: starEach es X.env := by rfl) : PDA X (e :: es) (aCons fe fs) :=
  PA.imp (pa_cons ha hr hs) fun σ H Q ⟨F, τ, R, h⟩ => tE.of R h.bind fun x v F1 H1 g x1 R1 r1 => tAs.of R1 g.bind fun ys vs F2 H2 g2 x2 R2 r2 =>
    g2 (v :: vs) F2 H2 (x1.trans x2) (Reps.cons (r1.mono x2.ff) r2)
def eLst (f : FA) : FE := fun τ => (f τ).bind fun ds => if ds.length ≤ sizeLine then .ok (.lst ds) else .no
theorem ok_ite {X : Cx} {α : Type} {c : Prop} [Decidable c] {a : α} {P : α → Prop} (h : Ok X (if c then .ok a else .no) P) : c ∧ P a := by
  by_cases z : c
  · rw [if_pos z] at h; exact ⟨z, h⟩
  · rw [if_neg z] at h; exact h.elim
theorem pde_lst (h : PDA X es fs) : PDE X (.List es pos) (eLst fs) :=
  PE.imp (pe_lst h) fun σ H Q ⟨F, τ, R, hq⟩ => tAs.of R hq.bind fun ds vs F1 H1 g x R1 r => by
    obtain ⟨z, g⟩ := ok_ite g
    refine ⟨by rw [← r.length]; exact z, fun p hp => g (.ref p) _ _ (x.trans (Ext.new R1.fh hp)) ?_⟩
    simp only [Rep]
    exact ⟨p, vs, rfl, upd_same, r.mono (same_upd (none_of_same R1.fh hp))⟩
end

/-! ### statements -/
inductive Fl where
  | nx (τ : DS) | rt (d : D) | bk (τ : DS) | ct (τ : DS) | ex (c : Str) | no
  /-- an exception of this class leaves, the names being so -/
  | rs (c : Str) (τ : DS)
/-- an object made since the entry, that nothing knows -/
def Nw (X : Cx) (H : Hp) (b : Addr) : Prop := H b = none ∧ X.s₀.heap.get? b = none ∧ ∀ p ∈ X.pn, p.1 ≠ b
/-- an exception that was made since the entry stands at a: new, or with its last entry at T -/
def ExcAt (X : Cx) (H : Hp) (h : Heap) (a : Addr) (cls : Value) : Prop := Nw X H a ∧ ∃ oe vs, h.get? a = some oe ∧ oe.cls = cls ∧ oe.dict = none ∧ oe.data = .fields vs ∧
  (vs[1]? = some .none ∨ ∃ T oT ts, vs[1]? = some (.ref T) ∧ Nw X H T ∧ T ≠ a ∧ h.get? T = some oT ∧ oT.data = .fields ts ∧ ts[3]? = some .none) ∧ vs[2]? = some .none
/-- the context takes an exception of this class, the names and the heap being so -/
def XA (X : Cx) (c : Str) (σ : St) (H : Hp) : Prop := ∀ s a cls, PySem.W.nsIn X.K mainGlobals c = some (some cls) → Inv X [] σ H s → ExcAt X H s.heap a cls → X.xe (.ref a) s
abbrev FS := DS → Fl
def Post (X : Cx) (B Z F : Hp) (E : Ends) : Fl → Prop
  | .nx τ => ∀ σ F' H', Same F F' → RS X.K B Z F' τ σ H' → E.nx σ H'
  | .bk τ => ∀ σ F' H', Same F F' → RS X.K B Z F' τ σ H' → E.bk σ H'
  | .ct τ => ∀ σ F' H', Same F F' → RS X.K B Z F' τ σ H' → E.ct σ H'
  | .rt d => ∀ v F' H', Ext Z B F' H' → Rep X.K F' d v → E.rt v H'
  | .ex c => Xob X c
  | .no => False
  | .rs c τ => ∀ σ F' H', Same F F' → RS X.K B Z F' τ σ H' → XA X c σ H'
theorem Post.same {X : Cx} {B Z F F1 : Hp} {E : Ends} {r : Fl} (h : Post X B Z F E r) (f : Same F F1) : Post X B Z F1 E r := by
  cases r with
  | nx τ => exact fun σ F' H' g R => h σ F' H' (f.trans g) R
  | bk τ => exact fun σ F' H' g R => h σ F' H' (f.trans g) R
  | ct τ => exact fun σ F' H' g R => h σ F' H' (f.trans g) R
  | rt d => exact h
  | ex c => exact h
  | no => exact h
  | rs c τ => exact fun σ F' H' g R => h σ F' H' (f.trans g) R
def tS (X : Cx) (f : FS) : TS := fun E σ H => ∃ B Z F τ, RS X.K B Z F τ σ H ∧ Post X B Z F E (f τ)
def PDS (X : Cx) (st : Stmt) (f : FS) : Prop := PS X st (tS X f)
def PDSs (X : Cx) (st : List Stmt) (f : FS) : Prop := PSs X st (tS X f)
def Fl.of {α : Type} (r : Rs α) (k : α → Fl) : Fl := match r with
  | .ok a => k a
  | .ex c => .ex c
  | .no => .no
@[simp] theorem Fl.of_ok {α : Type} (a : α) (k : α → Fl) : Fl.of (.ok a) k = k a := rfl
theorem Post.of {X : Cx} {B Z F : Hp} {E : Ends} {α : Type} {r : Rs α} {k : α → Fl} (h : Post X B Z F E (Fl.of r k)) : Ok X r fun a => Post X B Z F E (k a) := by
  cases r <;> exact h
section
variable {X : Cx} {pos : Pos} {e : Expr} {es : List Expr} {fe : FE} {fs : FA} {st : Stmt} {rest : List Stmt} {f g : FS} {c : Expr} {gc : FT}
def sNext : FS := fun τ => .nx τ
def sSeq (f g : FS) : FS := fun τ => match f τ with
  | .nx τ' => g τ'
  | r => r
theorem pdss_nil : PDSs X [] sNext := PSs.imp pss_nil fun E σ H ⟨B, Z, F, τ, R, h⟩ => h σ F H (Same.refl F) R
theorem pdss_one (h : PDS X st f) : PDSs X [st] f := pss_one h
theorem pdss_cons (h1 : PDS X st f) (h2 : PDSs X rest g) : PDSs X (st :: rest) (sSeq f g) :=
  PSs.imp (pss_cons h1 h2) fun E σ H ⟨B, Z, F, τ, R, h⟩ => by
    refine ⟨B, Z, F, τ, R, ?_⟩
    unfold sSeq at h
    cases q : f τ with
    | nx τ' => rw [q] at h; exact fun σ' F' H' ff R' => ⟨B, Z, F', τ', R', Post.same h ff⟩
    | rt d => rw [q] at h; exact h
    | bk d => rw [q] at h; exact h
    | ct d => rw [q] at h; exact h
    | ex d => rw [q] at h; exact h
    | no => rw [q] at h; exact h
    | rs c d => rw [q] at h; exact h
def sRet (fe : FE) : FS := fun τ => Fl.of (fe τ) fun d => .rt d
/-- an expression within a statement -/
theorem tE.at {B Z F H : Hp} {τ : DS} {σ : St} {Q : VK} {G : D → Prop} (R : RS X.K B Z F τ σ H) (h : Ok X (fe τ) G)
    (k : ∀ d v F1 H1, G d → Ext F H F1 H1 → RS X.K B Z F1 τ σ H1 → Rep X.K F1 d v → Q v H1) : tE X fe σ H Q :=
  tE.of R.rv h fun d v F1 H1 g x _ r => k d v F1 H1 g x (R.ext x) r
theorem pds_ret (he : PDE X e fe) : PDS X (.Return (some e) pos) (sRet fe) :=
  PS.imp (ps_ret he) fun E σ H ⟨B, Z, F, τ, R, h⟩ => tE.at R h.of fun d v F1 H1 g x R1 r => g v F1 H1 R1.out r
def sIf (gc : FT) (f g : FS) : FS := fun τ => Fl.of (gc τ) fun b => if b = true then f τ else g τ
theorem pds_if {a b : List Stmt} (hc : PDT X c gc) (ha : PDSs X a f) (hb : PDSs X b g) : PDS X (.If c a b pos) (sIf gc f g) :=
  PS.imp (ps_if hc ha hb) fun E σ H ⟨B, Z, F, τ, R, h⟩ => tTs.of R.rv h.of fun k F1 H1 q x _ => by
    cases k with
    | true => rw [if_pos rfl] at q ⊢; exact ⟨B, Z, F1, τ, R.ext x, q.same x.ff⟩
    | false => rw [if_neg (by simp)] at q ⊢; exact ⟨B, Z, F1, τ, R.ext x, q.same x.ff⟩
/-! ### names are set -/
theorem RV.set {K : PySem.W.Frag} {F H : Hp} {τ : DS} {σ : St} {i : Nat} {d : D} {v : V} (R : RV K F τ σ H) (r : Rep K F d v) : RV K F (τ.set i (some (.val d))) (σ.set i (some v)) H := by
  refine ⟨R.fh, by simp [R.len], fun j e h => ?_, fun j es h => ?_, fun j k ds es a hjk h1 h2 h3 h4 => ?_⟩
  · by_cases hij : i = j
    · subst hij
      have hlt : i < τ.length := by
        rcases Nat.lt_or_ge i τ.length with z | z
        · exact z
        · rw [List.getElem?_eq_none_iff.mpr (by simpa using z)] at h; cases h
      rw [List.getElem?_set_self hlt] at h
      cases h
      exact ⟨v, by rw [List.getElem?_set_self (by rw [← R.len]; exact hlt)], r⟩
    · rw [List.getElem?_set_ne hij] at h ⊢
      exact R.val j e h
  · by_cases hij : i = j
    · subst hij
      rw [List.getElem?_set] at h
      simp only [if_true] at h
      split at h <;> cases h
    · rw [List.getElem?_set_ne hij] at h ⊢
      exact R.own j es h
  · have n1 : i ≠ j := fun z => by
      subst z
      rw [List.getElem?_set] at h1
      simp only [if_true] at h1
      split at h1 <;> cases h1
    have n2 : i ≠ k := fun z => by
      subst z
      rw [List.getElem?_set] at h2
      simp only [if_true] at h2
      split at h2 <;> cases h2
    rw [List.getElem?_set_ne n1] at h1 h3
    rw [List.getElem?_set_ne n2] at h2 h4
    exact R.dis j k ds es a hjk h1 h2 h3 h4
theorem RS.set {K : PySem.W.Frag} {B Z F H : Hp} {τ : DS} {σ : St} {i : Nat} {d : D} {v : V} (R : RS K B Z F τ σ H) (r : Rep K F d v) : RS K B Z F (τ.set i (some (.val d))) (σ.set i (some v)) H :=
  ⟨R.rv.set r, R.bh, R.zf, R.nb, fun j ds a h1 h2 => by
    have n1 : i ≠ j := fun z => by
      subst z
      rw [List.getElem?_set] at h1
      simp only [if_true] at h1
      split at h1 <;> cases h1
    rw [List.getElem?_set_ne n1] at h1 h2
    exact R.ob j ds a h1 h2⟩
def sSet (i : Nat) (fe : FE) : FS := fun τ => Fl.of (fe τ) fun d => .nx (τ.set i (some (.val d)))
theorem pds_set {i : Nat} {x : Str} {pos' : Pos} (hN : X.N.Nodup) (hi : X.N[i]? = some x) (hx : Loc X.env.scope x) (he : PDE X e fe) (hs : swapsWith e (some (.Name x pos')) pos.line X.env = pure false := by rfl) (hf : X.fn x = true ∨ X.env.scope.names.lookup x = some .local := by first | exact .inl rfl | exact .inr rfl | assumption) :
    PDS X (.Assign [.Name x pos'] e pos) (sSet i fe) :=
  PS.imp (ps_set hN hi hx he hs hf) fun E σ H ⟨B, Z, F, τ, R, h⟩ => tE.at R h.of fun d v F1 H1 g x R1 r => g _ F1 H1 x.ff (R1.set r)
/-! ### lists of the body's own -/
/-- an expression that makes a new list -/
def tFr (X : Cx) (f : FA) : TE := fun σ H Q => ∃ F τ, RV X.K F τ σ H ∧ Ok X (f τ) fun ds => ∀ p vs F' H', Ext F H F' H' → H' p = none → Reps X.K F' ds vs → Q (.ref p) (upd H' p (.lst vs))
def PDF (X : Cx) (e : Expr) (f : FA) : Prop := PE X e (tFr X f)
theorem pdf_lst (h : PDA X es fs) : PDF X (.List es pos) (fun τ => (fs τ).bind fun ds => if ds.length ≤ sizeLine then .ok ds else .no) :=
  PE.imp (pe_lst h) fun σ H Q ⟨F, τ, R, hq⟩ => tAs.of R hq.bind fun ds vs F1 H1 g x R1 r => by
    obtain ⟨z, g⟩ := ok_ite g
    exact ⟨by rw [← r.length]; exact z, fun p hp => g p vs F1 H1 x hp r⟩
theorem pde_fr {ff : FA} (h : PDF X e ff) : PDE X e (fun τ => (ff τ).bind fun ds => .ok (.lst ds)) :=
  PE.imp h fun σ H Q ⟨F, τ, R, hq⟩ => ⟨F, τ, R, hq.bind.imp fun ds g p vs F1 H1 x hp r => by
    refine g (.ref p) _ _ (x.trans (Ext.new x.fh hp)) ?_
    simp only [Rep]
    exact ⟨p, vs, rfl, upd_same, r.mono (same_upd (none_of_same x.fh hp))⟩⟩
def sSetO (i : Nat) (ff : FA) : FS := fun τ => Fl.of (ff τ) fun ds => .nx (τ.set i (some (.own ds)))
theorem RV.setO {K : PySem.W.Frag} {F H : Hp} {τ : DS} {σ : St} {i : Nat} {p : Addr} {ds : List D} {vs : List V} (R : RV K F τ σ H) (hp : H p = none) (r : Reps K F ds vs) : RV K F (τ.set i (some (.own ds))) (σ.set i (some (.ref p))) (upd H p (.lst vs)) := by
  have nofr := none_of_same R.fh hp
  have hlt : ∀ {o : Sl}, (τ.set i (some (.own ds)))[i]? = some (some o) → i < τ.length := fun {o} h => by
    rcases Nat.lt_or_ge i τ.length with z | z
    · exact z
    · rw [List.getElem?_eq_none_iff.mpr (by simpa using z)] at h; cases h
  refine ⟨R.fh.trans (same_upd hp), by simp [R.len], fun j e h => ?_, fun j es h => ?_, fun j k es es' a hjk h1 h2 h3 h4 => ?_⟩
  · by_cases hij : i = j
    · subst hij
      rw [List.getElem?_set_self (hlt h)] at h; cases h
    · rw [List.getElem?_set_ne hij] at h ⊢
      exact R.val j e h
  · by_cases hij : i = j
    · subst hij
      have l := hlt h
      rw [List.getElem?_set_self l] at h
      cases h
      exact ⟨p, vs, by rw [List.getElem?_set_self (by rw [← R.len]; exact l)], upd_same, nofr, r⟩
    · rw [List.getElem?_set_ne hij] at h ⊢
      obtain ⟨a, ws, q1, q2, q3, q4⟩ := R.own j es h
      exact ⟨a, ws, q1, by rw [upd_ne (ne_of_none q2 hp)]; exact q2, q3, q4⟩
  · by_cases n1 : i = j
    · subst n1
      rw [List.getElem?_set_ne hjk] at h2 h4
      obtain ⟨a', ws, q1, q2, q3, q4⟩ := R.own k es' h2
      rw [q1] at h4; cases h4
      have l := hlt h1
      rw [List.getElem?_set_self (by rw [← R.len]; exact l)] at h3
      cases h3
      rw [hp] at q2; cases q2
    · by_cases n2 : i = k
      · subst n2
        rw [List.getElem?_set_ne (Ne.symm hjk)] at h1 h3
        obtain ⟨a', ws, q1, q2, q3, q4⟩ := R.own j es h1
        rw [q1] at h3; cases h3
        have l := hlt h2
        rw [List.getElem?_set_self (by rw [← R.len]; exact l)] at h4
        cases h4
        rw [hp] at q2; cases q2
      · rw [List.getElem?_set_ne n1] at h1 h3
        rw [List.getElem?_set_ne n2] at h2 h4
        exact R.dis j k es es' a hjk h1 h2 h3 h4
theorem RS.setO {K : PySem.W.Frag} {B Z F H : Hp} {τ : DS} {σ : St} {i : Nat} {p : Addr} {ds : List D} {vs : List V} (R : RS K B Z F τ σ H) (hp : H p = none) (r : Reps K F ds vs) : RS K B Z F (τ.set i (some (.own ds))) (σ.set i (some (.ref p))) (upd H p (.lst vs)) :=
  ⟨R.rv.setO hp r, R.bh.trans (same_upd hp), R.zf, R.nb, fun j es a h1 h2 => by
    by_cases n1 : i = j
    · subst n1
      have l : i < τ.length := by
        rcases Nat.lt_or_ge i τ.length with z | z
        · exact z
        · rw [List.getElem?_eq_none_iff.mpr (by simpa using z)] at h1; cases h1
      rw [List.getElem?_set_self (by rw [← R.rv.len]; exact l)] at h2
      cases h2
      exact none_of_same R.bh hp
    · rw [List.getElem?_set_ne n1] at h1 h2
      exact R.ob j es a h1 h2⟩
theorem pds_setO {i : Nat} {x : Str} {pos' : Pos} {ff : FA} (hN : X.N.Nodup) (hi : X.N[i]? = some x) (hx : Loc X.env.scope x) (he : PDF X e ff) (hs : swapsWith e (some (.Name x pos')) pos.line X.env = pure false := by rfl) (hf : X.fn x = true ∨ X.env.scope.names.lookup x = some .local := by first | exact .inl rfl | exact .inr rfl | assumption) :
    PDS X (.Assign [.Name x pos'] e pos) (sSetO i ff) :=
  PS.imp (ps_set hN hi hx he hs hf) fun E σ H ⟨B, Z, F, τ, R, h⟩ => ⟨F, τ, R.rv, h.of.imp fun ds g p vs F1 H1 x hp r => g _ F1 _ x.ff ((R.ext x).setO hp r)⟩
/-- the list's items have changed -/
theorem RV.own_upd {K : PySem.W.Frag} {F H : Hp} {τ : DS} {σ : St} {i : Nat} {p : Addr} {ds es : List D} {ws : List V} (R : RV K F τ σ H) (h : τ[i]? = some (some (.own ds))) (hp : σ[i]? = some (some (.ref p))) (r : Reps K F es ws) :
    RV K F (τ.set i (some (.own es))) σ (upd H p (.lst ws)) := by
  obtain ⟨a, vs, q1, q2, q3, q4⟩ := R.own i ds h
  rw [q1] at hp; cases hp
  have l : i < τ.length := (List.getElem?_eq_some_iff.mp h).1
  refine ⟨fun b o e => ?_, by simp [R.len], fun j e h' => ?_, fun j es' h' => ?_, fun j k e1 e2 b hjk h1 h2 h3 h4 => ?_⟩
  · have n : b ≠ p := fun z => by subst z; rw [q3] at e; cases e
    rw [upd_ne n]; exact R.fh b o e
  · by_cases hij : i = j
    · subst hij; rw [List.getElem?_set_self l] at h'; cases h'
    · rw [List.getElem?_set_ne hij] at h'; exact R.val j e h'
  · by_cases hij : i = j
    · subst hij
      rw [List.getElem?_set_self l] at h'; cases h'
      exact ⟨p, ws, q1, upd_same, q3, r⟩
    · rw [List.getElem?_set_ne hij] at h'
      obtain ⟨a', vs', z1, z2, z3, z4⟩ := R.own j es' h'
      have n : a' ≠ p := fun z => by subst z; exact R.dis i j ds es' a' hij h h' q1 z1
      exact ⟨a', vs', z1, by rw [upd_ne n]; exact z2, z3, z4⟩
  · have : ∀ {m : Nat} {e : List D}, (τ.set i (some (.own es)))[m]? = some (some (.own e)) → ∃ e', τ[m]? = some (some (.own e')) := fun {m e} z => by
      by_cases him : i = m
      · subst him; exact ⟨ds, h⟩
      · rw [List.getElem?_set_ne him] at z; exact ⟨e, z⟩
    obtain ⟨x1, y1⟩ := this h1
    obtain ⟨x2, y2⟩ := this h2
    exact R.dis j k x1 x2 b hjk y1 y2 h3 h4
theorem RS.own_upd {K : PySem.W.Frag} {B Z F H : Hp} {τ : DS} {σ : St} {i : Nat} {p : Addr} {ds es : List D} {ws : List V} (R : RS K B Z F τ σ H) (h : τ[i]? = some (some (.own ds))) (hp : σ[i]? = some (some (.ref p))) (r : Reps K F es ws) :
    RS K B Z F (τ.set i (some (.own es))) σ (upd H p (.lst ws)) := by
  have hb := R.ob i ds p h hp
  refine ⟨R.rv.own_upd h hp r, fun b o e => ?_, R.zf, R.nb, fun j e a h1 h2 => ?_⟩
  · have n : b ≠ p := fun z => by subst z; rw [hb] at e; cases e
    rw [upd_ne n]; exact R.bh b o e
  · by_cases him : i = j
    · subst him; exact R.ob i ds a h h2
    · rw [List.getElem?_set_ne him] at h1; exact R.ob j e a h1 h2
def ownAt (τ : DS) (i : Nat) : Rs (List D) := match τ[i]? with
  | some (some (.own ds)) => .ok ds
  | _ => .no
theorem ownAt_ok {τ : DS} {i : Nat} {P : List D → Prop} (h : Ok X (ownAt τ i) P) : ∃ ds, τ[i]? = some (some (.own ds)) ∧ P ds := by
  unfold ownAt at h
  cases q : τ[i]? with
  | none => rw [q] at h; exact h.elim
  | some o =>
    cases o with
    | none => rw [q] at h; exact h.elim
    | some sl =>
      cases sl with
      | val d => rw [q] at h; exact h.elim
      | own ds => rw [q] at h; exact ⟨ds, rfl, h⟩
/-- x.append(e) -/
def sApp (i : Nat) (fe : FE) : FS := fun τ => Fl.of (ownAt τ i) fun ds => Fl.of (fe τ) fun d => if ds.length < sizeLine then .nx (τ.set i (some (.own (ds ++ [d])))) else .no
theorem pds_app {i : Nat} {x : Str} {p1 apos cpos : Pos} (hx : PE X (.Name x p1) (tVar i)) (he : PDE X e fe)
    (hfew : ((backTo cpos (starEach [e] X.env)).all (fun x => !x.1) && (backToKw cpos (keywordEach [] X.env)).all (fun x => x.1.isSome)
      && decide ([e].length + ([] : List Keyword).length + (if ([] : List Keyword).isEmpty then 0 else 1) < 30)) = true := by rfl)
    (hline : (apos.endLine == cpos.line) = true := by rfl) (hs : starEach [e] X.env = [(false, eval e X.env)] := by rfl) (hplain : (backTo cpos (starEach [] X.env)).any (·.1) = false := by rfl)
    (hbase : attributeBase (.Name x p1) "append" X.env (eval (.Name x p1) X.env) = eval (.Name x p1) X.env := by rfl)
    (hsw : swapsWith (.Call (.Attribute (.Name x p1) "append" apos) [e] [] cpos) none pos.line X.env = pure false := by rfl) :
    PDS X (.Expr (.Call (.Attribute (.Name x p1) "append" apos) [e] [] cpos) pos) (sApp i fe) :=
  PS.imp (ps_expr (pe_bm PySem.F.plainAttrs_list PySem.F.slot_list_append PySem.F.type_list_append mt_append hx (pa_cons he pa_nil (by rw [hs]; rfl)) hbase hfew hline (by rw [hs]; rfl) hplain) hsw) fun E σ H ⟨B, Z, F, τ, R, h⟩ => by
    obtain ⟨ds, h1, h2⟩ := ownAt_ok (X := X) (Post.of h)
    obtain ⟨a, vs, q1, q2, q3, q4⟩ := R.rv.own i ds h1
    refine ⟨_, q1, .inl ⟨rfl, vs, SqL.of q2⟩, ?_⟩
    refine tE.at R h2.of fun d v F1 H1 g x R1 r => ?_
    by_cases z : ds.length < sizeLine
    · rw [if_pos z] at g
      refine ⟨a, vs, v, rfl, rfl, x.hh _ _ q2, by rw [← q4.length]; exact z, ?_⟩
      exact g _ F1 _ x.ff (R1.own_upd h1 q1 ((q4.mono x.ff).append (Reps.cons r Reps.nil)))
    · rw [if_neg z] at g; exact g.elim
/-- x[i] = e, x a list of the body's own -/
def sPut (i : Nat) (fi fe : FE) : FS := fun τ => Fl.of (fe τ) fun d => Fl.of (ownAt τ i) fun ds => Fl.of (fi τ) fun k => match k with
  | .int k => match ixN ds.length k with
    | some j => .nx (τ.set i (some (.own (ds.set j d))))
    | none => .no
  | _ => .no
theorem pds_put {i : Nat} {x : Str} {p1 spos : Pos} {ix : Expr} {fi : FE} (hx : PE X (.Name x p1) (tVar i)) (hi : PDE X ix fi) (he : PDE X e fe)
    (ha : ∀ v, assign (.Subscript (.Name x p1) ix spos) X.env v = (do
      let ov ← holding [v] (eval (.Name x p1) X.env)
      let iv ← holding [v, ov] (eval ix X.env)
      standAt spos
      holding [v, ov, iv] (setItem ov iv v)
      release [v, ov, iv] []) := by intro _; rfl)
    (hs : swapsWithSole [.Subscript (.Name x p1) ix spos] e pos.line X.env = pure false := by rfl) (hw : swappedStores [.Subscript (.Name x p1) ix spos] e X.env = pure none := by rfl)
    (h1 : (assignEach [.Subscript (.Name x p1) ix spos] X.env).map (·.2) = [assign (.Subscript (.Name x p1) ix spos) X.env] := by rfl) :
    PDS X (.Assign [.Subscript (.Name x p1) ix spos] e pos) (sPut i fi fe) :=
  PS.imp (ps_asg he (pg_sub hx hi set_list ha) hs hw h1) fun E σ H ⟨B, Z, F, τ, R, h⟩ => by
    refine tE.at R h.of fun d v F1 H1 g x R1 r => ?_
    obtain ⟨ds, h1, h2⟩ := ownAt_ok (X := X) (Post.of g)
    obtain ⟨a, vs, q1, q2, q3, q4⟩ := R1.rv.own i ds h1
    refine ⟨_, q1, ?_⟩
    refine tE.at R1 h2.of fun k w F2 H2 g2 x2 R2 r2 => ?_
    cases k with
    | int k =>
      simp only [Rep] at r2
      simp only at g2
      cases q : ixN ds.length k with
      | none => rw [q] at g2; exact g2.elim
      | some j =>
        rw [q] at g2
        refine ⟨a, vs, k, j, rfl, r2, x2.hh _ _ q2, by rw [← q4.length]; exact q, ?_⟩
        exact g2 _ F2 _ (x.ff.trans x2.ff) (R2.own_upd h1 q1 (Reps.set (r.mono x2.ff) j (q4.mono x2.ff)))
    | _ => exact g2.elim
/-- return x, x a list of the body's own -/
def sRetO (i : Nat) : FS := fun τ => Fl.of (ownAt τ i) fun ds => .rt (.lst ds)
theorem pds_retO {i : Nat} {x : Str} {p1 : Pos} (hx : PE X (.Name x p1) (tVar i)) : PDS X (.Return (some (.Name x p1)) pos) (sRetO i) :=
  PS.imp (ps_ret hx) fun E σ H ⟨B, Z, F, τ, R, h⟩ => by
    obtain ⟨ds, h1, h2⟩ := ownAt_ok (X := X) (Post.of h)
    obtain ⟨a, vs, q1, q2, q3, q4⟩ := R.rv.own i ds h1
    have hb := R.ob i ds a h1 q1
    refine ⟨_, q1, h2 (.ref a) (upd F a (.lst vs)) H ⟨?_, R.bh, fun b o e => ?_, fun b o e => ?_⟩ ?_⟩
    · exact R.zf.trans (same_upd q3)
    · by_cases z : b = a
      · subst z; rw [upd_same] at e; cases e; exact q2
      · rw [upd_ne z] at e; exact R.rv.fh b o e
    · by_cases z : b = a
      · subst z; exact .inr hb
      · rw [upd_ne z] at e; exact R.nb b o e
    · simp only [Rep]
      exact ⟨a, vs, rfl, upd_same, q4.mono (same_upd q3)⟩
/-- x[i], x a list of the body's own; len(x) -/
def eIxO (i : Nat) (fi : FE) : FE := fun τ => (ownAt τ i).bind fun ds => (fi τ).bind fun k => match k with
  | .int k => match atI ds k with
    | some d => .ok d
    | none => .no
  | _ => .no
theorem atI_reps {K : PySem.W.Frag} {F : Hp} {ds : List D} {vs : List V} {k : Int} {d : D} (r : Reps K F ds vs) (h : atI ds k = some d) : ∃ v, atI vs k = some v ∧ Rep K F d v := by
  unfold atI at h ⊢
  rw [← r.length]
  cases q : ixN ds.length k with
  | none => rw [q] at h; cases h
  | some j =>
    rw [q] at h
    exact r.get h
theorem pde_ixO {i : Nat} {x : Str} {p1 : Pos} {ix : Expr} {fi : FE} (hx : PE X (.Name x p1) (tVar i)) (hi : PDE X ix fi) (hs : PlainIx ix := by intro _ _; rfl) : PDE X (.Subscript (.Name x p1) ix pos) (eIxO i fi) :=
  PE.imp (pe_ix ix_list hx hi hs) fun σ H Q ⟨F, τ, R, h⟩ => by
    obtain ⟨ds, h1, h2⟩ := ownAt_ok (X := X) (Ok.bind h)
    obtain ⟨a, vs, q1, q2, q3, q4⟩ := R.own i ds h1
    refine ⟨_, q1, ?_⟩
    refine tE.of R h2.bind fun k w F2 H2 g2 x2 R2 r2 => ?_
    cases k with
    | int k =>
      simp only [Rep] at r2
      simp only at g2
      cases q : atI ds k with
      | none => rw [q] at g2; exact g2.elim
      | some d =>
        rw [q] at g2
        obtain ⟨v, z1, z2⟩ := atI_reps q4 q
        exact ⟨a, vs, k, v, rfl, r2, SqL.of (x2.hh _ _ q2), z1, g2 v F2 H2 x2 (z2.mono x2.ff)⟩
    | _ => exact g2.elim
def eLenO (i : Nat) : FE := fun τ => (ownAt τ i).bind fun ds => .ok (.int ds.length)
theorem pde_lenO {i : Nat} {x : Str} {p1 p : Pos} (hx : PE X (.Name x p1) (tVar i)) (hg : Gl X "len") (hm : X.mg "len" = none)
    (he : starEach [.Name x p1] X.env = [(false, eval (.Name x p1) X.env)] := by rfl) (hpl : (backTo pos (starEach [] X.env)).any (·.1) = false := by rfl) : PDE X (.Call (.Name "len" p) [.Name x p1] [] pos) (eLenO i) :=
  PE.imp (pe_callB call_len_seq hg hm PySem.boot_len (pa_cons hx pa_nil (by rw [he]; rfl)) (he := by rw [he]; rfl) (hpl := hpl)) fun σ H Q ⟨F, τ, R, h⟩ => by
    obtain ⟨ds, h1, h2⟩ := ownAt_ok (X := X) (Ok.bind h)
    obtain ⟨a, vs, q1, q2, q3, q4⟩ := R.own i ds h1
    refine ⟨_, q1, a, vs, rfl, .inl (SqL.of q2), ?_⟩
    rw [← q4.length]
    exact h2 (.int ds.length) F H (Ext.refl R.fh) (by simp only [Rep])
end
end FD

set_option Elab.async false
set_option linter.all false
set_option maxRecDepth 100000
namespace FD
open PySem PySem.Spec PyProof.Rows L2

/-! ### what a loop goes through -/
def ItOk (K : PySem.W.Frag) (J : It) (F1 : Hp) (ds : List D) : Prop := ∀ (i : Nat) (F H : Hp), Same F1 F → Same F H →
  (ds.length ≤ i → J.stop i H) ∧ ∀ d, ds[i]? = some d → J.go i H ∧ ∀ x H', J.yld i H x H' → ∃ F', Ext F H F' H' ∧ Rep K F' d x
theorem ItOk.mono {K : PySem.W.Frag} {J : It} {F1 F2 : Hp} {ds : List D} (h : ItOk K J F1 ds) (f : Same F1 F2) : ItOk K J F2 ds := fun i F H a b => h i F H (f.trans a) b
def tI (X : Cx) (f : FA) : TI := fun σ H R => ∃ F τ, RV X.K F τ σ H ∧ Ok X (f τ) fun ds => ∀ J F1 H1, Ext F H F1 H1 → ItOk X.K J F1 ds → R J H1
def PDI (X : Cx) (tg iter : Expr) (f : FA) : Prop := PI X tg iter (tI X f)
theorem _root_.L2.PI.imp {X : Cx} {tg e : Expr} {t t' : TI} (h : PI X tg e t) (f : ∀ σ H Q, t' σ H Q → t σ H Q) : PI X tg e t' := fun pins s σ H Q I q => h pins s σ H Q I (f _ _ _ q)
section
variable {X : Cx} {pos : Pos} {e tg : Expr} {es : List Expr} {fe : FE} {fs : FA}
theorem it_list {K : PySem.W.Frag} {a : Addr} {F1 : Hp} {ds : List D} {vs : List V} (e : SqL K F1 a vs) (r : Reps K F1 ds vs) : ItOk K (Itl K a) F1 ds := fun i F H f1 f2 => by
  have q : SqL K H a vs := (f1.trans f2).seq e
  refine ⟨fun h => ⟨vs, q, by rw [← r.length]; exact h⟩, fun d hd => ?_⟩
  obtain ⟨v, h1, h2⟩ := r.get hd
  refine ⟨⟨vs, v, q, h1⟩, fun x H' y => ?_⟩
  obtain ⟨e1, y⟩ := y
  subst e1
  have h3 := y vs q
  rw [h1] at h3; cases h3
  exact ⟨F, Ext.refl f2, h2.mono f1⟩
theorem it_tup {K : PySem.W.Frag} {a : Addr} {F1 : Hp} {ds : List D} {vs : List V} (e : SqT K F1 a vs) (r : Reps K F1 ds vs) : ItOk K (Itt K a) F1 ds := fun i F H f1 f2 => by
  have q : SqT K H a vs := Same.seqT (f1.trans f2) e
  refine ⟨fun h => ⟨vs, q, by rw [← r.length]; exact h⟩, fun d hd => ?_⟩
  obtain ⟨v, h1, h2⟩ := r.get hd
  refine ⟨⟨vs, v, q, h1⟩, fun x H' y => ?_⟩
  obtain ⟨e1, y⟩ := y
  subst e1
  have h3 := y vs q
  rw [h1] at h3; cases h3
  exact ⟨F, Ext.refl f2, h2.mono f1⟩
def rngD (lo : Int) (n : Nat) : List D := (List.range n).map fun (k : Nat) => D.int (lo + k)
theorem it_rng {K : PySem.W.Frag} {F1 : Hp} {lo : Int} {n : Nat} : ItOk K (Itr lo n) F1 (rngD lo n) := fun i F H f1 f2 => by
  have hl : (rngD lo n).length = n := by simp [rngD]
  refine ⟨fun h => by rw [hl] at h; exact h, fun d hd => ?_⟩
  have hi : i < n := by have := (List.getElem?_eq_some_iff.mp hd).1; rw [hl] at this; exact this
  refine ⟨hi, fun x H' y => ?_⟩
  obtain ⟨e1, y⟩ := y
  subst e1
  refine ⟨F, Ext.refl f2, ?_⟩
  simp [rngD, hi] at hd
  subst hd
  simp only [Rep]; exact y
def int1 : List D → Option Int
  | [.int j] => some j
  | _ => none
def int2 : List D → Option (Int × Int)
  | [.int i, .int j] => some (i, j)
  | _ => none
def pair2 : D → Option (D × D)
  | .tup [x, y] => some (x, y)
  | _ => none
theorem int1_eq {ds : List D} {j : Int} (h : int1 ds = some j) : ds = [.int j] := by
  unfold int1 at h; split at h <;> cases h; rfl
theorem int2_eq {ds : List D} {i j : Int} (h : int2 ds = some (i, j)) : ds = [.int i, .int j] := by
  unfold int2 at h; split at h <;> cases h; rfl
theorem pair2_eq {d x y : D} (h : pair2 d = some (x, y)) : d = .tup [x, y] := by
  unfold pair2 at h; split at h <;> cases h; rfl
def iRg1 (fs : FA) : FA := fun τ => (fs τ).bind fun ds => match int1 ds with
  | some j => if -(2 ^ 62) ≤ j ∧ j < 2 ^ 62 then .ok (rngD 0 j.toNat) else .no
  | none => .no
theorem pdi_range1 {a : Expr} {p : Pos} (hg : Gl X "range") (hm : X.mg "range" = none) (ha : PDA X [a] fs) (hs : starEach [a] X.env = [(false, eval a X.env)] := by rfl) : PDI X tg (.Call (.Name "range" p) [a] [] pos) (iRg1 fs) :=
  PI.imp (pi_range1 hg hm ha hs) fun σ H R ⟨F, τ, Rv, h⟩ => tAs.of Rv h.bind fun ds vs F1 H1 g x R1 r => by
    cases q1 : int1 ds with
    | none => rw [q1] at g; exact g.elim
    | some j =>
      rw [q1] at g
      have e := int1_eq q1
      subst e
      obtain ⟨v, rfl, q⟩ := r.one
      simp only [Rep] at q; subst q
      obtain ⟨z, g⟩ := ok_ite g
      exact ⟨j, rfl, z.1, z.2, g _ F1 H1 x it_rng⟩

/-! ### targets -/
abbrev FG := D → DS → Rs DS
def tG (X : Cx) (set : FG) : TG := fun v σ H Q => ∃ F τ d, RV X.K F τ σ H ∧ Rep X.K F d v ∧ Ok X (set d τ) fun τ' => ∀ σ', RV X.K F τ' σ' H → (∀ B Z, RS X.K B Z F τ σ H → RS X.K B Z F τ' σ' H) → σ'.length = σ.length → Q σ' H
def PDG (X : Cx) (tg : Expr) (set : FG) : Prop := PG X tg (tG X set)
theorem _root_.L2.PG.imp {X : Cx} {e : Expr} {t t' : TG} (h : PG X e t) (f : ∀ v σ H Q, t' v σ H Q → t v σ H Q) : PG X e t' := fun pins s σ H v u Q I r q => h pins s σ H v u Q I r (f _ _ _ _ q)
def gNm (i : Nat) : FG := fun d τ => .ok (τ.set i (some (.val d)))
theorem pdg_name {i : Nat} {x : Str} (hN : X.N.Nodup) (hi : X.N[i]? = some x) (hx : Loc X.env.scope x) (hf : X.fn x = true ∨ X.env.scope.names.lookup x = some .local := by first | exact .inl rfl | exact .inr rfl | assumption) : PDG X (.Name x pos) (gNm i) :=
  PG.imp (pg_name hN hi hx hf) fun v σ H Q ⟨F, τ, d, R, r, h⟩ => h _ (R.set r) (fun B Z R' => R'.set r) (by simp)
/-- two names -/
def gPr (i j : Nat) : FG := fun d τ => match pair2 d with
  | some (x, y) => .ok ((τ.set i (some (.val x))).set j (some (.val y)))
  | none => .no
theorem pdg_pair {i j k : Nat} {x y : Str} {px py : Pos} (hc : X.calm = true) (hN : X.N.Nodup) (hi : X.N[i]? = some x) (hx : Loc X.env.scope x) (hj : X.N[j]? = some y) (hy : Loc X.env.scope y)
    (hf : X.fn x = true ∨ X.env.scope.names.lookup x = some .local := by first | exact .inl rfl | exact .inr rfl | assumption) (hf' : X.fn y = true ∨ X.env.scope.names.lookup y = some .local := by first | exact .inl rfl | exact .inr rfl | assumption) :
    PDG X (.Tuple [.Name x px, .Name y py] k pos) (gPr i j) :=
  PG.imp (pg_tup (n := 2) hc (pgs_cons (pg_name hN hi hx hf) (pgs_cons (pg_name hN hj hy hf') pgs_nil))) fun v σ H Q ⟨F, τ, d, R, r, h⟩ => by
    unfold gPr at h
    cases q1 : pair2 d with
    | none => rw [q1] at h; exact h.elim
    | some xy =>
      obtain ⟨x, y⟩ := xy
      rw [q1] at h
      have e := pair2_eq q1
      subst e
      simp only [Rep] at r
      obtain ⟨a, vs, rfl, q, t⟩ := r
      obtain ⟨v1, v2, rfl, r1, r2⟩ := t.two
      exact ⟨a, _, rfl, Same.seqT R.fh q, rfl, v1, [v2], rfl, v2, [], rfl, rfl, h _ ((R.set r1).set r2) (fun B Z R' => (R'.set r1).set r2) (by simp)⟩

/-! ### for -/
def loopD (set : FG) (body : FS) : List D → DS → Fl
  | [], τ => .nx τ
  | d :: r, τ => Fl.of (set d τ) fun τ1 => match body τ1 with
    | .nx τ' => loopD set body r τ'
    | .ct τ' => loopD set body r τ'
    | .bk τ' => .nx τ'
    | .rt d => .rt d
    | .ex c => .ex c
    | .no => .no
    | .rs c τ' => .rs c τ'
def sFor (fi : FA) (set : FG) (body : FS) : FS := fun τ => Fl.of (fi τ) fun ds => loopD set body ds τ
theorem pds_for {iter : Expr} {body : List Stmt} {fi : FA} {set : FG} {fb : FS} (hp : PassesOwn (model X.prog X.w) X.A X.env X.xe) (hc : X.calm = true) (hi : PDI X tg iter fi) (hg : PDG X tg set) (hb : PDSs X body fb)
    (hs : ∀ x, foldedSetIterable iter X.env x = pure x := by intro _; rfl) : PDS X (.For tg iter body [] pos) (sFor fi set fb) :=
  PS.imp (ps_for hp hc hi hg hb hs) fun E σ H ⟨B, Z, F, τ, R, h⟩ => by
    refine ⟨F, τ, R.rv, h.of.imp fun ds g J F1 H1 x io => ?_⟩
    refine ⟨fun i m σ H => m = ds.length - i ∧ i ≤ ds.length ∧ ∃ F' τ', Same F1 F' ∧ RS X.K B Z F' τ' σ H ∧ Post X B Z F' E (loopD set fb (ds.drop i) τ'), ⟨ds.length, by simp, Nat.zero_le _, F1, τ, Same.refl _, R.ext x, g.same x.ff⟩, ?_⟩
    rintro i m σ2 H2 ⟨rfl, hi, F2, τ2, f2, R2, p2⟩
    obtain ⟨i1, i2⟩ := io i F2 H2 f2 R2.rv.fh
    by_cases hlt : i < ds.length
    · have hd : ds.drop i = ds[i] :: ds.drop (i + 1) := List.drop_eq_getElem_cons hlt
      rw [hd] at p2
      obtain ⟨go, yl⟩ := i2 ds[i] (by simp [hlt])
      refine .inr ⟨go, fun σ' H' => ∃ F' τ', Same F2 F' ∧ RS X.K B Z F' τ' σ' H' ∧ Post X B Z F' E (loopD set fb (ds.drop (i + 1)) τ'), fun σ' H' ⟨F', τ', a, b, c⟩ => ⟨ds.length - (i + 1), by omega, rfl, hlt, F', τ', f2.trans a, b, c⟩, fun y H' yy => ?_⟩
      obtain ⟨F3, x3, r3⟩ := yl y H' yy
      have R3 := R2.ext x3
      refine ⟨F3, τ2, ds[i], R3.rv, r3, (Post.of p2).imp fun τ4 p4 σ4 _ R4 _ => ⟨B, Z, F3, τ4, R4 B Z R3, ?_⟩⟩
      cases q : fb τ4 with
      | nx τ5 => rw [q] at p4; exact fun σ' F' H' ff RR => ⟨F', τ5, x3.ff.trans ff, RR, Post.same p4 (x3.ff.trans ff)⟩
      | ct τ5 => rw [q] at p4; exact fun σ' F' H' ff RR => ⟨F', τ5, x3.ff.trans ff, RR, Post.same p4 (x3.ff.trans ff)⟩
      | bk τ5 => rw [q] at p4; exact fun σ' F' H' ff RR => p4 σ' F' H' (x3.ff.trans ff) RR
      | rt d => rw [q] at p4; exact p4
      | ex c => rw [q] at p4; exact p4
      | no => rw [q] at p4; exact p4
      | rs c τ5 => rw [q] at p4; exact fun σ' F' H' ff RR => p4 σ' F' H' (x3.ff.trans ff) RR
    · have e : i = ds.length := by omega
      subst e
      rw [List.drop_length] at p2
      exact .inl ⟨i1 (Nat.le_refl _), p2 σ2 F2 H2 (Same.refl _) R2⟩
end

/-! ### defs -/
def noEx (r : Rs D) : Rs D := match r with
  | .ok d => .ok d
  | _ => .no
/-- a def's promise: n arguments, the answer by g -/
def spD (K : PySem.W.Frag) (n : Nat) (g : List D → Rs D) : Sp := fun vs H Q E => vs.length = n ∧ ∃ ds F, Same F H ∧ Reps K F ds vs ∧ match g ds with
  | .ok d => Ev K F H Q d
  | _ => False
def startD (N : Nat) (ds : List D) : DS := ds.map (fun d => some (.val d)) ++ List.replicate (N - ds.length) none
def flRes : Fl → Rs D
  | .rt d => .ok d
  | .nx _ => .ok .non
  | .rs c _ => .ex c
  | _ => .no
def runF (N : Nat) (fb : FS) (ds : List D) : Rs D := flRes (fb (startD N ds))
theorem rv_start {K : PySem.W.Frag} {F H : Hp} {N : List Str} {ds : List D} {vs : List V} (fh : Same F H) (r : Reps K F ds vs) : RS K H F F (startD N.length ds) (L2.start N vs) H := by
  have hl := r.length
  have hval : ∀ (i : Nat) (o : Sl), (startD N.length ds)[i]? = some (some o) → ∃ d, ds[i]? = some d ∧ o = .val d := fun i o h => by
    unfold startD at h
    by_cases hi : i < ds.length
    · rw [List.getElem?_append_left (by simpa using hi), List.getElem?_map] at h
      cases e : ds[i]? with
      | none => rw [e] at h; cases h
      | some d => rw [e] at h; cases h; exact ⟨d, rfl, rfl⟩
    · rw [List.getElem?_append_right (by simpa using hi), List.getElem?_replicate] at h
      split at h <;> cases h
  refine ⟨⟨fh, ?_, fun i d h => ?_, fun i es h => ?_, fun i j es es' a _ h1 _ _ _ => ?_⟩, Same.refl H, Same.refl F, fun a o e => .inl e, fun i es a h1 _ => ?_⟩
  · simp [startD, L2.start, hl]
  · obtain ⟨d', h1, h2⟩ := hval i _ h
    cases h2
    obtain ⟨v, q1, q2⟩ := r.get h1
    refine ⟨v, ?_, q2⟩
    have hi : i < vs.length := (List.getElem?_eq_some_iff.mp q1).1
    unfold L2.start
    rw [List.getElem?_append_left (by simpa using hi), List.getElem?_map, q1]; rfl
  · obtain ⟨_, _, h2⟩ := hval i _ h; cases h2
  · obtain ⟨_, _, h2⟩ := hval i _ h1; cases h2
  · obtain ⟨_, _, h2⟩ := hval i _ h1; cases h2
section
variable {P : Program} {w : World} {K : PySem.W.Frag} {mg : Str → Option Value} {base : Heap}
/-- THE RULE for a def -/
theorem fnD {x qual : Str} {st : Stmt} {f : Addr} {fd : FuncData} {N ps : List Str} {k n : Nat} {fb : FS} (F : Fun K x qual st f fd) (S : FnScope N ps (defScope st)) (hn : ps.length = n)
    (hbody : ∀ (cdv : Value) (A : Around) (outer : List Env) (s : Shared) (H : Hp) (E : XK), Room k (A.deeper (envOfC qual (defScope st) s.heap.objs.size f cdv)) →
      PDSs (cxOf CX0 P w K mg base N qual (defScope st) f cdv A outer s H E).nox (defBody st) fb) : FnOk P w K mg base CX0 (k + 1) f fd ps (spD K n (runF N.length fb)) := by
  refine F.ok S (fun vs H Q E h => by rw [hn]; exact h.1) fun cdv A outer s H vs Q E hr h => ⟨_, hbody cdv A outer s H E hr, ?_⟩
  obtain ⟨hl, ds, Fz, fh, r, h⟩ := h
  refine ⟨H, Fz, Fz, startD N.length ds, rv_start fh r, ?_⟩
  unfold runF at h
  cases q : fb (startD N.length ds) with
  | nx τ => rw [q] at h; exact fun σ F' H' ff RR => h .non F' H' RR.out (by simp only [Rep])
  | rt d => rw [q] at h; exact fun v F' H' x rr => h v F' H' x rr
  | bk τ => rw [q] at h; exact h.elim
  | ct τ => rw [q] at h; exact h.elim
  | ex c => rw [q] at h; exact h.elim
  | no => rw [q] at h; exact h.elim
  | rs c τ => rw [q] at h; exact h.elim
/-- the promise by another function, where that one answers -/
theorem FnD.to {CX : CXT} {f : Addr} {fd : FuncData} {ps : List Str} {k n : Nat} {g g' : List D → Rs D} (F : FnOk P w K mg base CX k f fd ps (spD K n g)) (h : ∀ ds d, ds.length = n → g' ds = .ok d → g ds = .ok d) : FnOk P w K mg base CX k f fd ps (spD K n g') :=
  F.imp fun vs H Q E ⟨hl, ds, Fz, fh, r, q⟩ => ⟨hl, ds, Fz, fh, r, by
    cases e : g' ds with
    | ok d => rw [e] at q; rw [h ds d (by rw [r.length]; exact hl) e]; exact q
    | ex c => rw [e] at q; exact q.elim
    | no => rw [e] at q; exact q.elim⟩
end
section
variable {X : Cx} {pos : Pos} {e tg : Expr} {es : List Expr} {fe : FE} {fs : FA}
def eCall (g : List D → Rs D) (fs : FA) : FE := fun τ => (fs τ).bind fun ds => noEx (g ds)
theorem pde_call {k n : Nat} {f : Addr} {fd : FuncData} {ps : List Str} {g : List D → Rs D} {x : Str} {p : Pos} (F : FnOk X.prog X.w X.K X.mg X.base CX0 k f fd ps (spD X.K n g)) (hr : Room k X.A) (hg : Gl X x) (hm : X.mg x = some (.ref f)) (hk : PySem.W.keepIn X.K (.ref f) = true) (hb : Binds X.K fd ps [])
    (ha : PDA X (e :: es) fs) (hn : (e :: es).length = n) (hfs : ∀ τ ds, fs τ = .ok ds → ds.length = (e :: es).length) (hdb : (x == ("__debug__" : Str)) = false := by decide) (he : starEach (e :: es) X.env = (false, eval e X.env) :: starEach es X.env := by rfl) (hpl : (backTo pos (starEach es X.env)).any (·.1) = false := by rfl) :
    PDE X (.Call (.Name x p) (e :: es) [] pos) (eCall g fs) :=
  PE.imp (pe_call F hr hg hm hk hb .nil (E := E0) pass0 ha hdb he hpl) fun σ H Q ⟨Fz, τ, R, h⟩ => by
    have hb := h.bind
    refine ⟨Fz, τ, R, ?_⟩
    cases q : fs τ with
    | no => rw [q] at hb; exact hb
    | ex c => rw [q] at hb; exact hb
    | ok ds =>
      rw [q] at hb
      intro vs F1 H1 x r
      rw [List.append_nil]
      refine ⟨by rw [← r.length, hfs τ ds q, hn], ds, F1, x.fh, r, ?_⟩
      have hb : Ok X (noEx (g ds)) (Ev X.K Fz H Q) := hb
      cases z : g ds with
      | ok d => rw [z] at hb; exact Ev.ext hb x
      | ex c => rw [z] at hb; exact hb.elim
      | no => rw [z] at hb; exact hb.elim
theorem aNil_len (τ : DS) (ds : List D) (h : aNil τ = .ok ds) : ds.length = 0 := by cases h; rfl
theorem aCons_len {f : FE} {g : FA} {n : Nat} (hg : ∀ τ ds, g τ = .ok ds → ds.length = n) (τ : DS) (ds : List D) (h : aCons f g τ = .ok ds) : ds.length = n + 1 := by
  unfold aCons at h
  cases q : f τ with
  | no => rw [q] at h; cases h
  | ex c => rw [q] at h; cases h
  | ok d =>
    rw [q] at h
    cases q2 : g τ with
    | no => rw [q2] at h; cases h
    | ex c => rw [q2] at h; cases h
    | ok r => rw [q2] at h; cases h; simp [hg τ r q2]
/-! ### built-in functions -/
def CallD (X : Cx) (f : Value) (g : List D → Rs D) : Prop := ∃ r, CallR X f r ∧ ∀ F H vs ds Q, Same F H → Reps X.K F ds vs → Ok X (g ds) (Ev X.K F H Q) → r vs H Q
def eBlt (g : List D → Rs D) (fs : FA) : FE := fun τ => (fs τ).bind g
theorem pde_callB {id : String} {x : Str} {p : Pos} {g : List D → Rs D} (hc : CallD X (.builtin id) g) (hg : Gl X x) (hm : X.mg x = none) (hv : bootBuiltins x = some (.builtin id)) (ha : PDA X (e :: es) fs) (hn : x ≠ "__name__" := by decide) (hdb : (x == ("__debug__" : Str)) = false := by decide)
    (he : starEach (e :: es) X.env = (false, eval e X.env) :: starEach es X.env := by rfl) (hpl : (backTo pos (starEach es X.env)).any (·.1) = false := by rfl) : PDE X (.Call (.Name x p) (e :: es) [] pos) (eBlt g fs) := by
  obtain ⟨r, h1, h2⟩ := hc
  exact PE.imp (L2.pe_callB h1 hg hm hv ha hn hdb he hpl) fun σ H Q ⟨Fz, τ, R, h⟩ => tAs.of R h.bind fun ds vs F1 H1 q x R1 rr => h2 F1 H1 vs ds Q R1.fh rr (q.imp fun d e => e.ext x)
/-! ### subscripts -/
def IxD (X : Cx) (op : D → D → Rs D) : Prop := ∃ r : R2, IxR X r ∧ ∀ F H x y dx dy Q, Same F H → Rep X.K F dx x → Rep X.K F dy y → Ok X (op dx dy) (Ev X.K F H Q) → r x y H Q
theorem pde_ix {a b : Expr} {fa fb : FE} {op : D → D → Rs D} (hr : IxD X op) (ha : PDE X a fa) (hb : PDE X b fb) (hs : PlainIx b := by intro _ _; rfl) : PDE X (.Subscript a b pos) (eOp op fa fb) := by
  obtain ⟨r, h1, h2⟩ := hr
  exact PE.imp (pe_ix h1 ha hb hs) (op_of h2)
def ixD : D → D → Rs D
  | .lst ds, .int k => match atI ds k with
    | some d => .ok d
    | none => .no
  | .tup ds, .int k => match atI ds k with
    | some d => .ok d
    | none => .no
  | .scr ns, .int k => match atI ns k with
    | some d => .ok (.int d)
    | none => .no
  | .str x, .int k => match atI x.cps.toList k with
    | some c => if x.length ≤ sizeLine then .ok (.str ⟨#[c]⟩) else .no
    | none => .no
  | _, _ => .no
theorem atI_map {α β : Type} {f : α → β} {xs : List α} {k : Int} {a : α} (h : atI xs k = some a) : atI (xs.map f) k = some (f a) := by
  unfold atI at h ⊢
  rw [List.length_map]
  cases q : ixN xs.length k with
  | none => rw [q] at h; cases h
  | some j =>
    rw [q] at h
    have h : xs[j]? = some a := h
    show (xs.map f)[j]? = _
    rw [List.getElem?_map, h]; rfl
theorem ix_ok : IxD X ixD := ⟨_, ix_seq, fun F H x y dx dy Q fh r1 r2 h => by
  cases dx with
  | lst ds =>
    cases dy with
    | int k =>
      simp only [Rep] at r1 r2; obtain ⟨a, vs, rfl, q, t⟩ := r1; subst r2
      simp only [ixD] at h
      cases z : atI ds k with
      | none => rw [z] at h; exact h.elim
      | some d =>
        rw [z] at h
        obtain ⟨v, z1, z2⟩ := atI_reps t z
        exact .inl ⟨a, vs, k, v, rfl, rfl, SqL.of (fh _ _ q), z1, h v F H (Ext.refl fh) z2⟩
    | _ => exact h.elim
  | tup ds =>
    cases dy with
    | int k =>
      simp only [Rep] at r1 r2; obtain ⟨a, vs, rfl, q, t⟩ := r1; subst r2
      simp only [ixD] at h
      cases z : atI ds k with
      | none => rw [z] at h; exact h.elim
      | some d =>
        rw [z] at h
        obtain ⟨v, z1, z2⟩ := atI_reps t z
        exact .inr (.inl ⟨a, vs, k, v, rfl, rfl, Same.seqT fh q, z1, h v F H (Ext.refl fh) z2⟩)
    | _ => exact h.elim
  | scr ns =>
    cases dy with
    | int k =>
      simp only [Rep] at r1 r2; obtain ⟨a, rfl, q⟩ := r1; subst r2
      simp only [ixD] at h
      cases z : atI ns k with
      | none => rw [z] at h; exact h.elim
      | some d =>
        rw [z] at h
        exact .inl ⟨a, _, k, .int d, rfl, rfl, fh.seq q, atI_map z, h (.int d) F H (Ext.refl fh) (by simp only [Rep])⟩
    | _ => exact h.elim
  | str x =>
    cases dy with
    | int k =>
      simp only [Rep] at r1 r2; subst r1; subst r2
      simp only [ixD] at h
      cases z : atI x.cps.toList k with
      | none => rw [z] at h; exact h.elim
      | some c =>
        rw [z] at h
        obtain ⟨z2, h⟩ := ok_ite h
        exact .inr (.inr ⟨x, k, c, rfl, rfl, z2, z, h _ F H (Ext.refl fh) (by simp only [Rep])⟩)
    | _ => exact h.elim
  | _ => cases dy <;> exact h.elim⟩
end
end FD

set_option Elab.async false
set_option linter.all false
set_option maxRecDepth 100000
namespace FD
open PySem PySem.Spec PyProof.Rows L2

/-! ### a datum as the library's plain data -/
mutual
def toPy : D → PyData
  | .non => .none
  | .bl b => .bool b
  | .int i => .int i
  | .str x => .str x
  | .lst ds => .list (toPys ds)
  | .tup ds => .tuple (toPys ds)
  | .scr ns => .list (ns.map .int)
  | .raw _ => .none
  | .exc _ => .none
def toPys : List D → List PyData
  | [] => []
  | d :: r => toPy d :: toPys r
end
mutual
def plainD : D → Bool
  | .lst ds => plainDs ds
  | .tup ds => plainDs ds
  | .raw _ => false
  | .exc _ => false
  | _ => true
def plainDs : List D → Bool
  | [] => true
  | d :: r => plainD d && plainDs r
end
theorem readsAll_ints {h : Heap} : ∀ {ns : List Int} {us : List Value}, Vals (ns.map V.int) us → ReadsAll h us (ns.map .int) []
  | [], _, .nil => .nil
  | n :: ns, _, .cons r t => by
    obtain ⟨tk, rfl⟩ := r
    exact .cons (as := []) (bs := []) (.int n tk) (readsAll_ints t)
section
variable {X : Cx} {pins : List (Addr × Obj)} {σ : St} {F H : Hp} {s : Shared}
mutual
theorem reads_of (I : Inv X pins σ H s) (fh : Same F H) : ∀ (d : D) {v : V} {u : Value}, Rep X.K F d v → RelV v u → plainD d = true → ∃ as, Reads s.heap u (toPy d) as
  | .non, v, u, r, rv, _ => by simp only [Rep] at r; subst r; cases rv; exact ⟨[], .none⟩
  | .bl b, v, u, r, rv, _ => by simp only [Rep] at r; subst r; cases rv; exact ⟨[], .bool b⟩
  | .int i, v, u, r, rv, _ => by simp only [Rep] at r; subst r; obtain ⟨t, rfl⟩ := rv; exact ⟨[], .int i t⟩
  | .str x, v, u, r, rv, _ => by simp only [Rep] at r; subst r; obtain ⟨t, rfl⟩ := rv; exact ⟨[], .str x t⟩
  | .lst ds, v, u, r, rv, hp => by
    simp only [Rep] at r; obtain ⟨a, vs, rfl, q, t⟩ := r
    cases rv
    obtain ⟨its, rr, ⟨o, n, e, c, _, dd⟩, _⟩ := I.list (SqL.of (K := X.K) (fh _ _ q))
    obtain ⟨as, ra⟩ := readss_of I fh ds t rr (by simpa only [plainD] using hp)
    exact ⟨a :: as, by rw [toPy]; exact .list e c dd (by simpa using ra)⟩
  | .tup ds, v, u, r, rv, hp => by
    simp only [Rep] at r; obtain ⟨a, vs, rfl, q, t⟩ := r
    cases rv
    obtain ⟨its, rr, ⟨o, e, c, n, dd⟩, _⟩ := I.tuple (Same.seqT fh q)
    obtain ⟨as, ra⟩ := readss_of I fh ds t rr (by simpa only [plainD] using hp)
    exact ⟨as, by rw [toPy]; exact .tuple e c dd (by simpa using ra)⟩
  | .scr ns, v, u, r, rv, hp => by
    simp only [Rep] at r; obtain ⟨a, rfl, q⟩ := r
    cases rv
    obtain ⟨its, rr, ⟨o, n, e, c, _, dd⟩, _⟩ := I.list (fh.seq q)
    exact ⟨[a], by rw [toPy]; exact .list e c dd (by simpa using readsAll_ints rr)⟩
  | .raw w, v, u, r, rv, hp => by simp [plainD] at hp
  | .exc w, v, u, r, rv, hp => by simp [plainD] at hp
theorem readss_of (I : Inv X pins σ H s) (fh : Same F H) : ∀ (ds : List D) {vs : List V} {us : List Value}, Reps X.K F ds vs → Vals vs us → plainDs ds = true → ∃ as, ReadsAll s.heap us (toPys ds) as
  | [], vs, us, r, rv, _ => by simp only [Reps] at r; subst r; cases rv; exact ⟨[], by rw [toPys]; exact .nil⟩
  | d :: ds, vs, us, r, rv, hp => by
    simp only [Reps] at r
    obtain ⟨v, r', rfl, q, t⟩ := r
    simp only [plainDs, Bool.and_eq_true] at hp
    cases rv with
    | cons r1 r2 =>
      obtain ⟨as, h1⟩ := reads_of I fh d q r1 hp.1
      obtain ⟨bs, h2⟩ := readss_of I fh ds t r2 hp.2
      exact ⟨as ++ bs, by rw [toPys]; exact .cons h1 h2⟩
end
end
/-- what may be compared -/
def okD (d : D) : Bool := plainD d && (toPy d).canLay0 && decide ((toPy d).depth ≤ 60)
theorem okD_iff {d : D} (h : okD d = true) : plainD d = true ∧ (toPy d).canLay0 = true ∧ (toPy d).depth ≤ 60 := by
  simpa [okD, and_assoc] using h
def eqvD (d e : D) : Bool := PyData.eqv (toPy d) (toPy e)
def eqD : D → D → Rs D
  | .str x, .str y => .ok (.bl (x == y))
  | .int x, .int y => .ok (.bl (x == y))
  | d, e => if okD d = true ∧ okD e = true then .ok (.bl (eqvD d e)) else .no
def neD : D → D → Rs D
  | .str x, .str y => .ok (.bl (!(x == y)))
  | .int x, .int y => .ok (.bl (!(x == y)))
  | d, e => if okD d = true ∧ okD e = true then .ok (.bl (!eqvD d e)) else .no
section
variable {X : Cx}
def rDeep (K : PySem.W.Frag) (b : D → D → Bool) : R2 := fun x y H Q => ∃ F d e, Same F H ∧ Rep K F d x ∧ Rep K F e y ∧ okD d = true ∧ okD e = true ∧ Q (.bl (b d e)) H
theorem op_eqDeep (hu : X.A.units + 64 < cLine) : OpR X (compareOp .Eq) (rDeep X.K eqvD) := by
  intro pins s σ H x y v u Q I rx ry h
  obtain ⟨F, d, e, fh, r1, r2, o1, o2, q⟩ := h
  obtain ⟨p1, c1, e1⟩ := okD_iff o1
  obtain ⟨p2, c2, e2⟩ := okD_iff o2
  obtain ⟨as, h1⟩ := reads_of I fh d r1 rx p1
  obtain ⟨bs, h2⟩ := reads_of I fh e r2 ry p2
  exact SeqAt.compareEq_reads h1 h2 c1 c2 (by omega) ⟨.bl _, H, I, rfl, q⟩
theorem op_neDeep (hu : X.A.units + 64 < cLine) : OpR X (compareOp .NotEq) (rDeep X.K fun d e => !eqvD d e) := by
  intro pins s σ H x y v u Q I rx ry h
  obtain ⟨F, d, e, fh, r1, r2, o1, o2, q⟩ := h
  obtain ⟨p1, c1, e1⟩ := okD_iff o1
  obtain ⟨p2, c2, e2⟩ := okD_iff o2
  obtain ⟨as, h1⟩ := reads_of I fh d r1 rx p1
  obtain ⟨bs, h2⟩ := reads_of I fh e r2 ry p2
  exact SeqAt.compareNe_reads h1 h2 c1 c2 (by omega) ⟨.bl _, H, I, rfl, q⟩
theorem opd_eq (hu : X.A.units + 64 < cLine) : OpD X (compareOp .Eq) eqD := ⟨_, op_eq.or (op_eqDeep hu), fun F H x y dx dy Q fh r1 r2 h => by
  have gen : (Ok X (if okD dx = true ∧ okD dy = true then .ok (.bl (eqvD dx dy)) else .no) (Ev X.K F H Q)) → rEq x y H Q ∨ rDeep X.K eqvD x y H Q := fun h => by
    obtain ⟨z, h⟩ := ok_ite h
    exact .inr ⟨F, dx, dy, fh, r1, r2, z.1, z.2, h _ F H (Ext.refl fh) (by simp only [Rep])⟩
  cases dx with
  | str a =>
    cases dy with
    | str b =>
      simp only [Rep] at r1 r2; subst r1; subst r2
      exact .inl ⟨rfl, by rw [dec_str]; exact h _ F H (Ext.refl fh) (by simp only [Rep])⟩
    | _ => exact gen h
  | int a =>
    cases dy with
    | int b =>
      simp only [Rep] at r1 r2; subst r1; subst r2
      exact .inl ⟨rfl, by rw [dec_int]; exact h _ F H (Ext.refl fh) (by simp only [Rep])⟩
    | _ => exact gen h
  | _ => exact gen h⟩
theorem opd_ne (hu : X.A.units + 64 < cLine) : OpD X (compareOp .NotEq) neD := ⟨_, op_ne.or (op_neDeep hu), fun F H x y dx dy Q fh r1 r2 h => by
  have gen : (Ok X (if okD dx = true ∧ okD dy = true then .ok (.bl (!eqvD dx dy)) else .no) (Ev X.K F H Q)) → rNe x y H Q ∨ rDeep X.K (fun d e => !eqvD d e) x y H Q := fun h => by
    obtain ⟨z, h⟩ := ok_ite h
    exact .inr ⟨F, dx, dy, fh, r1, r2, z.1, z.2, h _ F H (Ext.refl fh) (by simp only [Rep])⟩
  cases dx with
  | str a =>
    cases dy with
    | str b =>
      simp only [Rep] at r1 r2; subst r1; subst r2
      exact .inl ⟨rfl, by rw [dec_str]; exact h _ F H (Ext.refl fh) (by simp only [Rep])⟩
    | _ => exact gen h
  | int a =>
    cases dy with
    | int b =>
      simp only [Rep] at r1 r2; subst r1; subst r2
      exact .inl ⟨rfl, by rw [dec_int]; exact h _ F H (Ext.refl fh) (by simp only [Rep])⟩
    | _ => exact gen h
  | _ => exact gen h⟩
/-! ### ints -/
def intOp (C : Int → Int → Bool) (g : Int → Int → D) : D → D → Rs D
  | .int i, .int j => if C i j = true then .ok (g i j) else .no
  | _, _ => .no
theorem opd_int {f : Value → Value → Sem Value} {C' : Int → Int → Prop} {C : Int → Int → Bool} {gv : Int → Int → V} {g : Int → Int → D} (h : OpR X f (rI C' gv)) (hc : ∀ i j, C i j = true → C' i j) (hg : ∀ F i j, Rep X.K F (g i j) (gv i j)) : OpD X f (intOp C g) :=
  ⟨_, h, fun F H x y dx dy Q fh r1 r2 q => by
    cases dx with
    | int i =>
      cases dy with
      | int j =>
        simp only [Rep] at r1 r2; subst r1; subst r2
        obtain ⟨z, q⟩ := ok_ite q
        exact ⟨i, j, rfl, rfl, hc i j z, q _ F H (Ext.refl fh) (hg F i j)⟩
      | _ => exact q.elim
    | _ => cases dy <;> exact q.elim⟩
def intOp0 (g : Int → Int → D) : D → D → Rs D
  | .int i, .int j => .ok (g i j)
  | _, _ => .no
theorem opd_int0 {f : Value → Value → Sem Value} {gv : Int → Int → V} {g : Int → Int → D} (h : OpR X f (rI0 gv)) (hg : ∀ F i j, Rep X.K F (g i j) (gv i j)) : OpD X f (intOp0 g) :=
  ⟨_, h, fun F H x y dx dy Q fh r1 r2 q => by
    cases dx with
    | int i =>
      cases dy with
      | int j =>
        simp only [Rep] at r1 r2; subst r1; subst r2
        exact ⟨i, j, rfl, rfl, q _ F H (Ext.refl fh) (hg F i j)⟩
      | _ => exact q.elim
    | _ => cases dy <;> exact q.elim⟩
def subD := intOp0 fun i j => .int (i - j)
theorem opd_sub : OpD X (binaryOp .Sub) subD := opd_int0 op_sub fun _ _ _ => by simp only [Rep]
def modD := intOp (fun _ j => decide (0 < j)) fun i j => .int (i % j)
theorem opd_mod : OpD X (binaryOp .Mod) modD := opd_int op_mod (fun i j h => by simpa using h) fun _ _ _ => by simp only [Rep]
def fdivD := intOp (fun _ j => decide (0 < j ∧ j < 1073741824)) fun i j => .int (i / j)
theorem opd_fdiv : OpD X (binaryOp .FloorDiv) fdivD := opd_int op_fdiv (fun i j h => by have h' : 0 < j ∧ j < 1073741824 := of_decide_eq_true h; exact h') fun _ _ _ => by simp only [Rep]
def ltI := intOp0 fun i j => .bl (decide (i < j))
def leD := intOp0 fun i j => .bl (decide (i ≤ j))
def gtD := intOp0 fun i j => .bl (decide (j < i))
def geD := intOp0 fun i j => .bl (decide (j ≤ i))
theorem opd_lt : OpD X (compareOp .Lt) ltI := opd_int0 op_lt fun _ _ _ => by simp only [Rep]
theorem opd_gt : OpD X (compareOp .Gt) gtD := opd_int0 op_gt fun _ _ _ => by simp only [Rep]
theorem opd_ge : OpD X (compareOp .GtE) geD := opd_int0 op_ge fun _ _ _ => by simp only [Rep]
/-! ### + -/
def addD : D → D → Rs D
  | .int i, .int j => .ok (.int (i + j))
  | .str i, .str j => if i.length + j.length ≤ sizeLine then .ok (.str (i ++ j)) else .no
  | .lst i, .lst j => if i.length + j.length ≤ sizeLine then .ok (.lst (i ++ j)) else .no
  | _, _ => .no
theorem opd_add : OpD X (binaryOp .Add) addD := ⟨_, op_add.or (op_add_str.or op_cat), fun F H x y dx dy Q fh r1 r2 q => by
  cases dx with
  | int i =>
    cases dy with
    | int j =>
      simp only [Rep] at r1 r2; subst r1; subst r2
      exact .inl ⟨i, j, rfl, rfl, q _ F H (Ext.refl fh) (by simp only [Rep])⟩
    | _ => exact q.elim
  | str i =>
    cases dy with
    | str j =>
      simp only [Rep] at r1 r2; subst r1; subst r2
      obtain ⟨z, q⟩ := ok_ite q
      exact .inr (.inl ⟨i, j, rfl, rfl, z, q _ F H (Ext.refl fh) (by simp only [Rep])⟩)
    | _ => exact q.elim
  | lst i =>
    cases dy with
    | lst j =>
      simp only [Rep] at r1 r2
      obtain ⟨a, vs, rfl, e1, t1⟩ := r1
      obtain ⟨b, ws, rfl, e2, t2⟩ := r2
      obtain ⟨z, q⟩ := ok_ite q
      refine .inr (.inr ⟨a, b, vs, ws, rfl, rfl, fh _ _ e1, fh _ _ e2, by rw [← t1.length, ← t2.length]; exact z, fun p hp => q _ _ _ (Ext.new fh hp) ?_⟩)
      simp only [Rep]
      exact ⟨p, vs ++ ws, rfl, upd_same, (t1.append t2).mono (same_upd (none_of_same fh hp))⟩
    | _ => exact q.elim
  | _ => cases dy <;> exact q.elim⟩
/-! ### * -/
def mulD : D → D → Rs D
  | .int i, .int j => if (-(18446744073709551616) < i ∧ i < 18446744073709551616) ∨ (-(18446744073709551616) < j ∧ j < 18446744073709551616) then .ok (.int (i * j)) else .no
  | .lst i, .int k => if k < 16777216 ∧ -16777216 < k ∧ i.length * k.toNat ≤ sizeLine then .ok (.lst (List.replicate k.toNat i).flatten) else .no
  | _, _ => .no
theorem opd_mul : OpD X (binaryOp .Mult) mulD := ⟨_, op_mul.or op_rep, fun F H x y dx dy Q fh r1 r2 q => by
  cases dx with
  | int i =>
    cases dy with
    | int j =>
      simp only [Rep] at r1 r2; subst r1; subst r2
      obtain ⟨z, q⟩ := ok_ite q
      refine .inl ⟨i, j, rfl, rfl, ?_, q _ F H (Ext.refl fh) (by simp only [Rep])⟩
      unfold CMul
      rcases z with z | z
      · exact .inl (by omega)
      · exact .inr (by omega)
    | _ => exact q.elim
  | lst i =>
    cases dy with
    | int k =>
      simp only [Rep] at r1 r2
      obtain ⟨a, vs, rfl, e1, t1⟩ := r1
      subst r2
      obtain ⟨z, q⟩ := ok_ite q
      refine .inr ⟨a, k, vs, rfl, rfl, fh _ _ e1, by omega, by omega, by rw [← t1.length]; exact z.2.2, fun p hp => q _ _ _ (Ext.new fh hp) ?_⟩
      simp only [Rep]
      exact ⟨p, _, rfl, upd_same, (t1.rep k.toNat).mono (same_upd (none_of_same fh hp))⟩
    | _ => exact q.elim
  | _ => cases dy <;> exact q.elim⟩
/-! ### in, not in -/
def strIn (i j : Str) : Bool := !(Builtin.Str.occurrences j i 0 j.length 1).isEmpty
def inD : D → D → Rs D
  | .str i, .str j => .ok (.bl (strIn i j))
  | d, .lst xs => if okD d = true ∧ okD (.lst xs) = true then .ok (.bl (xs.any fun y => eqvD y d)) else .no
  | d, .tup xs => if okD d = true ∧ okD (.tup xs) = true then .ok (.bl (xs.any fun y => eqvD y d)) else .no
  | _, _ => .no
theorem toPys_map : ∀ xs : List D, toPys xs = xs.map toPy
  | [] => rfl
  | d :: r => by rw [toPys, toPys_map r, List.map_cons]
theorem any_toPys (xs : List D) (d : D) : ((toPys xs).any fun y => PyData.eqv y (toPy d)) = xs.any fun y => eqvD y d := by
  rw [toPys_map, List.any_map]; rfl
def rInD (K : PySem.W.Frag) (neg : Bool) : R2 := fun x y H Q => ∃ F d e xs, Same F H ∧ Rep K F d x ∧ Rep K F e y ∧ okD d = true ∧ okD e = true ∧ (e = .lst xs ∨ e = .tup xs) ∧ Q (.bl (if neg then !(xs.any fun y => eqvD y d) else xs.any fun y => eqvD y d)) H
theorem op_inDeep (hu : X.A.units + 128 < cLine) : OpR X (compareOp .In) (rInD X.K false) := by
  intro pins s σ H x y v u Q I rx ry h
  obtain ⟨F, d, e, xs, fh, r1, r2, o1, o2, he, q⟩ := h
  obtain ⟨p1, c1, e1⟩ := okD_iff o1
  obtain ⟨p2, c2, e2⟩ := okD_iff o2
  obtain ⟨as, h1⟩ := reads_of I fh d r1 rx p1
  obtain ⟨bs, h2⟩ := reads_of I fh e r2 ry p2
  rcases he with rfl | rfl
  · rw [toPy] at h2 c2 e2
    refine SeqAt.in_list_reads h2 h1 (by simpa only [PyData.canLay0] using c2) c1 (by omega) ⟨.bl _, H, I, rfl, ?_⟩
    rw [any_toPys]; exact q
  · rw [toPy] at h2 c2 e2
    refine SeqAt.in_tuple_reads h2 h1 (by simpa only [PyData.canLay0] using c2) c1 (by omega) ⟨.bl _, H, I, rfl, ?_⟩
    rw [any_toPys]; exact q
theorem opd_in (hu : X.A.units + 128 < cLine) : OpD X (compareOp .In) inD := ⟨_, op_in_str.or (op_inDeep hu), fun F H x y dx dy Q fh r1 r2 q => by
  cases dy with
  | lst xs =>
    have q' : Ok X (if okD dx = true ∧ okD (.lst xs) = true then .ok (.bl (xs.any fun y => eqvD y dx)) else .no) (Ev X.K F H Q) := by cases dx <;> exact q
    obtain ⟨z, q⟩ := ok_ite q'
    exact .inr ⟨F, dx, _, xs, fh, r1, r2, z.1, z.2, .inl rfl, q _ F H (Ext.refl fh) (by simp only [Rep]; rfl)⟩
  | tup xs =>
    have q' : Ok X (if okD dx = true ∧ okD (.tup xs) = true then .ok (.bl (xs.any fun y => eqvD y dx)) else .no) (Ev X.K F H Q) := by cases dx <;> exact q
    obtain ⟨z, q⟩ := ok_ite q'
    exact .inr ⟨F, dx, _, xs, fh, r1, r2, z.1, z.2, .inr rfl, q _ F H (Ext.refl fh) (by simp only [Rep]; rfl)⟩
  | str j =>
    cases dx with
    | str i =>
      simp only [Rep] at r1 r2; subst r1; subst r2
      exact .inl ⟨i, j, rfl, rfl, q _ F H (Ext.refl fh) (by simp only [Rep, strIn])⟩
    | _ => exact q.elim
  | _ => cases dx <;> exact q.elim⟩
/-! ### is None -/
/-! ### - x -/
def eNeg (fa : FE) : FE := fun τ => (fa τ).bind fun d => match d with
  | .int i => .ok (.int (-i))
  | _ => .no
theorem pde_neg {a : Expr} {pos : Pos} {fa : FE} (ha : PDE X a fa) : PDE X (.UnaryOp .USub a pos) (eNeg fa) :=
  PE.imp (pe_un un_neg ha) fun σ H Q ⟨F, τ, R, h⟩ => tE.of R h.bind fun d v F1 H1 g x R1 r => by
    cases d with
    | int i => simp only [Rep] at r; exact ⟨i, r, g _ F1 H1 x (by simp only [Rep])⟩
    | _ => exact g.elim
end
end FD

set_option Elab.async false
set_option linter.all false
set_option maxRecDepth 100000
namespace FD
open PySem PySem.Spec PyProof.Rows L2

/-! ### a comprehension: one clause, at most one test -/
def closStep (env : Env) (cs : List (Str × Addr)) (y : Str × NameKind) : List (Str × Addr) := if y.2 == NameKind.free then (y.1, (env.cells.lookup y.1).getD 0) :: cs else cs
def closOf (scope : Scope) (env : Env) : List (Str × Addr) := scope.names.foldl (closStep env) []
theorem closureFor_eq {scope : Scope} {env : Env} (h : ∀ y ∈ scope.names, y.2 = .free → (env.cells.lookup y.1).isSome = true) : closureFor scope env = pure (closOf scope env) := by
  unfold closureFor closOf
  generalize scope.names = names at h
  have gen : ∀ (cs : List (Str × Addr)), (forIn names cs fun x r => (do
      if (x.2 == NameKind.free) = true then do
        let c ← cellOf env x.1
        pure PUnit.unit
        pure (ForInStep.yield ((x.1, c) :: r))
      else do
        pure PUnit.unit
        pure (ForInStep.yield r)) : Sem (List (Str × Addr))) = pure (names.foldl (closStep env) cs) := by
    induction names with
    | nil => intro cs; rfl
    | cons y r ih =>
      intro cs
      rw [List.forIn_cons, List.foldl_cons]
      by_cases hk : y.2 = .free
      · obtain ⟨c, hc⟩ := Option.isSome_iff_exists.mp (h y List.mem_cons_self hk)
        have e : closStep env cs y = (y.1, c) :: cs := by simp [closStep, hk, hc]
        rw [e, ← ih (fun z hz => h z (List.mem_cons_of_mem _ hz))]
        simp only [hk, beq_self_eq_true, if_true, cellOf, hc]
        rfl
      · have hb : (y.2 == NameKind.free) = false := by simpa using hk
        have e : closStep env cs y = cs := by simp [closStep, hb]
        rw [e, ← ih (fun z hz => h z (List.mem_cons_of_mem _ hz))]
        simp only [hb, Bool.false_eq_true, if_false]
        rfl
  show ((forIn names ([] : List (Str × Addr)) fun x r => (do
      if (x.2 == NameKind.free) = true then do
        let c ← cellOf env x.1
        pure PUnit.unit
        pure (ForInStep.yield ((x.1, c) :: r))
      else do
        pure PUnit.unit
        pure (ForInStep.yield r)) : Sem (List (Str × Addr))) >>= fun s => pure s) = _
  rw [gen []]
  rfl
theorem clos_lookup {env : Env} {x : Str} : ∀ {names : List (Str × NameKind)} {cs : List (Str × Addr)} {c : Addr}, (names.foldl (closStep env) cs).lookup x = some c → cs.lookup x = some c ∨ (∃ y ∈ names, y.1 = x ∧ y.2 = .free ∧ c = (env.cells.lookup x).getD 0)
  | [], cs, c, h => .inl h
  | y :: r, cs, c, h => by
    rw [List.foldl_cons] at h
    rcases clos_lookup h with q | ⟨z, hz, e⟩
    · by_cases hk : y.2 = .free
      · have e : closStep env cs y = (y.1, (env.cells.lookup y.1).getD 0) :: cs := by simp [closStep, hk]
        rw [e, List.lookup_cons] at q
        by_cases hx : x = y.1
        · subst hx
          simp at q
          exact .inr ⟨y, List.mem_cons_self, rfl, hk, q.symm⟩
        · have hb : (x == y.1) = false := by simpa using hx
          rw [hb] at q
          exact .inl q
      · have hb : (y.2 == NameKind.free) = false := by simpa using hk
        have e : closStep env cs y = cs := by simp [closStep, hb]
        rw [e] at q
        exact .inl q
    · exact .inr ⟨z, List.mem_cons_of_mem _ hz, e⟩
theorem clos_has {env : Env} {x : Str} : ∀ {names : List (Str × NameKind)} {cs : List (Str × Addr)}, ((∃ y ∈ names, y.1 = x ∧ y.2 = .free) ∨ ∃ c, cs.lookup x = some c) → ∃ c, (names.foldl (closStep env) cs).lookup x = some c
  | [], cs, h => by
    rcases h with ⟨y, hy, _⟩ | h
    · cases hy
    · exact h
  | y :: r, cs, h => by
    rw [List.foldl_cons]
    refine clos_has ?_
    by_cases hk : y.2 = .free
    · have e : closStep env cs y = (y.1, (env.cells.lookup y.1).getD 0) :: cs := by simp [closStep, hk]
      rw [e]
      by_cases hx : x = y.1
      · subst hx; exact .inr ⟨(env.cells.lookup y.1).getD 0, by rw [List.lookup_cons]; simp⟩
      · have hb : (x == y.1) = false := by simpa using hx
        rcases h with ⟨z, hz, e1, e2⟩ | ⟨c, hc⟩
        · rcases List.mem_cons.mp hz with rfl | hz
          · exact absurd e1.symm hx
          · exact .inl ⟨z, hz, e1, e2⟩
        · exact .inr ⟨c, by rw [List.lookup_cons, hb]; exact hc⟩
    · have hb : (y.2 == NameKind.free) = false := by simpa using hk
      have e : closStep env cs y = cs := by simp [closStep, hb]
      rw [e]
      rcases h with ⟨z, hz, e1, e2⟩ | h
      · rcases List.mem_cons.mp hz with rfl | hz
        · exact absurd e2 hk
        · exact .inl ⟨z, hz, e1, e2⟩
      · exact .inr h

/-- the context within a comprehension's block: its names N, entered at s with H, its locals at C, the walked records fp -/
def _root_.L2.Cx.comp (X : Cx) (scope : Scope) (N : List Str) (s : Shared) (H : Hp) (C : Addr) (fp : List Addr) : Cx :=
  { prog := X.prog, w := X.w, K := X.K, mg := X.mg, base := X.base, A := X.A, N := N, s₀ := s, H₀ := H, env := compEnvC scope (closOf scope X.env) C X.env, outer := X.stack, stack := X.stack, ex := fp, fn := fun _ => false, calm := X.calm, pn := [], xe := fun _ _ => False }

/-- what a comprehension's scope must be -/
structure CompScope (X : Cx) (scope : Scope) : Prop where
  kind : scope.kind = .function
  nocell : ∀ y ∈ scope.names, y.2 ≠ .cell
  locs : ∀ y ∈ scope.names, y.2 = .local → scope.names.lookup y.1 = some .local
  free : ∀ y ∈ scope.names, y.2 = .free → X.env.kindOf y.1 = some .cell ∨ X.env.kindOf y.1 = some .free
theorem lookup_relabel_free {env : Env} : ∀ {names : List (Str × NameKind)} {x : Str}, ((names.map fun (n, k) => if (k == NameKind.free && env.scope.kind == .function && env.kindOf n == some .cell) then (n, NameKind.cell) else (n, k)).lookup x = some .cell ∨
      (names.map fun (n, k) => if (k == NameKind.free && env.scope.kind == .function && env.kindOf n == some .cell) then (n, NameKind.cell) else (n, k)).lookup x = some .free) → (∀ y ∈ names, y.2 ≠ .cell) → ∃ y ∈ names, y.1 = x ∧ y.2 = .free
  | [], _, h, _ => by rcases h with h | h <;> simp at h
  | (n, k) :: r, x, h, hc => by
    have hr : ∀ y ∈ r, y.2 ≠ .cell := fun y hy => hc y (List.mem_cons_of_mem _ hy)
    rw [List.map_cons] at h
    by_cases hx : x = n
    · subst hx
      by_cases hk : k = .free
      · exact ⟨_, List.mem_cons_self, rfl, hk⟩
      · have hb : (k == NameKind.free) = false := by simpa using hk
        have hck : k ≠ .cell := hc (x, k) List.mem_cons_self
        simp only [hb, Bool.false_and, Bool.false_eq_true, if_false, List.lookup_cons, beq_self_eq_true] at h
        rcases h with h | h
        · exact absurd (Option.some.inj h) hck
        · exact absurd (Option.some.inj h) hk
    · have hb : (x == n) = false := by simpa using hx
      have step : ∀ q : Str × NameKind, q.1 = n → ((q :: (r.map fun (n, k) => if (k == NameKind.free && env.scope.kind == .function && env.kindOf n == some .cell) then (n, NameKind.cell) else (n, k))).lookup x) = ((r.map fun (n, k) => if (k == NameKind.free && env.scope.kind == .function && env.kindOf n == some .cell) then (n, NameKind.cell) else (n, k)).lookup x) := fun q hq => by
        obtain ⟨q1, q2⟩ := q
        simp only at hq
        subst hq
        rw [List.lookup_cons, hb]
      have h' : ((r.map fun (n, k) => if (k == NameKind.free && env.scope.kind == .function && env.kindOf n == some .cell) then (n, NameKind.cell) else (n, k)).lookup x = some .cell ∨ (r.map fun (n, k) => if (k == NameKind.free && env.scope.kind == .function && env.kindOf n == some .cell) then (n, NameKind.cell) else (n, k)).lookup x = some .free) := by
        rcases h with h | h
        · left; exact (step _ (by show (if (k == NameKind.free && env.scope.kind == .function && env.kindOf n == some .cell) = true then (n, NameKind.cell) else (n, k)).1 = n; split <;> rfl)).symm.trans h
        · right; exact (step _ (by show (if (k == NameKind.free && env.scope.kind == .function && env.kindOf n == some .cell) = true then (n, NameKind.cell) else (n, k)).1 = n; split <;> rfl)).symm.trans h
      obtain ⟨y, hy, e⟩ := lookup_relabel_free h' hr
      exact ⟨y, List.mem_cons_of_mem _ hy, e⟩

theorem relabel_free {env : Env} : ∀ {names : List (Str × NameKind)} {x : Str}, names.lookup x = some .free → ¬ (names.map fun (n, k) => if (k == NameKind.free && env.scope.kind == .function && env.kindOf n == some .cell) then (n, NameKind.cell) else (n, k)).lookup x = some .local
  | [], _, h => by simp at h
  | (n, k) :: r, x, h => by
    rw [List.map_cons]
    show ¬ List.lookup x ((if (k == NameKind.free && env.scope.kind == .function && env.kindOf n == some .cell) = true then (n, NameKind.cell) else (n, k)) :: _) = _
    rw [List.lookup_cons] at h
    by_cases hx : x = n
    · subst hx
      simp only [beq_self_eq_true] at h
      have hk : k = .free := Option.some.inj h
      subst hk
      split <;> simp [List.lookup_cons]
    · have hb : (x == n) = false := by simpa using hx
      rw [hb] at h
      split
      · rw [List.lookup_cons, hb]; exact relabel_free h
      · rw [List.lookup_cons, hb]; exact relabel_free h
section
variable {X : Cx} {scope : Scope} {N' : List Str}
theorem comp_cell (S : CompScope X scope) (ok : X.Ok) {x : Str} {c : Addr} (h : (closOf scope X.env).lookup x = some c) : X.env.cells.lookup x = some c := by
  rcases clos_lookup h with q | ⟨y, hy, e1, e2, e3⟩
  · simp at q
  · subst e1
    obtain ⟨c', hc'⟩ := ok.has y.1 (S.free y hy e2)
    rw [hc'] at e3 ⊢
    rw [e3]; rfl
/-- the block's start -/
theorem comp_inv {pins : List (Addr × Obj)} {σ σ' : St} {H : Hp} {s : Shared} {h1 : Heap} {fp : List Addr} {t : Nat} (S : CompScope X scope) (I : Inv X pins σ H s) (hfp : ∀ b ∈ fp, FpOk X pins H b) (hlt : ∀ b ∈ fp, b < s.heap.objs.size)
    (hn : h1.Ns s.heap.objs.size fun _ => none) (hsb : ∀ b o, s.heap.get? b = some o → h1.get? b = some o) (hl : σ'.length = N'.length)
    (hσ : ∀ (i : Nat) (v : V), σ'[i]? = some (some v) → ∃ (x : Str) (j : Nat), N'[i]? = some x ∧ X.N[j]? = some x ∧ σ[j]? = some (some v) ∧ scope.names.lookup x = some .free) :
    Inv (X.comp scope N' s H s.heap.objs.size fp) [] σ' H { s with heap := h1, toks := t } := by
  have hH : H s.heap.objs.size = none := I.hok.fresh (Nat.le_refl _)
  have cl : ∀ {x c}, (closOf scope X.env).lookup x = some c → X.env.cells.lookup x = some c := fun h => comp_cell S I.ok h
  have kept : ∀ {c v}, s.heap.IsCell c v → h1.IsCell c v := fun ⟨o, e, d⟩ => ⟨o, hsb _ o e, d⟩
  refine ⟨⟨I.ok.mod, S.kind, I.ok.glob, I.ok.blt, Nat.le_refl _, fun x y c e1 e2 => I.ok.inj x y c (cl e1) (cl e2), fun x hx => ?_, fun x c hf _ => absurd hf (by simp [Cx.comp]), I.ok.hd, I.ok.frames, .inl rfl, fun b hb => ?_, I.bs, Nat.le_trans I.ok.bsz I.sz, fun b o e hb => ?_, fun b hb hs => ?_, I.stack, I.stkFree⟩,
    I.os.symm ▸ rfl, I.bare, Un.kept hsb, ⟨_, hn, fun i x v e1 e2 e3 => ?_⟩, fun x c e => ?_, hH, fun x c e => I.freeC x c (cl e), fun p hp => absurd (show p ∈ ([] : List (Addr × Obj)) from hp) (by simp), I.hok.kept hsb, hl⟩
  · have hx : (relabel scope X.env).names.lookup x = some .cell ∨ (relabel scope X.env).names.lookup x = some .free := hx
    exact clos_has (.inl (lookup_relabel_free hx S.nocell))
  · have hb : b ∈ fp := hb
    refine ⟨Nat.ne_of_lt (hlt b hb), fun x c e => (hfp b hb).2.2.2.2.1 x c (cl e)⟩
  · have hb : b ∈ fp := hb
    rcases (hfp b hb).2.2.2.1 with z | z
    · exact I.ok.noex b o e z
    · exact absurd (Nat.lt_of_lt_of_le (Heap.lt_size e) (Nat.le_trans I.ok.bsz z)) (Nat.lt_irrefl _)
  · have hb : b ∈ fp := hb
    obtain ⟨_, f1, f2, _⟩ := hfp b hb
    rcases List.mem_cons.mp (I.stkSub b hs) with z | z
    · exact f1 z
    · exact f2 z
  · obtain ⟨x', j, e4, e5, e6, e9⟩ := hσ i v e2
    have hy := PySem.mem_of_lookup e9
    have e1' : N'[i]? = some x := e1
    rw [e1'] at e4; cases e4
    have kd := S.free _ hy rfl
    obtain ⟨m, hm, hl⟩ := I.loc
    obtain ⟨u, ru, lk⟩ := hl j x v e5 e6 (kd.elim (fun z => .inr (.inl z)) fun z => .inr (.inr z))
    refine ⟨u, ru, ?_⟩
    rcases lk with ⟨z, _⟩ | ⟨z, c, hc, hcell⟩
    · rcases kd with k | k <;> rw [k] at z <;> cases z
    · obtain ⟨c', hc'⟩ := clos_has (env := X.env) (names := scope.names) (cs := []) (x := x) (.inl ⟨_, hy, rfl, rfl⟩)
      have := cl hc'
      rw [hc] at this; cases this
      have e3' : (relabel scope X.env).names.lookup x = some .local ∨ (relabel scope X.env).names.lookup x = some .cell ∨ (relabel scope X.env).names.lookup x = some .free := e3
      rcases e3' with q | q | q
      · exact absurd q (relabel_free e9)
      · exact .inr ⟨.inl q, c, hc', kept hcell⟩
      · exact .inr ⟨.inr q, c, hc', kept hcell⟩
  · obtain ⟨v, z⟩ := I.cell x c (cl e)
    exact ⟨v, kept z⟩
end
end FD

set_option Elab.async false
set_option linter.all false
set_option maxRecDepth 100000
namespace FD
open PySem PySem.Spec PyProof.Rows L2

/-- the loop of a comprehension, whatever its tests -/
theorem comp_loop {prog : Program} {w : World} {A : Around} {R : Result → Shared → Prop} {s : Shared} {elt target iter : Expr} {ifs : List Expr} {scope : Scope} {pos : Pos} {it acc : Value} {env : Env} (I : Nat → Shared → Prop)
    (turn : ∀ n s, I n s → wpAny (model prog w) A (pyNext it) (fun r s₁ => match r with
      | none => R (.ok .next) s₁
      | some v => wpAny (model prog w) A (letOwnedTupleGo target it v) (fun _ s0 => wpAny (model prog w) A (assign target env v) (fun _ s₂ =>
          wpAny (model prog w) A (forIn ifs true fun c r => if r = true then do let ok ← isTrue c env (eval c env); pure (ForInStep.yield ok) else pure (ForInStep.yield r)) (fun ok s₃ =>
            if ok = true then wpAny (model prog w) A (eval elt env) (fun x s₄ =>
              wpAny (model prog w) A (call (.builtin "list.append") [acc, x]) (fun _ s₅ => ∃ m, m < n ∧ I m s₅) (fun _ _ => False) s₄) (fun _ _ => False) s₃
            else ∃ m, m < n ∧ I m s₃) (fun _ _ => False) s₂) (fun _ _ => False) s0) (fun _ _ => False) s₁) (fun _ _ => False) s)
    (n : Nat) (h : I n s) :
    codeAny (model prog w) A (.compLoop (.ListComp elt [⟨target, iter, ifs, 0⟩] scope pos) 0 it acc env) R s := by
  refine codeAny_loop rfl I (fun n s hI => ?_) n h
  show wpAny _ A ((compTurn (.ListComp elt [⟨target, iter, ifs, 0⟩] scope pos) 0 it acc env).onRaise (fun x => do noteFrame x env; theTreesLotGoes x)) _ _ s
  refine wpAny_noted ?_
  rw [compTurn_list]
  refine wpAny_bind (wpAny_standAt (wpAny_bind (wpAny_mono (turn n s hI) (fun r s₁ h₁ => ?_) fun _ _ h' => h'.elim)))
  cases r with
  | none => exact wpAny_pure h₁
  | some v =>
    refine wpAny_bind (wpAny_mono h₁ (fun _ s0 h0 => ?_) fun _ _ h' => h'.elim)
    refine wpAny_bind (wpAny_mono h0 (fun _ s₂ h₂ => wpAny_bind (wpAny_mono h₂ (fun ok s₃ h₃ => ?_) fun _ _ h' => h'.elim)) fun _ _ h' => h'.elim)
    cases ok with
    | false => exact wpAny_pure ⟨rfl, h₃⟩
    | true =>
      exact wpAny_bind (wpAny_bind (wpAny_mono h₃ (fun x s₄ h₄ => wpAny_bind (wpAny_mono h₄ (fun _ s₅ h₅ => wpAny_pure (wpAny_pure ⟨rfl, h₅⟩)) fun _ _ h' => h'.elim)) fun _ _ h' => h'.elim))
theorem no_tests {M : Model} {A : Around} {env : Env} {Q : Bool → Shared → Prop} {E : Value → Shared → Prop} {s : Shared} (h : Q true s) :
    wpAny M A (forIn ([] : List Expr) true fun c r => if r = true then do let ok ← isTrue c env (eval c env); pure (ForInStep.yield ok) else pure (ForInStep.yield r)) Q E s := wpAny_pure h
theorem one_test {M : Model} {A : Around} {env : Env} {Q : Bool → Shared → Prop} {E : Value → Shared → Prop} {s : Shared} {c : Expr} (h : wpAny M A (isTrue c env (eval c env)) Q E s) :
    wpAny M A (forIn [c] true fun c r => if r = true then do let ok ← isTrue c env (eval c env); pure (ForInStep.yield ok) else pure (ForInStep.yield r)) Q E s := by
  rw [List.forIn_cons]
  simp only [if_true]
  refine wpAny_bind (wpAny_bind (wpAny_mono h (fun b s' q => wpAny_pure ?_) fun _ _ e => e))
  exact wpAny_pure q

/-- the tests of a clause -/
def PTs (Y : Cx) (ifs : List Expr) (t : TT) : Prop := ∀ (pins : List (Addr × Obj)) (s : Shared) (σ : St) (H : Hp) (Q : Bool → Hp → Prop), Inv Y pins σ H s → t σ H Q →
  wpAny (model Y.prog Y.w) Y.A (forIn ifs true fun c r => if r = true then do let ok ← isTrue c Y.env (eval c Y.env); pure (ForInStep.yield ok) else pure (ForInStep.yield r)) (TP Y pins σ Q) Y.xe s
theorem pts_nil {Y : Cx} : PTs Y [] (fun _ H Q => Q true H) := fun pins s σ H Q I h => no_tests ⟨H, I, h⟩
theorem pts_one {Y : Cx} {c : Expr} {t : TT} (h : PT Y c t) : PTs Y [c] t := fun pins s σ H Q I q => one_test (h pins s σ H Q I q)

/-- the reading of a comprehension: s0 the names' values at its start -/
def tComp (s0 : St → St) (wi : TI) (g : TG) (ti : TT) (te : TE) : TE := fun σ H Q => wi σ H fun J H1 => ∀ acc, H1 acc = none → ∃ W : Nat → Nat → St → Hp → Prop, (∃ m, W 0 m (s0 σ) (upd H1 acc (.lst []))) ∧ ∀ i m σ1 H, W i m σ1 H →
  (J.stop i H ∧ Q (.ref acc) H) ∨ (J.go i H ∧ ∀ x H', J.yld i H x H' → g x σ1 H' fun σ2 H2 => ti σ2 H2 fun b H3 =>
    if b = true then te σ2 H3 fun y H4 => ∃ ys, H4 acc = some (.lst ys) ∧ ys.length < sizeLine ∧ ∃ m', m' < m ∧ W (i + 1) m' σ2 (upd H4 acc (.lst (ys ++ [y]))) else ∃ m', m' < m ∧ W (i + 1) m' σ2 H3)
section
variable {X : Cx} {scope : Scope} {N' : List Str} {tg iter elt : Expr} {ifs : List Expr} {pos : Pos} {wi : TI} {g : TG} {ti : TT} {te : TE} {s0 : St → St}
theorem hok_but {P : Program} {w : World} {H : Hp} {h h' : Heap} {C : Addr} (ok : HOk P w H h) (hC : H C = none) (k : ∀ b o, b ≠ C → h.get? b = some o → h'.get? b = some o) : HOk P w H h' := fun b u e => by
  refine (ok b u e).stay (fun c v hc q => k c v ?_ q) (fun _ q => q) fun _ _ q => q
  rintro rfl
  rcases hc with z | z
  · subst z; rw [hC] at e; cases e
  · rw [hC] at z; cases z
/-- the block: its list stands at acc -/
theorem comp_block {pins : List (Addr × Obj)} {σ : St} {H : Hp} {s : Shared} {QQ : V → Hp → Prop} {J : It} {fp : List Addr} {it acc : Addr} {tn : Nat → Heap → Prop} {RR : Addr → Result → Shared → Prop} {E : Value → Shared → Prop} {W : Nat → Nat → St → Hp → Prop} {m0 : Nat}
    (S : CompScope X scope) (hc : X.calm = true) (hl : (s0 σ).length = N'.length)
    (hσ : ∀ (i : Nat) (v : V), (s0 σ)[i]? = some (some v) → ∃ (x : Str) (j : Nat), N'[i]? = some x ∧ X.N[j]? = some x ∧ σ[j]? = some (some v) ∧ scope.names.lookup x = some .free)
    (hg : ∀ s H C fp, PG (X.comp scope N' s H C fp) tg g) (ht : ∀ s H C fp, PTs (X.comp scope N' s H C fp) ifs ti) (he : ∀ s H C fp, PE (X.comp scope N' s H C fp) elt te)
    (I : Inv X pins σ H s) (T : Turn X.prog X.w X.K tg J fp it tn) (st : tn 0 s.heap) (hfp : ∀ b ∈ fp, FpOk X pins H b) (hlt : ∀ b ∈ fp, b < s.heap.objs.size) (hacc : acc < s.heap.objs.size)
    (w0 : W 0 m0 (s0 σ) H) (turn : ∀ i m σ1 H, W i m σ1 H → (J.stop i H ∧ QQ (.ref acc) H) ∨ (J.go i H ∧ ∀ x H', J.yld i H x H' → g x σ1 H' fun σ2 H2 => ti σ2 H2 fun b H3 =>
        if b = true then te σ2 H3 fun y H4 => ∃ ys, H4 acc = some (.lst ys) ∧ ys.length < sizeLine ∧ ∃ m', m' < m ∧ W (i + 1) m' σ2 (upd H4 acc (.lst (ys ++ [y]))) else ∃ m', m' < m ∧ W (i + 1) m' σ2 H3))
    (hRR : ∀ s', (∃ m, s'.heap.Ns s.heap.objs.size m) → (∀ h', Heap.SameBut s.heap.objs.size s'.heap h' → EP X pins σ (fun v H' => QQ v H' ∧ H' s.heap.objs.size = none) (.ref acc) { s' with heap := h' }) → RR s.heap.objs.size (.ok .next) s') :
    wpAny (model X.prog X.w) X.A (newFunctionEnv scope X.env.globals (closOf scope X.env) [] X.env.qual none .none (some X.env)) (fun cenv s₄ =>
      codeAny (model X.prog X.w) X.A (.compStart (.ListComp elt [⟨tg, iter, ifs, 0⟩] scope pos) 0 (.ref it) (.ref acc) { cenv with scope := relabel scope X.env }) (RR cenv.locals) s₄) E s := by
  refine wpAny_newFunctionEnv S.nocell (by intro y hy; simp at hy) (fun h1 hns hsb => ?_) S.kind
  have keep3 : ∀ b o, s.heap.get? b = some o → h1.get? b = some o := fun b o e => hsb.extBut b o (Nat.ne_of_lt (Heap.lt_size e)) (Heap.get?_push_of_some _ e)
  have Y0 : Inv (X.comp scope N' s H s.heap.objs.size fp) [] (s0 σ) H { s with heap := h1, toks := s.toks + ([] : List (Str × Value)).length } := comp_inv S I hfp hlt hns keep3 hl hσ
  have fpY : ∀ {H' : Hp}, (∀ b ∈ fp, H' b = none) → ∀ b ∈ fp, FpOk (X.comp scope N' s H s.heap.objs.size fp) [] H' b := fun {H'} hn b hb => by
    obtain ⟨f0, f1, f2, f3, f4, f5⟩ := hfp b hb
    refine ⟨hn b hb, Nat.ne_of_lt (hlt b hb), fun z => ?_, .inl hb, fun x c e => f4 x c (comp_cell S I.ok e), fun p hp => absurd (show p ∈ ([] : List (Addr × Obj)) from hp) (by simp)⟩
    rcases List.mem_cons.mp (I.stkSub b z) with q | q
    · exact f1 q
    · exact f2 q
  have st1 : tn 0 h1 := T.keep _ _ _ st fun b hb o e => keep3 b o e
  have loop : ∀ s3 : Shared, s3 = { s with heap := h1, toks := s.toks + ([] : List (Str × Value)).length } →
      codeAny (model X.prog X.w) X.A (.compLoop (.ListComp elt [⟨tg, iter, ifs, 0⟩] scope pos) 0 (.ref it) (.ref acc) (X.comp scope N' s H s.heap.objs.size fp).env) (RR s.heap.objs.size) s3 := by
    rintro s3 rfl
    refine comp_loop (fun n s' => ∃ i σ' H', Inv (X.comp scope N' s H s.heap.objs.size fp) [] σ' H' s' ∧ tn i s'.heap ∧ (∀ b ∈ fp, H' b = none) ∧ W i n σ' H') ?_ m0 ⟨0, s0 σ, H, Y0, st1, fun b hb => (hfp b hb).1, w0⟩
    rintro n s4 ⟨i, σ4, H4, I4, st4, fr4, w4⟩
    rcases turn i n σ4 H4 w4 with ⟨stop, qn⟩ | ⟨go, step⟩
    · refine thn (T.done (X.comp scope N' s H s.heap.objs.size fp) rfl rfl rfl hc i [] s4 σ4 H4 _ I4 (fpY fr4) st4 stop) fun r s5 ⟨hr, I5⟩ => ?_
      subst hr
      obtain ⟨m5, n5, _⟩ := id I5.loc
      have hC : H4 s.heap.objs.size = none := I5.free
      refine hRR s5 ⟨m5, n5⟩ fun h' sb => ⟨.ref acc, H4, ?_, rfl, qn, hC⟩
      refine I.call' (s' := { s5 with heap := h' }) (ch := fp) I5.os ⟨fun b o e n hb hx => ?_, fun b o e n hb hx => ?_, fun b o e n hx => I5.base.free b o e n hx, fun b o e hx => ?_, I5.base.tups, I5.base.frzs, I5.base.tbls⟩ (hok_but I5.hok hC fun b o hb e => (sb.2 b hb).trans e) I5.bare fun b hb => ?_
      · exact (sb.2 b (Nat.ne_of_lt (Heap.lt_size e))).trans (I5.base.keep b o e n hb hx)
      · obtain ⟨sl, q⟩ := I5.base.slot b o e n hb hx
        exact ⟨sl, (sb.2 b (Nat.ne_of_lt (Heap.lt_size e))).trans q⟩
      · obtain ⟨o', q⟩ := I5.base.there b o e hx
        exact ⟨o', (sb.2 b (Nat.ne_of_lt (Heap.lt_size e))).trans q⟩
      · obtain ⟨f0, f1, f2, f3, f4, f5⟩ := hfp b hb
        exact ⟨f3, f1, f4, f5⟩
    · refine thn (T.item (X.comp scope N' s H s.heap.objs.size fp) rfl rfl rfl hc i [] s4 σ4 H4 _ I4 (fpY fr4) st4 go) fun r s5 ⟨u, hr, h5⟩ => ?_
      subst hr
      refine thn h5 fun _ s6 ⟨x, H6, I6, r6, y6, st6, fr6⟩ => ?_
      have I6' := I6.pinned (fpY fr6) (T.obj _ _ st6)
      refine thn (hg _ _ _ _ _ s6 σ4 H6 x u _ I6' r6 (step x H6 y6)) fun _ s7 ⟨σ7, H7, I7, q7⟩ => ?_
      refine thn (ht _ _ _ _ _ s7 σ7 H7 _ I7 q7) fun ok s8 ⟨H8, I8, q8⟩ => ?_
      have again : ∀ {s9 : Shared} {H9 : Hp} {m' : Nat}, Inv (X.comp scope N' s H s.heap.objs.size fp) ([] ++ pinsAt fp s6.heap) σ7 H9 s9 → m' < n → W (i + 1) m' σ7 H9 → ∃ m, m < n ∧ ∃ i σ' H', Inv (X.comp scope N' s H s.heap.objs.size fp) [] σ' H' s9 ∧ tn i s9.heap ∧ (∀ b ∈ fp, H' b = none) ∧ W i m σ' H' := fun {s9 H9 m'} I9 hm w9 => by
        refine ⟨m', hm, i + 1, σ7, H9, I9.unpinned, T.keep _ _ _ st6 fun b hb o e => (I9.pin (b, o) (List.mem_append_right _ (List.mem_append_right _ (mem_pinsAt hb e)))).1, fun b hb => ?_, w9⟩
        obtain ⟨o, e, d⟩ := T.obj _ _ st6 b hb
        exact (I9.pin (b, o) (List.mem_append_right _ (List.mem_append_right _ (mem_pinsAt hb e)))).2.1
      cases ok with
      | false =>
        rw [if_neg (by simp)] at q8
        obtain ⟨m', hm, w8⟩ := q8
        exact again I8 hm w8
      | true =>
        rw [if_pos rfl] at q8
        refine thn (he _ _ _ _ _ s8 σ7 H8 _ I8 q8) fun y s9 ⟨z, H9, I9, r9, ys, e9, l9, m', hm, w9⟩ => ?_
        refine thn (mt_append _ s9 σ7 H9 (.ref acc) [z] (.ref acc) [y] (fun _ H' => H' = upd H9 acc (.lst (ys ++ [z]))) I9 rfl (.cons r9 .nil) ⟨acc, ys, z, rfl, rfl, e9, l9, rfl⟩) fun _ s10 ⟨_, H10, I10, _, e10⟩ => ?_
        subst e10
        exact again I10 hm w9
  exact codeAny_compStart_list (loop _ rfl) (T.self _ 0 _ _ _ st1 (loop _ rfl))
end
end FD

set_option Elab.async false
set_option linter.all false
set_option maxRecDepth 100000
namespace FD
open PySem PySem.Spec PyProof.Rows L2
section
variable {X : Cx} {scope : Scope} {N' : List Str} {tg iter elt : Expr} {ifs : List Expr} {pos : Pos} {wi : TI} {g : TG} {ti : TT} {te : TE} {s0 : St → St}
theorem fp_lt {pins : List (Addr × Obj)} {σ : St} {H : Hp} {s : Shared} {J : It} {fp : List Addr} {it : Addr} {tn : Nat → Heap → Prop} (T : Turn X.prog X.w X.K tg J fp it tn) (st : tn 0 s.heap) : ∀ b ∈ fp, b < s.heap.objs.size := fun b hb => by
  obtain ⟨o, e, _⟩ := T.obj 0 _ st b hb
  exact Heap.lt_size e
theorem pe_comp (S : CompScope X scope) (hc : X.calm = true) (hl : ∀ σ : St, σ.length = X.N.length → (s0 σ).length = N'.length)
    (hσ : ∀ (σ : St) (i : Nat) (v : V), (s0 σ)[i]? = some (some v) → ∃ (x : Str) (j : Nat), N'[i]? = some x ∧ X.N[j]? = some x ∧ σ[j]? = some (some v) ∧ scope.names.lookup x = some .free)
    (hi : PI X tg iter wi) (hg : ∀ s H C fp, PG (X.comp scope N' s H C fp) tg g) (ht : ∀ s H C fp, PTs (X.comp scope N' s H C fp) ifs ti) (he : ∀ s H C fp, PE (X.comp scope N' s H C fp) elt te)
    (hs : ∀ x, foldedSetIterable iter X.env x = pure x := by intro _; rfl) : PE X (.ListComp elt [⟨tg, iter, ifs, 0⟩] scope pos) (tComp s0 wi g ti te) := by
  intro pins s σ H Q I h
  rw [eval_ListComp]
  have hclos := closureFor_eq (scope := scope) (env := X.env) fun y hy hk => Option.isSome_iff_exists.mpr (I.ok.has y.1 (S.free y hy hk))
  refine wpAny_comprehension_free (use := none) rfl hs hclos S.kind S.locs (thn (hi pins s σ H _ I h) fun x s1 h1 => thn h1 fun itv s2 h2 => ?_)
  obtain ⟨it, fp, tn, J, H2, e, I2, T, st2, f2, hw⟩ := h2
  subst e
  have hf : H2 s2.heap.objs.size = none := I2.hok.fresh (Nat.le_refl _)
  obtain ⟨W, ⟨m0, w0⟩, turn⟩ := hw _ hf
  have hlt := fp_lt (pins := pins) (σ := σ) (H := H2) T st2
  refine wpAny_newObj_type ?_
  have I3 : Inv X pins σ (upd H2 s2.heap.objs.size (.lst [])) { s2 with heap := s2.heap.push { cls := .type "list", dict := none, data := .seq ([] : List Value).toArray } } :=
    I2.laid (t' := s2.toks) (o := .lst []) (fun b u e => Heap.get?_push_of_some _ e) (Nat.le_refl _) ⟨Nat.zero_le _, [], 0, .nil, Heap.get?_push_size _ rfl⟩
  have hsz : s2.heap.objs.size < (s2.heap.push { cls := .type "list", dict := none, data := .seq ([] : List Value).toArray }).objs.size := by rw [Heap.size_push]; exact Nat.lt_succ_self _
  refine comp_block (s0 := s0) (QQ := Q) (W := W) (m0 := m0) S hc (hl σ I2.len) (hσ σ) hg ht he I3 T (T.keep _ _ _ st2 fun b hb o e => Heap.get?_push_of_some _ e) (fun b hb => ?_) (fun b hb => Nat.lt_trans (hlt b hb) hsz) hsz w0 turn fun s' ⟨m, hn⟩ hq => ⟨m, hn, fun h' sb => let ⟨v, H', I', r', q', _⟩ := hq h' sb; ⟨v, H', I', r', q'⟩⟩
  obtain ⟨f0, f1, f2, f3⟩ := f2 b hb
  exact ⟨by rw [upd_ne (Nat.ne_of_lt (hlt b hb))]; exact f0, f1, f2, f3⟩
end
end FD

set_option Elab.async false
set_option linter.all false
set_option maxRecDepth 100000
namespace FD
open PySem PySem.Spec PyProof.Rows L2

/-! ### comprehensions over plain data -/
def compL (set : FG) (ft : FT) (fe : FE) (τ : DS) : List D → Rs (List D)
  | [] => .ok []
  | d :: r => match set d τ with
    | .ok τ1 => match ft τ1 with
      | .ok true => match fe τ1 with
        | .ok x => (compL set ft fe τ r).bind fun xs => .ok (x :: xs)
        | _ => .no
      | .ok false => compL set ft fe τ r
      | _ => .no
    | _ => .no
def valOnly : Option (Option Sl) → Option Sl
  | some (some (.val d)) => some (.val d)
  | _ => none
def tau0 (k : Nat) (idx : List Nat) (τ : DS) : DS := List.replicate k none ++ idx.map fun j => valOnly τ[j]?
def sig0 (k : Nat) (idx : List Nat) (σ : St) : St := List.replicate k none ++ idx.map fun j => (σ[j]?).join
def eComp (k : Nat) (idx : List Nat) (fi : FA) (set : FG) (ft : FT) (fe : FE) : FA := fun τ => (fi τ).bind fun ds => match compL set ft fe (tau0 k idx τ) ds with
  | .ok xs => if xs.length ≤ sizeLine then .ok xs else .no
  | _ => .no
def noOwn (τ : DS) : Prop := ∀ (i : Nat) es, τ[i]? ≠ some (some (.own es))
structure SetOk (set : FG) : Prop where
  ov : ∀ d e τ τ1, set e τ = .ok τ1 → set d τ1 = set d τ
  no : ∀ d τ τ1, set d τ = .ok τ1 → noOwn τ → noOwn τ1
theorem noOwn_set {τ : DS} {i : Nat} {d : D} (h : noOwn τ) : noOwn (τ.set i (some (.val d))) := fun j es e => by
  by_cases hij : i = j
  · subst hij
    rw [List.getElem?_set] at e
    simp only [if_true] at e
    split at e <;> cases e
  · rw [List.getElem?_set_ne hij] at e; exact h j es e
theorem setOk_nm (i : Nat) : SetOk (gNm i) := ⟨fun d e τ τ1 h => by
  unfold gNm at h ⊢; cases h; rw [List.set_set], fun d τ τ1 h n => by unfold gNm at h; cases h; exact noOwn_set n⟩
theorem setOk_pr (i j : Nat) : SetOk (gPr i j) := ⟨fun d e τ τ1 h => by
  unfold gPr at h ⊢
  cases q : pair2 e with
  | none => rw [q] at h; cases h
  | some xy =>
    obtain ⟨x, y⟩ := xy
    rw [q] at h; cases h
    cases q2 : pair2 d with
    | none => rfl
    | some zw =>
      obtain ⟨z, w⟩ := zw
      by_cases hij : i = j
      · subst hij; simp [List.set_set]
      · have e1 : ((τ.set i (some (.val x))).set j (some (.val y))).set i (some (.val z)) = (τ.set i (some (.val z))).set j (some (.val y)) := by
          rw [List.set_comm _ _ (Ne.symm hij), List.set_set]
        simp only
        rw [e1, List.set_set]
        , fun d τ τ1 h n => by
  unfold gPr at h
  cases q : pair2 d with
  | none => rw [q] at h; cases h
  | some xy =>
    obtain ⟨x, y⟩ := xy
    rw [q] at h; cases h
    exact noOwn_set (noOwn_set n)⟩
theorem noOwn_tau0 (k : Nat) (idx : List Nat) (τ : DS) : noOwn (tau0 k idx τ) := fun i es e => by
  unfold tau0 at e
  by_cases hi : i < k
  · rw [List.getElem?_append_left (by simpa using hi), List.getElem?_replicate] at e
    simp [hi] at e
  · rw [List.getElem?_append_right (by simpa using hi), List.getElem?_map] at e
    cases q : idx[i - (List.replicate k (none : Option Sl)).length]? with
    | none => rw [q] at e; cases e
    | some j =>
      rw [q] at e
      simp only [Option.map_some, Option.some.injEq] at e
      unfold valOnly at e
      split at e <;> cases e
theorem RV.free_upd {K : PySem.W.Frag} {F H : Hp} {τ : DS} {σ : St} {p : Addr} {o : HO} (R : RV K F τ σ H) (n : noOwn τ) (hp : F p = none) : RV K F τ σ (upd H p o) :=
  ⟨fun b u e => by
    have : b ≠ p := fun z => by subst z; rw [hp] at e; cases e
    rw [upd_ne this]; exact R.fh b u e, R.len, R.val, fun i es e => absurd e (n i es), fun i j ds es a _ h => absurd h (n i ds)⟩
theorem rv_comp {K : PySem.W.Frag} {F H : Hp} {τ : DS} {σ : St} (k : Nat) (idx : List Nat) (R : RV K F τ σ H) : RV K F (tau0 k idx τ) (sig0 k idx σ) H := by
  refine ⟨R.fh, by simp [tau0, sig0], fun i d e => ?_, fun i es e => absurd e (noOwn_tau0 k idx τ i es), fun i j ds es a _ h => absurd h (noOwn_tau0 k idx τ i ds)⟩
  unfold tau0 at e
  unfold sig0
  by_cases hi : i < k
  · rw [List.getElem?_append_left (by simpa using hi), List.getElem?_replicate] at e
    simp [hi] at e
  · rw [List.getElem?_append_right (by simpa using hi), List.getElem?_map] at e
    rw [List.getElem?_append_right (by simpa using hi), List.getElem?_map]
    simp only [List.length_replicate] at e ⊢
    cases q : idx[i - k]? with
    | none => rw [q] at e; cases e
    | some j =>
      rw [q] at e
      simp only [Option.map_some, Option.some.injEq] at e
      have : τ[j]? = some (some (.val d)) := by
        unfold valOnly at e
        split at e <;> cases e
        assumption
      obtain ⟨v, h1, h2⟩ := R.val j d this
      exact ⟨v, by simp [h1], h2⟩
def hideAt (H : Hp) (p : Addr) : Hp := fun b => if b = p then none else H b
theorem hideAt_same (H : Hp) (p : Addr) : hideAt H p p = none := by unfold hideAt; rw [if_pos rfl]
theorem hideAt_ne {H : Hp} {p b : Addr} (h : b ≠ p) : hideAt H p b = H b := by unfold hideAt; rw [if_neg h]
theorem upd_hide (H : Hp) (p : Addr) (o : HO) : upd (hideAt H p) p o = upd H p o := by
  funext b; unfold upd hideAt; split <;> rfl
theorem ext_hide {F1 H1 F2 Hm F5 H5 : Hp} {acc : Addr} {l : HO} (a : Ext F1 H1 F2 Hm) (hm : Hm acc = none) (b : Ext F2 (upd Hm acc l) F5 H5) : Ext F1 H1 F5 (hideAt H5 acc) ∧ F5 acc = none := by
  have hf5 : F5 acc = none := by
    cases q : F5 acc with
    | none => rfl
    | some o =>
      rcases b.nw acc o q with z | z
      · rw [none_of_same a.fh hm] at z; cases z
      · rw [upd_same] at z; cases z
  have h1 : H1 acc = none := none_of_same a.hh hm
  refine ⟨⟨a.ff.trans b.ff, fun c o e => ?_, fun c o e => ?_, fun c o e => ?_⟩, hf5⟩
  · have n : c ≠ acc := fun z => by subst z; rw [h1] at e; cases e
    rw [hideAt_ne n]
    exact b.hh c o (by rw [upd_ne n]; exact a.hh c o e)
  · have n : c ≠ acc := fun z => by subst z; rw [hf5] at e; cases e
    rw [hideAt_ne n]; exact b.fh c o e
  · rcases b.nw c o e with z | z
    · exact a.nw c o z
    · have n : c ≠ acc := fun z' => by subst z'; rw [upd_same] at z; cases z
      rw [upd_ne n] at z
      exact .inr (none_of_same a.hh z)
/-- the free names, by their slots outside -/
def FreeOk (scope : Scope) (N : List Str) : List Str → List Nat → Prop
  | [], [] => True
  | x :: xs, j :: js => N[j]? = some x ∧ scope.names.lookup x = some .free ∧ FreeOk scope N xs js
  | _, _ => False
theorem FreeOk.len {scope : Scope} {N : List Str} : ∀ {xs : List Str} {js : List Nat}, FreeOk scope N xs js → xs.length = js.length
  | [], [], _ => rfl
  | _ :: xs, _ :: js, h => by rw [List.length_cons, List.length_cons, FreeOk.len h.2.2]
theorem FreeOk.get {scope : Scope} {N : List Str} : ∀ {xs : List Str} {js : List Nat} {p j : Nat}, FreeOk scope N xs js → js[p]? = some j → ∃ x, xs[p]? = some x ∧ N[j]? = some x ∧ scope.names.lookup x = some .free
  | [], [], _, _, _, e => by simp at e
  | x :: xs, i :: js, 0, j, h, e => by simp at e; subst e; exact ⟨x, rfl, h.1, h.2.1⟩
  | x :: xs, i :: js, p + 1, j, h, e => by
    obtain ⟨y, h1, h2⟩ := FreeOk.get (p := p) h.2.2 (by simpa using e)
    exact ⟨y, by simpa using h1, h2⟩
def compOkB (osc scope : Scope) : Bool := (match scope.kind with | .function => true | _ => false) && scope.names.all (fun y => match y.2 with
  | .cell => false
  | .local => (match scope.names.lookup y.1 with | some .local => true | _ => false)
  | .free => (match osc.names.lookup y.1 with | some .cell => true | some .free => true | _ => false)
  | _ => true)
theorem compScope_of {X : Cx} {scope : Scope} (h : compOkB X.env.scope scope = true) : CompScope X scope := by
  unfold compOkB at h
  rw [Bool.and_eq_true, List.all_eq_true] at h
  obtain ⟨h1, h2⟩ := h
  refine ⟨?_, fun y hy z => ?_, fun y hy z => ?_, fun y hy z => ?_⟩
  · split at h1
    · assumption
    · cases h1
  · have := h2 y hy; rw [z] at this; cases this
  · have := h2 y hy; rw [z] at this
    simp only at this
    split at this
    · assumption
    · cases this
  · have := h2 y hy; rw [z] at this
    simp only at this
    split at this
    · left; assumption
    · right; assumption
    · cases this
/-- the tests of a clause over data -/
def PDTs (Y : Cx) (ifs : List Expr) (f : FT) : Prop := PTs Y ifs (tTs Y f)
theorem pdts_nil {Y : Cx} : PDTs Y [] (fun _ => .ok true) := fun pins s σ H Q I ⟨F, τ, R, h⟩ => pts_nil pins s σ H Q I (h F H (Ext.refl R.fh))
theorem pdts_one {Y : Cx} {c : Expr} {f : FT} (h : PDT Y c f) : PDTs Y [c] f := pts_one h
section
variable {X : Cx} {scope : Scope} {tn fr : List Str} {idx : List Nat} {tg iter elt : Expr} {ifs : List Expr} {pos : Pos} {fi : FA} {set : FG} {ft : FT} {fe : FE}
theorem comp_read (so : SetOk set) {Y : Cx} (hK : Y.K = X.K) (σ : St) (H : Hp) (Q : VK) (h : tFr X (eComp tn.length idx fi set ft fe) σ H Q) : tComp (sig0 tn.length idx) (tI X fi) (tG Y set) (tTs Y ft) (tE Y fe) σ H Q := by
  obtain ⟨F, τ, R, h⟩ := h
  refine ⟨F, τ, R, h.bind.imp fun ds gds J F1 H1 x io => fun acc hacc => ?_⟩
  cases q : compL set ft fe (tau0 tn.length idx τ) ds with
  | no => rw [q] at gds; exact gds.elim
  | ex c => rw [q] at gds; exact gds.elim
  | ok xs =>
    rw [q] at gds
    obtain ⟨hz, k⟩ := ok_ite gds
    have R1 := R.ext x
    have hF1 : F1 acc = none := none_of_same x.fh hacc
    refine ⟨fun i m σ1 Hc => m = ds.length - i ∧ i ≤ ds.length ∧ ∃ F2 Hm τ1 dn rs vs, Ext F1 H1 F2 Hm ∧ Hm acc = none ∧ Hc = upd Hm acc (.lst vs) ∧ Reps X.K F2 dn vs ∧ RV X.K F2 τ1 σ1 Hc ∧ noOwn τ1 ∧ (∀ d, set d τ1 = set d (tau0 tn.length idx τ)) ∧
      compL set ft fe (tau0 tn.length idx τ) (ds.drop i) = .ok rs ∧ xs = dn ++ rs, ⟨ds.length, by simp, Nat.zero_le _, F1, H1, _, [], xs, [], Ext.refl x.fh, hacc, rfl, Reps.nil, ?_, noOwn_tau0 _ _ _, fun _ => rfl, q, rfl⟩, ?_⟩
    · exact (rv_comp tn.length idx R1).free_upd (noOwn_tau0 _ _ _) hF1
    rintro i m σ1 Hc ⟨rfl, hi, F2, Hm, τ1, dn, rs, vs, x2, hm, rfl, r2, R2, n2, so2, cl, ex⟩
    obtain ⟨i1, i2⟩ := io i F2 _ x2.ff R2.fh
    by_cases hlt : i < ds.length
    · have hd : ds.drop i = ds[i] :: ds.drop (i + 1) := List.drop_eq_getElem_cons hlt
      rw [hd, compL] at cl
      obtain ⟨go, yl⟩ := i2 ds[i] (by simp [hlt])
      refine .inr ⟨go, fun y H' yy => ?_⟩
      obtain ⟨F3, x3, r3⟩ := yl y H' yy
      refine ⟨F3, τ1, ds[i], by rw [hK]; exact R2.ext x3, by rw [hK]; exact r3, ?_⟩
      rw [so2]
      cases e1 : set ds[i] (tau0 tn.length idx τ) with
      | no => rw [e1] at cl; cases cl
      | ex c => rw [e1] at cl; cases cl
      | ok τ2 =>
        rw [e1] at cl
        simp only at cl
        intro σ2 RR _ _
        rw [hK] at RR
        have n3 := so.no _ _ _ e1 (noOwn_tau0 _ _ _)
        have so3 : ∀ d, set d τ2 = set d (tau0 tn.length idx τ) := fun d => so.ov d _ _ _ e1
        cases e2 : ft τ2 with
        | no => rw [e2] at cl; cases cl
        | ex c => rw [e2] at cl; cases cl
        | ok b =>
          rw [e2] at cl
          refine ⟨F3, τ2, by rw [hK]; exact RR, ?_⟩
          rw [e2]
          intro F4 H4 x4
          have x34 := x3.trans x4
          cases b with
          | false =>
            simp only at cl
            rw [if_neg (by simp)]
            obtain ⟨y1, y2⟩ := ext_hide x2 hm x34
            have ha : H4 acc = some (.lst vs) := x34.hh acc _ upd_same
            have eH : H4 = upd (hideAt H4 acc) acc (.lst vs) := by
              rw [upd_hide]; funext b; unfold upd; split
              · rename_i z; subst z; exact ha
              · rfl
            refine ⟨ds.length - (i + 1), by omega, rfl, hlt, F4, hideAt H4 acc, τ2, dn, rs, vs, y1, hideAt_same _ _, eH, r2.mono x34.ff, RR.ext x4, n3, so3, cl, ex⟩
          | true =>
            simp only at cl
            rw [if_pos rfl]
            cases e3 : fe τ2 with
            | no => rw [e3] at cl; cases cl
            | ex c => rw [e3] at cl; cases cl
            | ok z =>
              rw [e3] at cl
              simp only at cl
              cases e4 : compL set ft fe (tau0 tn.length idx τ) (ds.drop (i + 1)) with
              | no => rw [e4] at cl; cases cl
              | ex c => rw [e4] at cl; cases cl
              | ok rs' =>
                rw [e4] at cl
                have ers : z :: rs' = rs := by simpa using cl
                refine ⟨F4, τ2, by rw [hK]; exact RR.ext x4, ?_⟩
                rw [e3]
                intro v F5 H5 x5 r5
                rw [hK] at r5
                have x35 := x34.trans x5
                obtain ⟨y1, y2⟩ := ext_hide x2 hm x35
                refine ⟨vs, x35.hh acc _ upd_same, ?_, ds.length - (i + 1), by omega, rfl, hlt, F5, hideAt H5 acc, τ2, dn ++ [z], rs', vs ++ [v], y1, hideAt_same _ _, by rw [upd_hide], (r2.mono x35.ff).append (Reps.cons r5 Reps.nil), ?_, n3, so3, e4, ?_⟩
                · have := congrArg List.length ex
                  rw [← ers, List.length_append, List.length_cons, r2.length] at this
                  omega
                · exact ((RR.ext x4).ext x5).free_upd n3 y2
                · rw [ex, ← ers, List.append_assoc]; rfl
    · have e : i = ds.length := by omega
      subst e
      rw [List.drop_length, compL] at cl
      cases cl
      rw [List.append_nil] at ex
      subst ex
      exact .inl ⟨i1 (Nat.le_refl _), k acc vs F2 Hm (x.trans x2) hm r2⟩
theorem sig0_ok (hfr : FreeOk scope X.N fr idx) (σ : St) (i : Nat) (v : V) (h : (sig0 tn.length idx σ)[i]? = some (some v)) : ∃ (x : Str) (j : Nat), (tn ++ fr)[i]? = some x ∧ X.N[j]? = some x ∧ σ[j]? = some (some v) ∧ scope.names.lookup x = some .free := by
  unfold sig0 at h
  by_cases hi : i < tn.length
  · rw [List.getElem?_append_left (by simpa using hi), List.getElem?_replicate] at h
    simp [hi] at h
  · rw [List.getElem?_append_right (by simpa using hi), List.getElem?_map] at h
    simp only [List.length_replicate] at h
    cases q : idx[i - tn.length]? with
    | none => rw [q] at h; cases h
    | some j =>
      rw [q] at h
      simp only [Option.map_some, Option.some.injEq] at h
      obtain ⟨x, h1, h2, h3⟩ := hfr.get q
      refine ⟨x, j, by rw [List.getElem?_append_right (by omega)]; exact h1, h2, ?_, h3⟩
      cases z : σ[j]? with
      | none => rw [z] at h; cases h
      | some o => rw [z] at h; simp at h; rw [h]
theorem pdf_comp (hb : compOkB X.env.scope scope = true) (hc : X.calm = true) (hfr : FreeOk scope X.N fr idx) (so : SetOk set) (hi : PDI X tg iter fi)
    (hg : ∀ s H C fp, PDG (X.comp scope (tn ++ fr) s H C fp) tg set) (ht : ∀ s H C fp, PDTs (X.comp scope (tn ++ fr) s H C fp) ifs ft) (he : ∀ s H C fp, PDE (X.comp scope (tn ++ fr) s H C fp) elt fe)
    (hs : ∀ x, foldedSetIterable iter X.env x = pure x := by intro _; rfl) : PDF X (.ListComp elt [⟨tg, iter, ifs, 0⟩] scope pos) (eComp tn.length idx fi set ft fe) :=
  PE.imp (pe_comp (s0 := sig0 tn.length idx) (g := tG (X.comp scope (tn ++ fr) X.s₀ X.H₀ 0 []) set) (ti := tTs (X.comp scope (tn ++ fr) X.s₀ X.H₀ 0 []) ft) (te := tE (X.comp scope (tn ++ fr) X.s₀ X.H₀ 0 []) fe)
    (compScope_of hb) hc (fun σ _ => by simp [sig0, hfr.len]) (sig0_ok hfr) hi hg ht he hs) (comp_read so rfl)
end
end FD

set_option Elab.async false
set_option linter.all false
set_option maxRecDepth 100000
namespace FD
open PySem PySem.Spec PyProof.Rows L2

/-! ### one source of a zip: what it reads stands at ls -/
structure Drw (prog : Program) (w : World) (A : Around) (i : Addr) (n : Nat) (P : Nat → Value → Prop) (st : Nat → Heap → Prop) (rd : Heap → Prop) : Prop where
  at_ : ∀ k h h', st k h → (∀ o, h.get? i = some o → h'.get? i = some o) → st k h'
  live : ∀ k h, st k h → ∃ o n, h.get? i = some o ∧ o.cls = .type n ∧ n ≠ "zip" ∧ n ≠ "tuple" ∧ ∀ v, o.data ≠ .cell v
  rdk : ∀ (h h' : Heap), rd h → (∀ b o, h.get? b = some o → o.cls = .type "list" → h'.get? b = some o) → rd h'
  item : ∀ k (s : Shared) (Q : Value → Shared → Prop) (E : Value → Shared → Prop), k < n → st k s.heap → rd s.heap →
    (∀ x h' tk, P k x → st (k + 1) h' → Heap.SameBut i s.heap h' → Q x { s with heap := h', toks := tk }) → wpAny (model prog w) A (Builtin.SmallTypes.nextOf (.ref i)) Q E s
  done : ∀ k (s : Shared) (Q : Value → Shared → Prop) (E : Value → Shared → Prop), n ≤ k → st k s.heap → rd s.heap →
    (∀ h' e, Heap.ExtBut i s.heap h' → (∃ o, h'.get? e = some o ∧ o.cls = .type "StopIteration") → E (.ref e) { s with heap := h' }) → wpAny (model prog w) A (Builtin.SmallTypes.nextOf (.ref i)) Q E s
theorem Drw.list {prog : Program} {w : World} {A : Around} (hh : A.handled = none) (i l : Addr) (items : Array Value) :
    Drw prog w A i items.size (fun k v => items[k]? = some v) (fun k h => h.IsListIter i l k) (fun h => h.IsList l items) where
  at_ := fun k h h' st hk => st.at hk
  live := fun k h ⟨o, e, c, d⟩ => ⟨o, _, e, c, by decide, by decide, fun v z => by rw [d] at z; cases z⟩
  rdk := fun h h' ⟨o, e, c, r⟩ hk => ⟨o, hk l o e c, c, r⟩
  item := fun k s Q E hk st rd hQ => wpAny_nextOf_list_item st rd (x := items[k]) (by simp [hk]) fun h' st' sb => hQ _ h' s.toks (by simp [hk]) st' sb
  done := fun k s Q E hk st rd hE => wpAny_nextOf_list_end hh st rd (by simp; omega) hE
theorem Drw.str {prog : Program} {w : World} {A : Around} (hh : A.handled = none) (i : Addr) (x : Str) (t : Tok) (ty : String) (hty : ty = "str_ascii_iterator" ∨ ty = "str_iterator") :
    Drw prog w A i x.cps.size (SignAt x) (fun k h => h.IsStrIter i ty x t k) (fun _ => True) where
  at_ := fun k h h' ⟨o, e, r⟩ hk => ⟨o, hk o e, r⟩
  live := fun k h ⟨o, e, c, d⟩ => ⟨o, ty, e, c, by rcases hty with rfl | rfl <;> decide, by rcases hty with rfl | rfl <;> decide, fun v z => by rw [d] at z; cases z⟩
  rdk := fun _ _ _ _ => trivial
  item := fun k s Q E hk st _ hQ => by
    rcases hty with rfl | rfl
    · exact wpAny_nextOf_ascii_item st (c := x.cps[k]) (by simp [hk]) fun h' st' sb => hQ _ h' _ ⟨_, _, by simp [hk], rfl⟩ st' sb
    · exact wpAny_nextOf_wide_item st (c := x.cps[k]) (by simp [hk]) fun h' st' sb => hQ _ h' _ ⟨_, _, by simp [hk], rfl⟩ st' sb
  done := fun k s Q E hk st _ hE => by
    rcases hty with rfl | rfl
    · exact wpAny_nextOf_ascii_end hh st (by simp; omega) hE
    · exact wpAny_nextOf_wide_end hh st (by simp; omega) hE

structure Apart5 (z TI TO i1 i2 : Addr) : Prop where
  TIz : TI ≠ z
  TOz : TO ≠ z
  i1z : i1 ≠ z
  i2z : i2 ≠ z
  TITO : TI ≠ TO
  TIi1 : TI ≠ i1
  TIi2 : TI ≠ i2
  TOi1 : TO ≠ i1
  TOi2 : TO ≠ i2
  i12 : i1 ≠ i2
section
variable {prog : Program} {w : World} {A : Around} {E : Value → Shared → Prop} {s : Shared} {z TI TO i1 i2 : Addr} {n1 n2 : Nat} {P1 P2 : Nat → Value → Prop} {st1 st2 : Nat → Heap → Prop} {rd1 rd2 : Heap → Prop}
/-- no list stands at these -/
theorem notList {h : Heap} {c : Addr} {o : Obj} {n : String} (e : h.get? c = some o) (hc : o.cls = .type n) (hn : n ≠ "list") {b : Addr} {u : Obj} (eb : h.get? b = some u) (hb : u.cls = .type "list") : b ≠ c := by
  rintro rfl
  rw [e] at eb; cases eb
  rw [hc] at hb
  injection hb with q
  exact hn q
theorem zipG_item {k : Nat} {a b : Value} {Q : Value → Shared → Prop} (D : Apart5 z TI TO i1 i2) (D1 : Drw prog w A i1 n1 P1 st1 rd1) (D2 : Drw prog w A i2 n2 P2 st2 rd2) (h1lt : k < n1) (h2lt : k < n2)
    (hz : IsZip s.heap z TI TO .none) (hTI : IsPair s.heap TI (.ref i1) (.ref i2)) (hTO : IsPair s.heap TO a b) (h1 : st1 k s.heap) (h2 : st2 k s.heap) (r1 : rd1 s.heap) (r2 : rd2 s.heap)
    (hn1 : ∀ b o, s.heap.get? b = some o → o.cls = .type "list" → b ≠ i1) (hn2 : ∀ b o, s.heap.get? b = some o → o.cls = .type "list" → b ≠ i2)
    (hQ : ∀ x y h' tk, P1 k x → P2 k y → IsZip h' z TI TO (rawInt s.heap.objs.size) → IsPair h' TO x y → st1 (k + 1) h' → st2 (k + 1) h' → IsPair h' s.heap.objs.size x y → h'.objs.size = s.heap.objs.size + 1 →
      (∀ c o, c ≠ z → c ≠ TO → c ≠ i1 → c ≠ i2 → s.heap.get? c = some o → h'.get? c = some o) → Q (.ref s.heap.objs.size) { s with heap := h', toks := tk }) :
    wpAny (model prog w) A (Builtin.«zip.__next__» ⟨[.ref z], []⟩) (fun fin s' => ∃ v, fin = .done (.ret v) ∧ Q v s') E s := by
  have nz : ∀ b o, s.heap.get? b = some o → o.cls = .type "list" → b ≠ z := fun b o e c => notList hz rfl (by decide) e c
  have nTO : ∀ b o, s.heap.get? b = some o → o.cls = .type "list" → b ≠ TO := fun b o e c => notList hTO rfl (by decide) e c
  show wpAny _ _ (field (.ref z) 2 >>= _) _ _ _
  refine wpAny_bind (wpAny_field hz rfl (x := .bool false) rfl ?_)
  show wpAny _ _ (field (.ref z) 3 >>= _) _ _ _
  refine wpAny_bind (wpAny_field hz rfl (x := .ref TI) rfl ?_)
  refine wpAny_bind (wpAny_seqItems hTI rfl ?_)
  show wpAny _ _ (Builtin.SmallTypes.ownedTupleIsFree (.ref z) >>= _) _ _ _
  refine wpAny_bind ?_
  unfold Builtin.SmallTypes.ownedTupleIsFree
  refine wpAny_bind (wpAny_field hz rfl (x := .none) rfl (wpAny_pure ?_))
  simp only [if_true]
  refine wpAny_bind (wpAny_rule ?_)
  refine wpAny_bind (wpAny_field hz rfl (x := .ref TO) rfl ?_)
  refine wpAny_bind (wpAny_setField_rec hz (by simp) fun h₁ hz₁ hs₁ => ?_)
  replace hz₁ : IsZip h₁ z TI TO .ellipsis := hz₁
  refine wpAny_bind ?_
  simp only [List.zipIdx_cons, List.zipIdx_nil, List.forIn_cons, List.forIn_nil]
  refine wpAny_bind (wpAny_bind (wpAny_onRaise ?_))
  show wpAny _ _ (Builtin.SmallTypes.nextOf (.ref i1) >>= _) _ _ _
  refine wpAny_bind (D1.item k _ _ _ h1lt (D1.at_ _ _ _ h1 fun o e => hs₁.extBut _ o D.i1z e) (D1.rdk _ _ r1 fun b o e c => hs₁.extBut _ _ (nz b o e c) e) fun x h₂ tk2 px h1₂ hs₂ => wpAny_pure ?_)
  have hs₂ : Heap.SameBut i1 h₁ h₂ := hs₂
  have hTO₂ : IsPair h₂ TO a b := hs₂.extBut _ _ D.TOi1 (hs₁.extBut _ _ D.TOz hTO)
  refine wpAny_bind (wpAny_seqItems hTO₂ rfl ?_)
  refine wpAny_bind (wpAny_updateSeq_pair hTO₂ fun h₃ hTO₃ hs₃ => ?_)
  replace hTO₃ : IsPair h₃ TO x b := hTO₃
  have hs₃ : Heap.SameBut TO h₂ h₃ := hs₃
  refine wpAny_bind (wpAny_letGo (wpAny_pure ?_))
  refine wpAny_bind (wpAny_bind (wpAny_onRaise ?_))
  show wpAny _ _ (Builtin.SmallTypes.nextOf (.ref i2) >>= _) _ _ _
  refine wpAny_bind (D2.item k _ _ _ h2lt (D2.at_ _ _ _ h2 fun o e => hs₃.extBut _ o D.TOi2.symm (hs₂.extBut _ o D.i12.symm (hs₁.extBut _ o D.i2z e)))
    (D2.rdk _ _ r2 fun b o e c => hs₃.extBut _ _ (nTO b o e c) (hs₂.extBut _ _ (hn1 b o e c) (hs₁.extBut _ _ (nz b o e c) e))) fun y h₄ tk4 py h2₄ hs₄ => wpAny_pure ?_)
  have hs₄ : Heap.SameBut i2 h₃ h₄ := hs₄
  have hTO₄ : IsPair h₄ TO x b := hs₄.extBut _ _ D.TOi2 hTO₃
  refine wpAny_bind (wpAny_seqItems hTO₄ rfl ?_)
  refine wpAny_bind (wpAny_updateSeq_pair hTO₄ fun h₅ hTO₅ hs₅ => ?_)
  replace hTO₅ : IsPair h₅ TO x y := hTO₅
  have hs₅ : Heap.SameBut TO h₄ h₅ := hs₅
  refine wpAny_bind (wpAny_letGo (wpAny_pure (wpAny_pure ?_)))
  refine wpAny_bind (wpAny_seqItems hTO₅ rfl ?_)
  refine wpAny_bind (wpAny_newTuple ?_)
  have hsz : h₅.objs.size = s.heap.objs.size := by rw [hs₅.1, hs₄.1, hs₃.1, hs₂.1, hs₁.1]
  have hz₅ : IsZip h₅ z TI TO .ellipsis := hs₅.extBut _ _ D.TOz.symm (hs₄.extBut _ _ D.i2z.symm (hs₃.extBut _ _ D.TOz.symm (hs₂.extBut _ _ D.i1z.symm hz₁)))
  have hk₅ : ∀ c o, c ≠ z → c ≠ TO → c ≠ i1 → c ≠ i2 → s.heap.get? c = some o → h₅.get? c = some o := fun c o c1 c2 c3 c4 e =>
    hs₅.extBut _ _ c2 (hs₄.extBut _ _ c4 (hs₃.extBut _ _ c2 (hs₂.extBut _ _ c3 (hs₁.extBut _ _ c1 e))))
  have h1₅ : st1 (k + 1) h₅ := D1.at_ _ _ _ h1₂ fun o e => hs₅.extBut _ _ D.TOi1.symm (hs₄.extBut _ _ D.i12 (hs₃.extBut _ _ D.TOi1.symm e))
  have h2₅ : st2 (k + 1) h₅ := D2.at_ _ _ _ h2₄ fun o e => hs₅.extBut _ _ D.TOi2.symm e
  have hzlt : z < h₅.objs.size := Heap.lt_size hz₅
  show wpAny _ _ (Builtin.SmallTypes.ownedTupleHandOut (.ref z) (.ref h₅.objs.size) >>= _) _ _ _
  refine wpAny_bind ?_
  unfold Builtin.SmallTypes.ownedTupleHandOut
  have hz₆ : IsZip (h₅.push { cls := .type "tuple", data := .seq #[x, y] }) z TI TO .ellipsis := Heap.get?_push_of_some _ hz₅
  refine wpAny_bind (wpAny_setField_rec hz₆ (by simp) fun h₇ hz₇ hs₇ => ?_)
  replace hz₇ : IsZip h₇ z TI TO (rawInt h₅.objs.size) := hz₇
  refine wpAny_setField_rec hz₇ (by simp) fun h₈ hz₈ hs₈ => ?_
  replace hz₈ : IsZip h₈ z TI TO (rawInt h₅.objs.size) := hz₈
  have up : ∀ c o, c ≠ z → h₅.get? c = some o → h₈.get? c = some o := fun c o c1 e => hs₈.extBut _ _ c1 (hs₇.extBut _ _ c1 (Heap.get?_push_of_some _ e))
  have hT₈ : IsPair h₈ h₅.objs.size x y := hs₈.extBut _ _ (Nat.ne_of_gt hzlt) (hs₇.extBut _ _ (Nat.ne_of_gt hzlt) (Heap.get?_push_size _ rfl))
  have hz8 : h₈.objs.size = h₅.objs.size + 1 := by rw [hs₈.1, hs₇.1, Heap.size_push]
  rw [hsz] at hz₈ hT₈ hz8
  refine wpAny_pure ⟨_, rfl, ?_⟩
  show Q (.ref h₅.objs.size) _
  rw [hsz]
  exact hQ x y h₈ _ px py hz₈ (up _ _ D.TOz hTO₅) (D1.at_ _ _ _ h1₅ fun o e => up _ o D.i1z e) (D2.at_ _ _ _ h2₅ fun o e => up _ o D.i2z e) hT₈ hz8 fun c o c1 c2 c3 c4 e => up c o c1 (hk₅ c o c1 c2 c3 c4 e)
theorem zipG_end {k : Nat} {a b : Value} {Q : Fin → Shared → Prop} (D : Apart5 z TI TO i1 i2) (D1 : Drw prog w A i1 n1 P1 st1 rd1) (D2 : Drw prog w A i2 n2 P2 st2 rd2) (hend : n1 ≤ k ∨ n2 ≤ k)
    (hz : IsZip s.heap z TI TO .none) (hTI : IsPair s.heap TI (.ref i1) (.ref i2)) (hTO : IsPair s.heap TO a b) (h1 : st1 k s.heap) (h2 : st2 k s.heap) (r1 : rd1 s.heap) (r2 : rd2 s.heap)
    (hn1 : ∀ b o, s.heap.get? b = some o → o.cls = .type "list" → b ≠ i1)
    (hE : ∀ h' e tk, (∀ c o, c ≠ z → c ≠ TO → c ≠ i1 → c ≠ i2 → s.heap.get? c = some o → h'.get? c = some o) → (∃ o, h'.get? e = some o ∧ o.cls = .type "StopIteration") → E (.ref e) { s with heap := h', toks := tk }) :
    wpAny (model prog w) A (Builtin.«zip.__next__» ⟨[.ref z], []⟩) Q E s := by
  have nz : ∀ b o, s.heap.get? b = some o → o.cls = .type "list" → b ≠ z := fun b o e c => notList hz rfl (by decide) e c
  have nTO : ∀ b o, s.heap.get? b = some o → o.cls = .type "list" → b ≠ TO := fun b o e c => notList hTO rfl (by decide) e c
  show wpAny _ _ (field (.ref z) 2 >>= _) _ _ _
  refine wpAny_bind (wpAny_field hz rfl (x := .bool false) rfl ?_)
  show wpAny _ _ (field (.ref z) 3 >>= _) _ _ _
  refine wpAny_bind (wpAny_field hz rfl (x := .ref TI) rfl ?_)
  refine wpAny_bind (wpAny_seqItems hTI rfl ?_)
  show wpAny _ _ (Builtin.SmallTypes.ownedTupleIsFree (.ref z) >>= _) _ _ _
  refine wpAny_bind ?_
  unfold Builtin.SmallTypes.ownedTupleIsFree
  refine wpAny_bind (wpAny_field hz rfl (x := .none) rfl (wpAny_pure ?_))
  simp only [if_true]
  refine wpAny_bind (wpAny_rule ?_)
  refine wpAny_bind (wpAny_field hz rfl (x := .ref TO) rfl ?_)
  refine wpAny_bind (wpAny_setField_rec hz (by simp) fun h₁ hz₁ hs₁ => ?_)
  replace hz₁ : IsZip h₁ z TI TO .ellipsis := hz₁
  refine wpAny_bind ?_
  simp only [List.zipIdx_cons, List.zipIdx_nil, List.forIn_cons, List.forIn_nil]
  refine wpAny_bind (wpAny_bind (wpAny_onRaise ?_))
  show wpAny _ _ (Builtin.SmallTypes.nextOf (.ref i1) >>= _) _ _ _
  have s1 := D1.at_ _ _ h₁ h1 fun o e => hs₁.extBut _ o D.i1z e
  have d1 := D1.rdk _ h₁ r1 fun b o e c => hs₁.extBut _ _ (nz b o e c) e
  by_cases hk : n1 ≤ k
  · refine wpAny_bind (D1.done k _ _ _ hk s1 d1 fun h₂ e hs₂ he => ?_)
    obtain ⟨oe, hoe, hce⟩ := he
    have hz₂ : IsZip h₂ z TI TO .ellipsis := hs₂ _ _ D.i1z.symm hz₁
    have hez : e ≠ z := fun x => by subst x; rw [hz₂] at hoe; cases hoe; simp at hce
    refine wpAny_setField_rec hz₂ (by simp) fun h₃ _ hs₃ => hE h₃ e _ (fun c o c1 _ c3 _ x => hs₃.extBut _ _ c1 (hs₂ _ _ c3 (hs₁.extBut _ _ c1 x))) ⟨oe, hs₃.extBut _ _ hez hoe, hce⟩
  · have hk2 : n2 ≤ k := by rcases hend with h | h; exact absurd h hk; exact h
    refine wpAny_bind (D1.item k _ _ _ (by omega) s1 d1 fun x h₂ tk2 px h1₂ hs₂ => wpAny_pure ?_)
    have hs₂ : Heap.SameBut i1 h₁ h₂ := hs₂
    have hTO₂ : IsPair h₂ TO a b := hs₂.extBut _ _ D.TOi1 (hs₁.extBut _ _ D.TOz hTO)
    refine wpAny_bind (wpAny_seqItems hTO₂ rfl ?_)
    refine wpAny_bind (wpAny_updateSeq_pair hTO₂ fun h₃ hTO₃ hs₃ => ?_)
    have hs₃ : Heap.SameBut TO h₂ h₃ := hs₃
    refine wpAny_bind (wpAny_letGo (wpAny_pure ?_))
    refine wpAny_bind (wpAny_bind (wpAny_onRaise ?_))
    show wpAny _ _ (Builtin.SmallTypes.nextOf (.ref i2) >>= _) _ _ _
    refine wpAny_bind (D2.done k _ _ _ hk2 (D2.at_ _ _ _ h2 fun o e => hs₃.extBut _ o D.TOi2.symm (hs₂.extBut _ o D.i12.symm (hs₁.extBut _ o D.i2z e)))
      (D2.rdk _ _ r2 fun b o e c => hs₃.extBut _ _ (nTO b o e c) (hs₂.extBut _ _ (hn1 b o e c) (hs₁.extBut _ _ (nz b o e c) e))) fun h₄ e hs₄ he => ?_)
    obtain ⟨oe, hoe, hce⟩ := he
    have hs₄ : Heap.ExtBut i2 h₃ h₄ := hs₄
    have hz₄ : IsZip h₄ z TI TO .ellipsis := hs₄ _ _ D.i2z.symm (hs₃.extBut _ _ D.TOz.symm (hs₂.extBut _ _ D.i1z.symm hz₁))
    have hez : e ≠ z := fun x => by subst x; rw [hz₄] at hoe; cases hoe; simp at hce
    refine wpAny_setField_rec hz₄ (by simp) fun h₅ _ hs₅ => hE h₅ e _ (fun c o c1 c2 c3 c4 x => hs₅.extBut _ _ c1 (hs₄ _ _ c4 (hs₃.extBut _ _ c2 (hs₂.extBut _ _ c3 (hs₁.extBut _ _ c1 x))))) ⟨oe, hs₅.extBut _ _ hez hoe, hce⟩
theorem zipG_next {k : Nat} {a b : Value} {Q : Option Value → Shared → Prop} (D : Apart5 z TI TO i1 i2) (D1 : Drw prog w A.in1 i1 n1 P1 st1 rd1) (D2 : Drw prog w A.in1 i2 n2 P2 st2 rd2) (h1lt : k < n1) (h2lt : k < n2)
    (hz : IsZip s.heap z TI TO .none) (hTI : IsPair s.heap TI (.ref i1) (.ref i2)) (hTO : IsPair s.heap TO a b) (h1 : st1 k s.heap) (h2 : st2 k s.heap) (r1 : rd1 s.heap) (r2 : rd2 s.heap)
    (hn1 : ∀ b o, s.heap.get? b = some o → o.cls = .type "list" → b ≠ i1) (hn2 : ∀ b o, s.heap.get? b = some o → o.cls = .type "list" → b ≠ i2)
    (hQ : ∀ x y h' tk, P1 k x → P2 k y → IsZip h' z TI TO (rawInt s.heap.objs.size) → IsPair h' TO x y → st1 (k + 1) h' → st2 (k + 1) h' → IsPair h' s.heap.objs.size x y → h'.objs.size = s.heap.objs.size + 1 →
      (∀ c o, c ≠ z → c ≠ TO → c ≠ i1 → c ≠ i2 → s.heap.get? c = some o → h'.get? c = some o) → Q (some (.ref s.heap.objs.size)) { s with heap := h', toks := tk }) :
    wpAny (model prog w) A (pyNext (.ref z)) Q E s := by
  have hT : s.TypeIs (.ref z) "zip" := ⟨_, hz, rfl⟩
  unfold pyNext
  exact wpAny_bind (wpAny_attempt (wpAny_callSpecial?_slot (name := Str.ofString "__next__") hT F.slot_zip_next
    (wpAny_call_entry F.slot_zip_next hT F.entry_zip_next
      (zipG_item D D1 D2 h1lt h2lt hz hTI hTO h1 h2 r1 r2 hn1 hn2 fun x y h' tk a1 a2 a3 a4 a5 a6 a7 a8 a9 => wpAny_pure (hQ x y h' tk a1 a2 a3 a4 a5 a6 a7 a8 a9)) (F.args_zip_next_1 _))))
theorem zipG_stop {k : Nat} {a b : Value} {Q : Option Value → Shared → Prop} (D : Apart5 z TI TO i1 i2) (D1 : Drw prog w A.in1 i1 n1 P1 st1 rd1) (D2 : Drw prog w A.in1 i2 n2 P2 st2 rd2) (hend : n1 ≤ k ∨ n2 ≤ k)
    (hz : IsZip s.heap z TI TO .none) (hTI : IsPair s.heap TI (.ref i1) (.ref i2)) (hTO : IsPair s.heap TO a b) (h1 : st1 k s.heap) (h2 : st2 k s.heap) (r1 : rd1 s.heap) (r2 : rd2 s.heap)
    (hn1 : ∀ b o, s.heap.get? b = some o → o.cls = .type "list" → b ≠ i1)
    (hQ : ∀ h' tk, (∀ c o, c ≠ z → c ≠ TO → c ≠ i1 → c ≠ i2 → s.heap.get? c = some o → h'.get? c = some o) → Q none { s with heap := h', toks := tk }) : wpAny (model prog w) A (pyNext (.ref z)) Q E s := by
  have hT : s.TypeIs (.ref z) "zip" := ⟨_, hz, rfl⟩
  unfold pyNext
  refine wpAny_bind (wpAny_attempt (wpAny_callSpecial?_slot (name := Str.ofString "__next__") hT F.slot_zip_next
    (wpAny_call_entry F.slot_zip_next hT F.entry_zip_next (zipG_end D D1 D2 hend hz hTI hTO h1 h2 r1 r2 hn1 fun h' e tk hk he => ?_) (F.args_zip_next_1 _))))
  obtain ⟨o, ho, hc⟩ := he
  refine wpAny_bind (wpAny_isInstance (T := "StopIteration") (b := true) ⟨o, ho, hc⟩ isSubtype_stop ?_)
  exact wpAny_pure (hQ _ tk hk)
end
end FD

set_option Elab.async false
set_option linter.all false
set_option maxRecDepth 100000
namespace FD
open PySem PySem.Spec PyProof.Rows L2

/-! ### zip(text, list), its pairs unpacked -/
def Itz (K : PySem.W.Frag) (x : Str) (l : Addr) : It :=
  ⟨fun k H => ∃ vs, SqL K H l vs ∧ k < x.cps.size ∧ k < vs.length,
   fun k H y H' => ∃ p c v, H p = none ∧ (∀ vs, SqL K H l vs → vs[k]? = some v) ∧ x.cps[k]? = some c ∧ y = .ref p ∧ H' = upd H p (.tup [.str ⟨#[c]⟩, v]),
   fun k H => ∃ vs, SqL K H l vs ∧ (x.cps.size ≤ k ∨ vs.length ≤ k)⟩
theorem turnedL {X : Cx} {pins : List (Addr × Obj)} {σ : St} {H : Hp} {s : Shared} {h' : Heap} {t' : Nat} {ch : List Addr} (I : Inv X pins σ H s) (k : ∀ b o, b ∉ ch → s.heap.get? b = some o → h'.get? b = some o) (hf : ∀ b ∈ ch, FpOk X pins H b) (he : ∀ b ∈ ch, H b = none) :
    Inv X pins σ H { s with heap := h', toks := t' } := by
  refine I.step (g' := s.gens) (d' := s.drawn) (ch := ch) (fun b hb => ?_) (fun b o _ _ hc e _ => k b o hc e) (fun b o _ _ hc e _ => ⟨o.slots, k b o hc e⟩) (fun _ _ _ _ n => n)
    (fun b o hc e => ⟨o, k b o hc e⟩) (fun _ _ e => e) (fun _ _ _ e => e) (fun b ps e => ⟨#[], by rw [e]; simp⟩) (fun m hm => ?_) (fun b u e => ?_) I.bare
  · obtain ⟨f0, f1, f2, f3, f4, f5⟩ := hf b hb
    exact ⟨f3, f1, f4, f5⟩
  · obtain ⟨o, es, ep, ho, r⟩ := hm
    exact ⟨o, es, ep, k _ o (fun z => (hf _ z).2.1 rfl) ho, r⟩
  · refine (I.hok b u e).stay (fun c v hc q => k c v ?_ q) (fun _ q => q) fun _ _ q => q
    intro z
    rcases hc with q | q
    · subst q; rw [he c z] at e; cases e
    · rw [he c z] at q; cases q
/-- .. and a new tuple is laid -/
theorem turnedT {X : Cx} {pins : List (Addr × Obj)} {σ : St} {H : Hp} {s : Shared} {h' : Heap} {t' : Nat} {ch : List Addr} {p : Addr} {xs : List V} {its : List Value} (I : Inv X pins σ H s) (k : ∀ b o, b ∉ ch → s.heap.get? b = some o → h'.get? b = some o) (hf : ∀ b ∈ ch, FpOk X pins H b)
    (hp : s.heap.objs.size ≤ p) (ht : IsTup h' p its.toArray) (hv : Vals xs its) (hz : xs.length ≤ sizeLine) :
    Inv X pins σ (upd H p (.tup xs)) { s with heap := h', toks := t' } := by
  have hn : H p = none := I.hok.fresh hp
  have lt : ∀ {b : Addr} {o : Obj}, s.heap.get? b = some o → b ≠ p := fun e => Nat.ne_of_lt (Nat.lt_of_lt_of_le (Heap.lt_size e) hp)
  refine I.step (g' := s.gens) (d' := s.drawn) (ch := ch) (fun b hb => ?_) (fun b o _ _ hc e _ => k b o hc e) (fun b o _ _ hc e _ => ⟨o.slots, k b o hc e⟩) (fun b o _ e n => by rw [upd_ne (lt e)]; exact n)
    (fun b o hc e => ⟨o, k b o hc e⟩) (fun b ys e => by rw [upd_ne (ne_of_none e hn)]; exact e) (fun b o u e => by rw [upd_ne (ne_of_none e hn)]; exact e) (fun b ps e => ⟨#[], by rw [upd_ne (ne_of_none e hn), e]; simp⟩) (fun m hm => ?_) (fun b u e => ?_) I.bare
  · obtain ⟨f0, f1, f2, f3, f4, f5⟩ := hf b hb
    exact ⟨f3, f1, f4, f5⟩
  · obtain ⟨o, es, ep, ho, r⟩ := hm
    exact ⟨o, es, ep, k _ o (fun z => (hf _ z).2.1 rfl) ho, r⟩
  · by_cases hb : b = p
    · subst hb; rw [upd_same] at e; cases e
      exact ⟨hz, its, hv, ht⟩
    · rw [upd_ne hb] at e
      refine (I.hok b u e).stay (fun c v hc q => k c v ?_ q) (fun c q => by rw [upd_ne (ne_of_none q hn)]; exact q) fun c ys q => by rw [upd_ne (ne_of_none q hn)]; exact q
      intro z
      rcases hc with q | q
      · subst q; rw [(hf c z).1] at e; cases e
      · rw [(hf c z).1] at q; cases q
theorem turn_zip {P : Program} {w : World} {K : PySem.W.Frag} {elts : List Expr} {x1} {pos : Pos} {z TI TO i1 i2 l : Addr} {x : Str} {t : Tok} {ty : String} (D : Apart5 z TI TO i1 i2) (hty : ty = "str_ascii_iterator" ∨ ty = "str_iterator") :
    Turn P w K (.Tuple elts x1 pos) (Itz K x l) [z, TI, TO, i1, i2] z (fun k h => IsZip h z TI TO .none ∧ IsPair h TI (.ref i1) (.ref i2) ∧ (∃ a b, IsPair h TO a b) ∧ h.IsStrIter i1 ty x t k ∧ h.IsListIter i2 l k) where
  mem := by simp
  obj := fun k h ⟨h1, h2, ⟨a, b, h3⟩, ⟨o4, e4, c4, d4⟩, ⟨o5, e5, c5, d5⟩⟩ b hb => by
    simp at hb
    rcases hb with rfl | rfl | rfl | rfl | rfl
    · exact ⟨_, h1, fun v z => by cases z⟩
    · exact ⟨_, h2, fun v z => by cases z⟩
    · exact ⟨_, h3, fun v z => by cases z⟩
    · exact ⟨_, e4, fun v z => by rw [d4] at z; cases z⟩
    · exact ⟨_, e5, fun v z => by rw [d5] at z; cases z⟩
  keep := fun k h h' ⟨h1, h2, ⟨a, b, h3⟩, ⟨o4, e4, r4⟩, h5⟩ hk => ⟨hk z (by simp) _ h1, hk TI (by simp) _ h2, ⟨a, b, hk TO (by simp) _ h3⟩, ⟨o4, hk i1 (by simp) _ e4, r4⟩, h5.at fun o e => hk i2 (by simp) o e⟩
  item := by
    intro X hP hw hK hc k pins s σ H E I hf ⟨h1, h2, ⟨a, b, h3⟩, h4, h5⟩ hg
    subst hP hw hK
    obtain ⟨vs, hq, l1, l2⟩ := hg
    obtain ⟨its, rv, p, hz⟩ := I.list hq
    have hh : X.A.in1.handled = none := I.ok.hd hc
    have hlen := rv.length
    obtain ⟨o4, e4, c4, d4⟩ := id h4
    obtain ⟨o5, e5, c5, d5⟩ := id h5
    have n1 : ∀ b o, s.heap.get? b = some o → o.cls = .type "list" → b ≠ i1 := fun b o e c => notList e4 c4 (by rcases hty with rfl | rfl <;> decide) e c
    have n2 : ∀ b o, s.heap.get? b = some o → o.cls = .type "list" → b ≠ i2 := fun b o e c => notList e5 c5 (by decide) e c
    refine zipG_next D (Drw.str hh i1 x t ty hty) (Drw.list hh i2 l its.toArray) l1 (by simpa [← hlen] using l2) h1 h2 h3 h4 h5 trivial p.isList n1 n2 fun u1 u2 h' tk p1 p2 q1 q2 q3 q4 q5 q6 q7 => ?_
    obtain ⟨c, tc, ec, rfl⟩ := p1
    have p2' : its[k]? = some u2 := by simpa using p2
    have hvk : vs[k]? = some vs[k] := by simp [l2]
    obtain ⟨w', ew, rw'⟩ := rv.get hvk
    rw [p2'] at ew; cases ew
    refine ⟨_, rfl, wpAny_letOwnedTupleGo_zip (s := { s with heap := h', toks := tk }) q1 fun h'' z1 sb => ?_⟩
    have np : s.heap.objs.size ≠ z := Nat.ne_of_gt (Heap.lt_size h1)
    refine ⟨.ref s.heap.objs.size, upd H s.heap.objs.size (.tup [.str ⟨#[c]⟩, vs[k]]), ?_, rfl, ⟨_, c, vs[k], I.hok.fresh (Nat.le_refl _), fun ws hw => by rw [I.list_inj hw hq]; exact hvk, ec, rfl, rfl⟩, ⟨z1, ?_, ⟨_, _, sb.extBut _ _ D.TOz q2⟩, ?_, ?_⟩, fun b hb => ?_⟩
    · refine (turnedT (s := s) (h' := h'') (t' := tk) (xs := [.str ⟨#[c]⟩, vs[k]]) (ch := [z, TI, TO, i1, i2]) I (fun b o hb e => ?_) hf (Nat.le_refl _) ⟨_, sb.extBut _ _ np q5, rfl, _, rfl⟩ (.cons ⟨tc, rfl⟩ (.cons rw' .nil)) (by show 2 ≤ sizeLine; decide) : Inv X pins σ _ { s with heap := h'', toks := tk })
      simp at hb
      exact sb.extBut _ _ hb.1 (q7 b o hb.1 hb.2.2.1 hb.2.2.2.1 hb.2.2.2.2 e)
    · exact sb.extBut _ _ D.TIz (q7 _ _ D.TIz D.TITO D.TIi1 D.TIi2 h2)
    · obtain ⟨o, e, r⟩ := q3
      exact ⟨o, sb.extBut _ _ D.i1z e, r⟩
    · obtain ⟨o, e, r⟩ := q4
      exact ⟨o, sb.extBut _ _ D.i2z e, r⟩
    · have lt : b < s.heap.objs.size := by
        simp at hb
        rcases hb with rfl | rfl | rfl | rfl | rfl
        · exact Heap.lt_size h1
        · exact Heap.lt_size h2
        · exact Heap.lt_size h3
        · exact Heap.lt_size e4
        · exact Heap.lt_size e5
      rw [upd_ne (Nat.ne_of_lt lt)]
      exact (hf b hb).1
  done := by
    intro X hP hw hK hc k pins s σ H E I hf ⟨h1, h2, ⟨a, b, h3⟩, h4, h5⟩ hg
    subst hP hw hK
    obtain ⟨vs, hq, hend⟩ := hg
    obtain ⟨its, rv, p, hz⟩ := I.list hq
    have hh : X.A.in1.handled = none := I.ok.hd hc
    have hlen := rv.length
    obtain ⟨o4, e4, c4, d4⟩ := id h4
    have n1 : ∀ b o, s.heap.get? b = some o → o.cls = .type "list" → b ≠ i1 := fun b o e c => notList e4 c4 (by rcases hty with rfl | rfl <;> decide) e c
    refine zipG_stop D (Drw.str hh i1 x t ty hty) (Drw.list hh i2 l its.toArray) (by simpa [← hlen] using hend) h1 h2 h3 h4 h5 trivial p.isList n1 fun h' tk hk => ⟨rfl, turnedL (ch := [z, TI, TO, i1, i2]) I (fun b o hb e => ?_) hf fun b hb => (hf b hb).1⟩
    simp at hb
    exact hk b o hb.1 hb.2.2.1 hb.2.2.2.1 hb.2.2.2.2 e
  self := fun _ _ _ _ _ ⟨h1, _⟩ h => wpAny_pyIter_zip h1 h

end FD

set_option Elab.async false
set_option linter.all false
set_option maxRecDepth 100000
namespace FD
open PySem PySem.Spec PyProof.Rows L2
set_option maxHeartbeats 4000000 in
theorem meets_zip_str (l2 : Addr) (ys : Array Value) (x : Str) (t : Tok) (ty : String) (hc : ty = if x.cps.all (· < 128) then "str_ascii_iterator" else "str_iterator") :
    Meets (Builtin.«zip.__new__» ⟨[.type "zip", .str x t, .ref l2], []⟩) (fun _ R s => s.heap.IsList l2 ys ∧
      ∀ h1 h2 h3 h4 h5, h1 = s.heap.push { cls := .type ty, data := .fields #[.str x t, .int 0 0] } → h2 = h1.push { cls := .type "list_iterator", data := .fields #[.ref l2, .int 0 0] } → h3 = h2.push { cls := .type "tuple", data := .seq #[.ref s.heap.objs.size, .ref h1.objs.size] } →
        h4 = h3.push { cls := .type "tuple", data := .seq #[.none, .none] } → h5 = h4.push { cls := .type "zip", data := .fields #[.none, .bool false, .bool false, .ref h2.objs.size, .ref h3.objs.size] } → R (.ok (.ret (.ref h4.objs.size))) { s with heap := h5 }) :=
  .of_wp fun prog w A R s h => by
    obtain ⟨hp, g, d, tk, os⟩ := s; obtain ⟨hl2, h⟩ := h
    have hsub := sub_zip
    cases ha : x.cps.all (· < 128)
    · rw [ha] at hc
      have hc : ty = "str_iterator" := by simpa using hc
      subst hc
      have hL2 : Heap.IsList (Shared.heap ⟨hp.push { cls := .type "str_iterator", data := .fields #[.str x t, .int 0 0] }, g, d, tk, os⟩) l2 ys := Heap.IsList.push hl2 _
      wp_walk using wpAny_pyIter_wide ha, wpAny_pyIter_list hL2
      exact ⟨_, rfl, h _ _ _ _ _ rfl rfl rfl rfl rfl⟩
    · rw [ha] at hc
      have hc : ty = "str_ascii_iterator" := by simpa using hc
      subst hc
      have hL2 : Heap.IsList (Shared.heap ⟨hp.push { cls := .type "str_ascii_iterator", data := .fields #[.str x t, .int 0 0] }, g, d, tk, os⟩) l2 ys := Heap.IsList.push hl2 _
      wp_walk using wpAny_pyIter_ascii ha, wpAny_pyIter_list hL2
      exact ⟨_, rfl, h _ _ _ _ _ rfl rfl rfl rfl rfl⟩
end FD

set_option Elab.async false
set_option linter.all false
set_option maxRecDepth 100000
namespace FD
open PySem PySem.Spec PyProof.Rows L2

/-! ### the signs of a text, one by one -/
def signD (c : Nat) : D := .str ⟨#[c]⟩
def signsD (x : Str) : List D := x.cps.toList.map signD
def Its (x : Str) : It := ⟨fun i _ => i < x.cps.size, fun i H y H' => H' = H ∧ ∃ c, x.cps[i]? = some c ∧ y = .str ⟨#[c]⟩, fun i _ => x.cps.size ≤ i⟩
theorem turn_str {P : Program} {w : World} {K : PySem.W.Frag} {tg : Expr} {it : Addr} {x : Str} {t : Tok} {ty : String} (hty : ty = "str_ascii_iterator" ∨ ty = "str_iterator") : Turn P w K tg (Its x) [it] it (fun k h => h.IsStrIter it ty x t k) where
  mem := by simp
  obj := fun i h ⟨o, e, c, d⟩ b hb => by
    have z : b = it := by simpa using hb
    subst z
    exact ⟨o, e, fun v z => by rw [d] at z; cases z⟩
  keep := fun i h h' ⟨o, e, r⟩ k => ⟨o, k it (by simp) o e, r⟩
  item := by
    intro X hP hw hK hc i pins s σ H E I hf st hg
    subst hP hw hK
    obtain ⟨f0, f1, f2, f3, f4, f5⟩ := hf it (by simp)
    have hh : X.A.handled = none := I.ok.hd hc
    have W : Walks X.prog X.w X.A it [it] [it] x.cps.size (SignAt x) (fun i h => h.IsStrIter it ty x t i) := by
      rcases hty with rfl | rfl
      · exact Walks.strAscii hh it x t
      · exact Walks.strWide hh it x t
    refine W.item i s _ _ hg st fun v h' tk hv st' kk => ?_
    obtain ⟨c, u, ec, rfl⟩ := hv
    have I1 : Inv X pins σ H { s with heap := h', toks := tk } := I.turned (fun b o hb e => kk b o (by simpa using hb) e) f0 f1 f3 f4 f5
    obtain ⟨o, e, cc, d⟩ := id st'
    exact ⟨_, rfl, go_of (s := { s with heap := h', toks := tk }) e cc d (by rcases hty with rfl | rfl <;> decide) ⟨.str ⟨#[c]⟩, H, I1, ⟨u, rfl⟩, ⟨rfl, c, ec, rfl⟩, st', fun b hb => (hf b hb).1⟩⟩
  done := by
    intro X hP hw hK hc i pins s σ H E I hf st hg
    subst hP hw hK
    obtain ⟨f0, f1, f2, f3, f4, f5⟩ := hf it (by simp)
    have hh : X.A.handled = none := I.ok.hd hc
    have hx : x.cps[i]? = none := by have : x.cps.size ≤ i := hg; simp; omega
    rcases hty with rfl | rfl
    · exact wpAny_pyNext_ascii_end hh st hx fun h' eb => ⟨rfl, I.turned (t' := s.toks) (fun b o hb e => eb b o hb e) f0 f1 f3 f4 f5⟩
    · exact wpAny_pyNext_wide_end hh st hx fun h' eb => ⟨rfl, I.turned (t' := s.toks) (fun b o hb e => eb b o hb e) f0 f1 f3 f4 f5⟩
  self := fun _ _ _ _ _ st h => by
    rcases hty with rfl | rfl
    · exact wpAny_pyIter_striter_ascii st h
    · exact wpAny_pyIter_striter_wide st h
section
variable {X : Cx} {pos : Pos} {e tg : Expr} {es : List Expr} {fe : FE} {fs : FA}
theorem it_str {K : PySem.W.Frag} {F1 : Hp} {x : Str} : ItOk K (Its x) F1 (signsD x) := fun i F H f1 f2 => by
  have hl : (signsD x).length = x.cps.size := by simp [signsD]
  refine ⟨fun h => by rw [hl] at h; exact h, fun d hd => ?_⟩
  have hi : i < x.cps.size := by have := (List.getElem?_eq_some_iff.mp hd).1; rw [hl] at this; exact this
  refine ⟨hi, fun y H' yy => ?_⟩
  obtain ⟨e1, c, ec, rfl⟩ := yy
  subst e1
  refine ⟨F, Ext.refl f2, ?_⟩
  have : d = signD c := by
    simp only [signsD, List.getElem?_map] at hd
    have e2 : x.cps.toList[i]? = some c := by simpa using ec
    rw [e2] at hd
    exact (Option.some.inj hd).symm
  subst this
  simp only [signD, Rep]
/-! ### a range that falls: range(a, b, -1) -/
def Itd (hi : Int) (n : Nat) : It := ⟨fun i _ => i < n, fun i H x H' => H' = H ∧ x = .int (hi - i), fun i _ => n ≤ i⟩
theorem turn_rangeD {P : Program} {w : World} {K : PySem.W.Frag} {tg : Expr} (it : Addr) (hi : Int) (n : Nat) : Turn P w K tg (Itd hi n) [it] it (fun i h => IsRangeIter h it (hi + (i : Nat) * (-1)) ((n : Int) - (i : Nat)) (-1)) where
  mem := by simp
  obj := fun i h st b hb => by
    have e : b = it := by simpa using hb
    subst e
    exact ⟨_, st, fun v z => by
      have z' : Data.fields _ = Data.cell v := z
      cases z'⟩
  keep := fun i h h' st k => k it (by simp) _ st
  item := by
    intro X hP hw hK hc i pins s σ H E I hf st hg
    subst hP hw hK
    obtain ⟨f0, f1, f2, f3, f4, f5⟩ := hf it (by simp)
    have W := Walks.range (prog := X.prog) (w := X.w) (I.ok.hd hc) it hi (-1) n
    refine W.item i s _ _ hg st fun v h' tk hv st' kk => ?_
    obtain ⟨t, rfl⟩ := hv
    have I1 : Inv X pins σ H { s with heap := h', toks := tk } := I.turned (fun b o hb e => kk b o (by simpa using hb) e) f0 f1 f3 f4 f5
    refine ⟨_, rfl, go_of (s := { s with heap := h', toks := tk }) (n := "range_iterator") st' rfl rfl (by decide) ⟨.int (hi - i), H, I1, ⟨t, ?_⟩, ⟨rfl, rfl⟩, st', fun b hb => (hf b hb).1⟩⟩
    congr 1
    omega
  done := by
    intro X hP hw hK hc i pins s σ H E I hf st hg
    subst hP hw hK
    obtain ⟨f0, f1, f2, f3, f4, f5⟩ := hf it (by simp)
    exact wpAny_pyNext_range_end (I.ok.hd hc) st (by have : n ≤ i := hg; omega) fun h' eb => ⟨rfl, I.turned (t' := s.toks) (fun b o hb e => eb b o hb e) f0 f1 f3 f4 f5⟩
  self := fun _ _ _ _ _ st h => wpAny_pyIter_rangeiter st h
end
end FD

set_option Elab.async false
set_option linter.all false
set_option maxRecDepth 100000
namespace FD
open PySem PySem.Spec PyProof.Rows L2
section
variable {X : Cx} {pos : Pos} {e tg : Expr} {es : List Expr} {fe : FE} {fs : FA}
/-! ### len -/
def len1 : D → Rs D
  | .lst ds => .ok (.int ds.length)
  | .tup ds => .ok (.int ds.length)
  | .scr ns => .ok (.int ns.length)
  | .str x => if x.length ≤ sizeLine then .ok (.int x.length) else .no
  | _ => .no
def lenD : List D → Rs D
  | [d] => len1 d
  | _ => .no
theorem cd_len : CallD X (.builtin "len") lenD := ⟨_, call_len_seq.or call_len_str, fun F H vs ds Q fh r h => by
  match ds, r, h with
  | [d], r, h =>
    obtain ⟨v, rfl, q⟩ := r.one
    cases d with
    | lst ds =>
      simp only [Rep] at q; obtain ⟨a, ws, rfl, e1, t⟩ := q
      refine .inl ⟨a, ws, rfl, .inl (SqL.of (fh _ _ e1)), ?_⟩
      rw [← t.length]; exact h _ F H (Ext.refl fh) (by simp only [Rep])
    | tup ds =>
      simp only [Rep] at q; obtain ⟨a, ws, rfl, e1, t⟩ := q
      refine .inl ⟨a, ws, rfl, .inr (Same.seqT fh e1), ?_⟩
      rw [← t.length]; exact h _ F H (Ext.refl fh) (by simp only [Rep])
    | scr ns =>
      simp only [Rep] at q; obtain ⟨a, rfl, e1⟩ := q
      refine .inl ⟨a, _, rfl, .inl (fh.seq e1), ?_⟩
      rw [List.length_map]; exact h _ F H (Ext.refl fh) (by simp only [Rep])
    | str x =>
      simp only [Rep] at q; subst q
      obtain ⟨z, h⟩ := ok_ite h
      exact .inr ⟨x, rfl, z, h _ F H (Ext.refl fh) (by simp only [Rep])⟩
    | _ => exact h.elim
  | [], _, h => exact h.elim
  | _ :: _ :: _, _, h => exact (show False from h).elim⟩
/-! ### min, max of two ints -/
def min2D (ds : List D) : Rs D := match int2 ds with
  | some (i, j) => .ok (.int (if j < i then j else i))
  | none => .no
theorem cd_min2 (hc : X.calm = true) : CallD X (.builtin "min") min2D := ⟨_, call_min2 hc, fun F H vs ds Q fh r h => by
  unfold min2D at h
  cases q : int2 ds with
  | none => rw [q] at h; exact h.elim
  | some ij =>
    obtain ⟨i, j⟩ := ij
    rw [q] at h
    have e := int2_eq q
    subst e
    obtain ⟨v, w, rfl, r1, r2⟩ := r.two
    simp only [Rep] at r1 r2; subst r1; subst r2
    exact ⟨i, j, rfl, h _ F H (Ext.refl fh) (by simp only [Rep])⟩⟩
/-! ### range(a, b, -1) -/
theorem rangeSize_down (a b : Int) : Builtin.Range.rangeSize a b (-1) = ((a - b).toNat : Int) := by
  unfold Builtin.Range.rangeSize
  rw [if_neg (by decide)]
  by_cases h : a > b
  · rw [if_pos h, show (- -1 : Int) = 1 from rfl, Int.ediv_one]; omega
  · rw [if_neg h]; omega
theorem small_down {a b : Int} (ha : -(2 ^ 62) ≤ a) (ha' : a < 2 ^ 62) (hb : -(2 ^ 62) ≤ b) (hb' : b < 2 ^ 62) : Builtin.Range.small a b (-1) = true := by
  unfold Builtin.Range.small
  rw [rangeSize_down]
  simp only [Builtin.Range.rangeFitsLong, Bool.and_eq_true, Bool.or_eq_true, decide_eq_true_eq, beq_iff_eq, show ¬ (-1 : Int) > 0 by decide, if_false]
  omega
def iRngD (ta : TA) : TI := fun σ H R => ta σ H fun vs H1 => ∃ i j : Int, vs = [.int i, .int j, .int (-1)] ∧ (-(2 ^ 62) ≤ i ∧ i < 2 ^ 62 ∧ -(2 ^ 62) ≤ j ∧ j < 2 ^ 62) ∧ R (Itd i (i - j).toNat) H1
theorem pi_rangeD {a b c : Expr} {ta : TA} {p pos : Pos} (hg : Gl X "range") (hm : X.mg "range" = none) (ha : PA X [a, b, c] ta) (hs : starEach [a, b, c] X.env = [(false, eval a X.env), (false, eval b X.env), (false, eval c X.env)] := by rfl) (hs2 : starEach [b, c] X.env = [(false, eval b X.env), (false, eval c X.env)] := by rfl) :
    PI X tg (.Call (.Name "range" p) [a, b, c] [] pos) (iRngD ta) := by
  intro pins s σ H R I h
  refine Call_ (ld_blt I hg hm boot_range (PyProof.Rows.callWith_type1 (thn (ha pos pins s σ H _ I h) fun us s1 ⟨vs, H1, I1, r1, q1⟩ => ?_) (by rw [hs, hs2]) (by rw [hs2]; rfl)))
  obtain ⟨i, j, e, ⟨q1, q2, q3, q4⟩, q⟩ := q1
  subst e
  cases r1 with
  | cons r rr =>
    cases rr with
    | cons r' rr =>
      cases rr with
      | cons r'' rr =>
        cases rr
        obtain ⟨t, rfl⟩ := r
        obtain ⟨t', rfl⟩ := r'
        obtain ⟨t'', rfl⟩ := r''
        refine call_range_3 (by decide) ?_ (.inl (PyProof.noPylong_small (by decide)))
        have I2 : Inv X pins σ H1 { s1 with heap := s1.heap.push { cls := .type "range", data := .fields #[.int i t, .int j t', .int (-1) t''] }, toks := s1.toks } := I1.kept fun b o e => Heap.get?_push_of_some _ e
        refine wpAny_pyIter_range (IsRange.new ..) (small_down q1 q2 q3 q4) ?_
        refine ⟨(s1.heap.push { cls := .type "range", data := .fields #[.int i t, .int j t', .int (-1) t''] }).objs.size, [(s1.heap.push { cls := .type "range", data := .fields #[.int i t, .int j t', .int (-1) t''] }).objs.size], _, _, H1, rfl,
          I2.kept (t' := s1.toks) fun b o e => Heap.get?_push_of_some _ e, turn_rangeD _ i (i - j).toNat, ?_, fun b hb => ?_, q⟩
        · have e1 : i + ((0 : Nat) : Int) * (-1) = i := by simp
          have e2 : (((i - j).toNat : Nat) : Int) - ((0 : Nat) : Int) = Builtin.Range.rangeSize i j (-1) := by rw [rangeSize_down]; omega
          show IsRangeIter _ _ (i + ((0 : Nat) : Int) * (-1)) ((((i - j).toNat : Nat) : Int) - ((0 : Nat) : Int)) (-1)
          rw [e1, e2]
          exact Heap.get?_push_size _ rfl
        · have e : b = (s1.heap.push { cls := .type "range", data := .fields #[.int i t, .int j t', .int (-1) t''] }).objs.size := by simpa using hb
          subst e
          exact I2.fpOk (Nat.le_refl _) (I2.hok.fresh (Nat.le_refl _))
def rngDn (hi : Int) (n : Nat) : List D := (List.range n).map fun (k : Nat) => D.int (hi - k)
theorem it_rngD {K : PySem.W.Frag} {F1 : Hp} {lo : Int} {n : Nat} : ItOk K (Itd lo n) F1 (rngDn lo n) := fun i F H f1 f2 => by
  have hl : (rngDn lo n).length = n := by simp [rngDn]
  refine ⟨fun h => by rw [hl] at h; exact h, fun d hd => ?_⟩
  have hi : i < n := by have := (List.getElem?_eq_some_iff.mp hd).1; rw [hl] at this; exact this
  refine ⟨hi, fun x H' y => ?_⟩
  obtain ⟨e1, y⟩ := y
  subst e1
  refine ⟨F, Ext.refl f2, ?_⟩
  simp [rngDn, hi] at hd
  subst hd
  simp only [Rep]; exact y
def int3d : List D → Option (Int × Int)
  | [.int i, .int j, .int (-1)] => some (i, j)
  | _ => none
theorem int3d_eq {ds : List D} {i j : Int} (h : int3d ds = some (i, j)) : ds = [.int i, .int j, .int (-1)] := by
  unfold int3d at h; split at h <;> cases h; rfl
def iRg3 (fs : FA) : FA := fun τ => (fs τ).bind fun ds => match int3d ds with
  | some (i, j) => if (-(2 ^ 62) ≤ i ∧ i < 2 ^ 62) ∧ -(2 ^ 62) ≤ j ∧ j < 2 ^ 62 then .ok (rngDn i (i - j).toNat) else .no
  | none => .no
theorem pdi_rangeD {a b c : Expr} {p : Pos} (hg : Gl X "range") (hm : X.mg "range" = none) (ha : PDA X [a, b, c] fs) (hs : starEach [a, b, c] X.env = [(false, eval a X.env), (false, eval b X.env), (false, eval c X.env)] := by rfl) (hs2 : starEach [b, c] X.env = [(false, eval b X.env), (false, eval c X.env)] := by rfl) :
    PDI X tg (.Call (.Name "range" p) [a, b, c] [] pos) (iRg3 fs) :=
  PI.imp (pi_rangeD hg hm ha hs hs2) fun σ H R ⟨F, τ, Rv, h⟩ => tAs.of Rv h.bind fun ds vs F1 H1 g x R1 r => by
    cases q1 : int3d ds with
    | none => rw [q1] at g; exact g.elim
    | some ij =>
      obtain ⟨i, j⟩ := ij
      rw [q1] at g
      have e := int3d_eq q1
      subst e
      simp only [Reps] at r
      obtain ⟨v, r1, e1, q, w, r2, e2, q', u, r3, e3, q'', e4⟩ := r
      simp only [Rep] at q q' q''; subst q q' q'' e4 e3 e2 e1
      obtain ⟨z, g⟩ := ok_ite g
      exact ⟨i, j, rfl, ⟨z.1.1, z.1.2, z.2.1, z.2.2⟩, g _ F1 H1 x it_rngD⟩
/-! ### methods of texts -/
def MtD (X : Cx) (id : String) (g : D → List D → Rs D) : Prop := ∃ r, MtR X id r ∧ ∀ F H v vs d ds Q, Same F H → Rep X.K F d v → Reps X.K F ds vs → Ok X (g d ds) (Ev X.K F H Q) → r v vs H Q
def isTy (T : String) : D → Bool
  | .str _ => T = "str"
  | .int _ => T = "int"
  | .lst _ => T = "list"
  | .scr _ => T = "list"
  | _ => false
def eMt0 (T : String) (g : D → List D → Rs D) (fo : FE) : FE := fun τ => (fo τ).bind fun d => if isTy T d = true then g d [] else .no
def eMt (T : String) (g : D → List D → Rs D) (fo : FE) (fa : FA) : FE := fun τ => (fo τ).bind fun d => if isTy T d = true then (fa τ).bind fun ds => g d ds else .no
theorem tyV_of {F H : Hp} {d : D} {v : V} {T : String} (fh : Same F H) (r : Rep X.K F d v) (h : isTy T d = true) : tyV X.K T v H := by
  cases d with
  | str x => simp only [Rep] at r; subst r; show T = "str"; simpa [isTy] using h
  | int x => simp only [Rep] at r; subst r; show T = "int"; simpa [isTy] using h
  | lst ds => simp only [Rep] at r; obtain ⟨a, vs, rfl, e, t⟩ := r; exact .inl ⟨by simpa [isTy] using h, vs, SqL.of (fh _ _ e)⟩
  | scr ds => simp only [Rep] at r; obtain ⟨a, rfl, e⟩ := r; exact .inl ⟨by simpa [isTy] using h, _, fh.seq e⟩
  | _ => simp [isTy] at h
theorem ok_if {X : Cx} {α : Type} {c : Prop} [Decidable c] {r : Rs α} {P : α → Prop} (h : Ok X (if c then r else .no) P) : c ∧ Ok X r P := by
  by_cases z : c
  · rw [if_pos z] at h; exact ⟨z, h⟩
  · rw [if_neg z] at h; exact h.elim
theorem pde_mt0 {T id : String} {name : Str} {o : Expr} {apos cpos : Pos} {fo : FE} {g : D → List D → Rs D} (pa : PlainAttrs T) (slot : Slot T name id) (hty : typeOf (.builtin id) = pure (.type "method_descriptor")) (hm : MtD X id g) (ho : PDE X o fo)
    (hbase : attributeBase o name X.env (eval o X.env) = eval o X.env := by rfl) (hline : (apos.endLine == cpos.line) = true := by rfl) : PDE X (.Call (.Attribute o name apos) [] [] cpos) (eMt0 T g fo) := by
  obtain ⟨r, h1, h2⟩ := hm
  exact PE.imp (pe_bm0 pa slot hty h1 ho hbase hline) fun σ H Q ⟨Fz, τ, R, h⟩ => tE.of R h.bind fun d v F1 H1 q x R1 rr => by
    obtain ⟨z, q⟩ := ok_if q
    exact ⟨tyV_of R1.fh rr z, h2 F1 H1 v [] d [] Q R1.fh rr Reps.nil (q.imp fun d e => e.ext x)⟩
def upD : D → List D → Rs D
  | .str x, [] => if x.length ≤ 5000000 then .ok (.str (Txt.upper x)) else .no
  | _, _ => .no
def loD : D → List D → Rs D
  | .str x, [] => if x.length ≤ 5000000 then .ok (.str (Txt.lower x)) else .no
  | _, _ => .no
theorem mt_up : MtR X "str.upper" (fun v vs H Q => ∃ x, v = .str x ∧ vs = [] ∧ x.length ≤ 5000000 ∧ Q (.str (Txt.upper x)) H) := by
  intro pins s σ H v vs u us Q I r rs h
  obtain ⟨x, rfl, rfl, hx, q⟩ := h
  obtain ⟨t, rfl⟩ := r
  cases rs
  exact SC.upper (fit_upper (by omega)) ⟨.str (Txt.upper x), H, I.tok _, ⟨_, rfl⟩, q⟩
theorem mt_lo : MtR X "str.lower" (fun v vs H Q => ∃ x, v = .str x ∧ vs = [] ∧ x.length ≤ 5000000 ∧ Q (.str (Txt.lower x)) H) := by
  intro pins s σ H v vs u us Q I r rs h
  obtain ⟨x, rfl, rfl, hx, q⟩ := h
  obtain ⟨t, rfl⟩ := r
  cases rs
  exact SC.lower (fit_lower (by omega)) ⟨.str (Txt.lower x), H, I.tok _, ⟨_, rfl⟩, q⟩
theorem md_up : MtD X "str.upper" upD := ⟨_, mt_up, fun F H v vs d ds Q fh r rs h => by
  cases d with
  | str x =>
    cases ds with
    | nil =>
      simp only [Rep] at r; subst r
      simp only [Reps] at rs; subst rs
      obtain ⟨z, h⟩ := ok_ite h
      exact ⟨x, rfl, rfl, z, h _ F H (Ext.refl fh) (by simp only [Rep])⟩
    | cons a b => exact h.elim
  | _ => cases ds <;> exact h.elim⟩
theorem md_lo : MtD X "str.lower" loD := ⟨_, mt_lo, fun F H v vs d ds Q fh r rs h => by
  cases d with
  | str x =>
    cases ds with
    | nil =>
      simp only [Rep] at r; subst r
      simp only [Reps] at rs; subst rs
      obtain ⟨z, h⟩ := ok_ite h
      exact ⟨x, rfl, rfl, z, h _ F H (Ext.refl fh) (by simp only [Rep])⟩
    | cons a b => exact h.elim
  | _ => cases ds <;> exact h.elim⟩
theorem pde_upper {o : Expr} {apos cpos : Pos} {fo : FE} (ho : PDE X o fo) (hbase : attributeBase o "upper" X.env (eval o X.env) = eval o X.env := by rfl) (hline : (apos.endLine == cpos.line) = true := by rfl) : PDE X (.Call (.Attribute o "upper" apos) [] [] cpos) (eMt0 "str" upD fo) :=
  pde_mt0 F.plainAttrs_str F.slot_str_upper F.type_str_upper md_up ho hbase hline
theorem pde_lower {o : Expr} {apos cpos : Pos} {fo : FE} (ho : PDE X o fo) (hbase : attributeBase o "lower" X.env (eval o X.env) = eval o X.env := by rfl) (hline : (apos.endLine == cpos.line) = true := by rfl) : PDE X (.Call (.Attribute o "lower" apos) [] [] cpos) (eMt0 "str" loD fo) :=
  pde_mt0 F.plainAttrs_str F.slot_str_lower F.type_str_lower md_lo ho hbase hline
/-! ### text.join(list of texts) -/
end
end FD

set_option Elab.async false
set_option linter.all false
set_option maxRecDepth 100000
namespace FD
open PySem PySem.Spec PyProof.Rows L2
section
variable {X : Cx} {pos : Pos} {e tg : Expr} {es : List Expr} {fe : FE} {fs : FA}
/-! ### isinstance(x, T) -/
def isOf (d : D) (T : String) : Rs Bool := match d with
  | .raw _ => .no
  | .exc _ => .no
  | d => if T = "str" then .ok (match d with | .str _ => true | _ => false)
    else if T = "int" then .ok (match d with | .int _ => true | .bl _ => true | _ => false)
    else if T = "bool" then .ok (match d with | .bl _ => true | _ => false)
    else if T = "list" then .ok (match d with | .lst _ => true | .scr _ => true | _ => false)
    else if T = "tuple" then .ok (match d with | .tup _ => true | _ => false)
    else .no
def tyOf2 : List D → Option (D × String)
  | [d, .raw (.ty T)] => some (d, T)
  | _ => none
theorem tyOf2_eq {ds : List D} {d : D} {T : String} (h : tyOf2 ds = some (d, T)) : ds = [d, .raw (.ty T)] := by
  unfold tyOf2 at h; split at h <;> cases h; rfl
def isiD (ds : List D) : Rs D := match tyOf2 ds with
  | some (d, T) => (isOf d T).bind fun b => .ok (.bl b)
  | none => .no
theorem call_isi : CallR X (.builtin "isinstance") (fun vs H Q => ∃ F d v T b, Same F H ∧ Rep X.K F d v ∧ vs = [v, .ty T] ∧ isOf d T = .ok b ∧ Q (.bl b) H) := by
  intro pins s σ H vs us Q I r h
  obtain ⟨F, d, v, T, b, fh, rd, rfl, hb, q⟩ := h
  obtain ⟨u, w, rfl, r1, r2⟩ := vals2 r
  cases r2
  have fin : ∀ {b' : Bool}, b = b' → EP X pins σ Q (.bool b') s := fun e => by subst e; exact ⟨.bl _, H, I, rfl, q⟩
  have fin' : ∀ {b' : Bool}, b = b' → EP X pins σ Q (.bool b') { s with toks := s.toks + 1 } := fun e => by subst e; exact ⟨.bl _, H, I.tok _, rfl, q⟩
  have hT : T = "str" ∨ T = "int" ∨ T = "bool" ∨ T = "list" ∨ T = "tuple" := by
    by_cases h1 : T = "str"; exact .inl h1
    by_cases h2 : T = "int"; exact .inr (.inl h2)
    by_cases h3 : T = "bool"; exact .inr (.inr (.inl h3))
    by_cases h4 : T = "list"; exact .inr (.inr (.inr (.inl h4)))
    by_cases h5 : T = "tuple"; exact .inr (.inr (.inr (.inr h5)))
    exfalso
    unfold isOf at hb
    cases d <;> simp [h1, h2, h3, h4, h5] at hb
  cases d with
  | raw _ => simp [isOf] at hb
  | exc _ => simp [isOf] at hb
  | non =>
    simp only [Rep] at rd; subst rd; cases r1
    rcases hT with rfl | rfl | rfl | rfl | rfl <;> simp [isOf] at hb <;> first
      | exact IsiPair.NoneType_str (fin' hb) | exact IsiPair.NoneType_int (fin' hb) | exact IsiPair.NoneType_bool (fin' hb) | exact IsiPair.NoneType_list (fin' hb) | exact IsiPair.NoneType_tuple (fin' hb)
  | bl k =>
    simp only [Rep] at rd; subst rd; cases r1
    rcases hT with rfl | rfl | rfl | rfl | rfl <;> simp [isOf] at hb <;> first
      | exact IsiPair.bool_str (fin' hb) | exact IsiPair.bool_int (fin hb) | exact IsiPair.bool_bool (fin hb) | exact IsiPair.bool_list (fin' hb) | exact IsiPair.bool_tuple (fin' hb)
  | int k =>
    simp only [Rep] at rd; subst rd; obtain ⟨t, rfl⟩ := r1
    rcases hT with rfl | rfl | rfl | rfl | rfl <;> simp [isOf] at hb <;> first
      | exact IsiPair.int_str (fin' hb) | exact IsiPair.int_int (fin hb) | exact IsiPair.int_bool (fin' hb) | exact IsiPair.int_list (fin' hb) | exact IsiPair.int_tuple (fin' hb)
  | str k =>
    simp only [Rep] at rd; subst rd; obtain ⟨t, rfl⟩ := r1
    rcases hT with rfl | rfl | rfl | rfl | rfl <;> simp [isOf] at hb <;> first
      | exact IsiPair.str_str (fin hb) | exact IsiPair.str_int (fin' hb) | exact IsiPair.str_bool (fin' hb) | exact IsiPair.str_list (fin' hb) | exact IsiPair.str_tuple (fin' hb)
  | lst k =>
    simp only [Rep] at rd; obtain ⟨a, ws, rfl, e, t⟩ := rd; cases r1
    obtain ⟨its, rr, ⟨o, n, eo, c, _, _⟩, _⟩ := I.list (SqL.of (K := X.K) (fh _ _ e))
    rcases hT with rfl | rfl | rfl | rfl | rfl <;> simp [isOf] at hb <;> first
      | exact IsiPair.list_str eo c (fin' hb) | exact IsiPair.list_int eo c (fin' hb) | exact IsiPair.list_bool eo c (fin' hb) | exact IsiPair.list_list eo c (fin hb) | exact IsiPair.list_tuple eo c (fin' hb)
  | scr k =>
    simp only [Rep] at rd; obtain ⟨a, rfl, e⟩ := rd; cases r1
    obtain ⟨its, rr, ⟨o, n, eo, c, _, _⟩, _⟩ := I.list (fh.seq e)
    rcases hT with rfl | rfl | rfl | rfl | rfl <;> simp [isOf] at hb <;> first
      | exact IsiPair.list_str eo c (fin' hb) | exact IsiPair.list_int eo c (fin' hb) | exact IsiPair.list_bool eo c (fin' hb) | exact IsiPair.list_list eo c (fin hb) | exact IsiPair.list_tuple eo c (fin' hb)
  | tup k =>
    simp only [Rep] at rd; obtain ⟨a, ws, rfl, e, t⟩ := rd; cases r1
    obtain ⟨its, rr, ⟨o, eo, c, _, _⟩, _⟩ := I.tuple (Same.seqT fh e)
    rcases hT with rfl | rfl | rfl | rfl | rfl <;> simp [isOf] at hb <;> first
      | exact IsiPair.tuple_str eo c (fin' hb) | exact IsiPair.tuple_int eo c (fin' hb) | exact IsiPair.tuple_bool eo c (fin' hb) | exact IsiPair.tuple_list eo c (fin' hb) | exact IsiPair.tuple_tuple eo c (fin hb)
theorem cd_isi : CallD X (.builtin "isinstance") isiD := ⟨_, call_isi, fun F H vs ds Q fh r h => by
  unfold isiD at h
  cases q : tyOf2 ds with
  | none => rw [q] at h; exact h.elim
  | some dT =>
    obtain ⟨d, T⟩ := dT
    rw [q] at h
    have e := tyOf2_eq q
    subst e
    obtain ⟨v, w, rfl, r1, r2⟩ := r.two
    simp only [Rep] at r2; subst r2
    simp only at h
    cases q2 : isOf d T with
    | no => rw [q2] at h; exact h.elim
    | ex c => exfalso; unfold isOf at q2; cases d <;> simp at q2 <;> (repeat (first | (split at q2) | cases q2))
    | ok b => rw [q2] at h; exact ⟨F, d, v, T, b, fh, r1, rfl, q2, h _ F H (Ext.refl fh) (by simp only [Rep])⟩⟩
/-! ### all([..]) of bools -/
def boolsOf : List D → Option (List Bool)
  | [] => some []
  | .bl b :: r => (boolsOf r).map (b :: ·)
  | _ => none
def allD (ds : List D) : Rs D := match ds with
  | [.lst xs] => match boolsOf xs with
    | some bs => .ok (.bl (bs.all id))
    | none => .no
  | _ => .no
theorem bools_vals {K : PySem.W.Frag} {F : Hp} : ∀ {ds : List D} {bs : List Bool} {vs : List V} {us : List Value}, boolsOf ds = some bs → Reps K F ds vs → Vals vs us → us = bs.map Value.bool
  | [], bs, vs, us, h, r, rv => by simp only [Reps] at r; subst r; cases rv; cases h; rfl
  | .bl x :: ds, ys, vs, us, h, r, rv => by
    simp only [Reps, Rep] at r
    obtain ⟨v, r', rfl, rfl, t⟩ := r
    simp only [boolsOf] at h
    cases q : boolsOf ds with
    | none => rw [q] at h; cases h
    | some zs =>
      rw [q] at h; cases h
      cases rv with
      | cons r1 r2 =>
        cases r1
        rw [bools_vals q t r2]; rfl
  | .non :: _, _, _, _, h, _, _ => by cases h
  | .str _ :: _, _, _, _, h, _, _ => by cases h
  | .int _ :: _, _, _, _, h, _, _ => by cases h
  | .lst _ :: _, _, _, _, h, _, _ => by cases h
  | .tup _ :: _, _, _, _, h, _, _ => by cases h
  | .scr _ :: _, _, _, _, h, _, _ => by cases h
  | .raw _ :: _, _, _, _, h, _, _ => by cases h
  | .exc _ :: _, _, _, _, h, _, _ => by cases h
theorem range_all_get (bs : List Bool) : (List.range bs.length).all (fun i => bs.getD i false) = bs.all id := by
  rw [Bool.eq_iff_iff, List.all_eq_true, List.all_eq_true]
  constructor
  · intro h x hx
    obtain ⟨i, hi, rfl⟩ := List.mem_iff_getElem.mp hx
    have := h i (List.mem_range.mpr hi)
    simpa [List.getD_eq_getElem?_getD, hi] using this
  · intro h i hi
    have hi := List.mem_range.mp hi
    have := h bs[i] (List.getElem_mem hi)
    simpa [List.getD_eq_getElem?_getD, hi] using this
theorem call_all1 (hc : X.calm = true) : CallR X (.builtin "all") (fun vs H Q => ∃ a ws F ds bs, vs = [.ref a] ∧ H a = some (.lst ws) ∧ Reps X.K F ds ws ∧ boolsOf ds = some bs ∧ Q (.bl (bs.all id)) H) := by
  intro pins s σ H vs us Q I r h
  obtain ⟨a, ws, F, ds, bs, rfl, e, t, hb, q⟩ := h
  obtain ⟨u, rfl, r1⟩ := vals1 r
  cases r1
  obtain ⟨its, rr, p, _⟩ := I.list (SqL.of (K := X.K) e)
  have ei := bools_vals hb t rr
  subst ei
  have hh : X.A.in1.handled = none := I.ok.hd hc
  have hlt : a < s.heap.objs.size := I.hok.lt e
  refine call_all_walk (wpAny_pyIter_list p.isList ⟨s.heap.objs.size, _, _, _, _, _, fun i => bs.getD i false, rfl, Walks.list hh s.heap.objs.size a (Nat.ne_of_lt hlt) (bs.map Value.bool).toArray, ⟨⟨_, Heap.get?_push_size _ rfl, rfl, rfl⟩, p.isList.push _⟩, fun i v s' Q' E' hP hQ => ?_, fun h' tk hk => ?_⟩)
  · have hP : (bs.map Value.bool)[i]? = some v := by simpa using hP
    rw [List.getElem?_map] at hP
    cases z : bs[i]? with
    | none => rw [z] at hP; cases hP
    | some b =>
      rw [z] at hP
      cases hP
      exact wpAny_truthy_bool (by simpa [List.getD_eq_getElem?_getD, z] using hQ)
  · have en : (bs.map Value.bool).toArray.size = bs.length := by simp
    rw [en, range_all_get]
    have I1 : Inv X pins σ H { s with heap := s.heap.push { cls := .type "list_iterator", data := .fields #[.ref a, .int 0 0] } } := I.kept (t' := s.toks) fun b o e => Heap.get?_push_of_some _ e
    have fk := I.fpOk (H' := H) (Nat.le_refl s.heap.objs.size) (I.hok.fresh (Nat.le_refl _))
    refine ⟨.bl (bs.all id), H, turnedL (s := { s with heap := s.heap.push { cls := .type "list_iterator", data := .fields #[.ref a, .int 0 0] } }) (ch := [s.heap.objs.size]) I1 (fun b o hb e => hk b o hb e) (fun b hb => ?_) (fun b hb => ?_), rfl, q⟩
    · have z : b = s.heap.objs.size := by simpa using hb
      subst z; exact fk
    · have z : b = s.heap.objs.size := by simpa using hb
      subst z; exact fk.1
theorem cd_all (hc : X.calm = true) : CallD X (.builtin "all") allD := ⟨_, call_all1 hc, fun F H vs ds Q fh r h => by
  cases ds with
  | nil => exact h.elim
  | cons d r2 =>
    cases r2 with
    | cons a b => cases d <;> exact h.elim
    | nil =>
      cases d with
      | lst xs =>
        obtain ⟨v, rfl, q⟩ := r.one
        simp only [Rep] at q; obtain ⟨a, ws, rfl, e, t⟩ := q
        simp only [allD] at h
        cases z : boolsOf xs with
        | none => rw [z] at h; exact h.elim
        | some bs => rw [z] at h; exact ⟨a, ws, F, xs, bs, rfl, fh _ _ e, t, z, h _ F H (Ext.refl fh) (by simp only [Rep])⟩
      | _ => exact h.elim⟩
end
end FD

set_option Elab.async false
set_option linter.all false
set_option maxRecDepth 100000
namespace FD
open PySem PySem.Spec PyProof.Rows L2
section
variable {X : Cx} {pos : Pos} {e tg : Expr} {es : List Expr} {fe : FE} {fs : FA}
/-! ### slices -/
def rSlS : V → Option Int → Option Int → Hp → VK → Prop := fun x lo hi H Q => ∃ z, x = .str z ∧ z.length ≤ sizeLine ∧ Q (.str (Txt.slice z lo hi)) H
theorem sl_str : SlR X rSlS := by
  intro pins s σ H x v vl vu lo hi sl Q I rx hs pl pu h
  obtain ⟨z, rfl, hz, q⟩ := h
  obtain ⟨t, rfl⟩ := rx
  refine ⟨"str", _, F.slot_str_getitem.lookup, typeIs_str _ _ _, ?_⟩
  obtain ⟨o, e, c, d⟩ := hs
  have fin : ∀ t' k, EP X pins σ Q (.str (Txt.slice z lo hi) t') { s with toks := k } := fun t' k => ⟨.str _, H, I.tok _, ⟨_, rfl⟩, q⟩
  have hl := Nat.le_trans (Txt.slice_le z lo hi) hz
  cases pl with
  | none =>
    cases pu with
    | none => exact wpAny_getItem_str_slice (l := none) (u := none) (st := none) ⟨o, e, c, d⟩ rfl (post_val_or_str ⟨hl, fin⟩)
    | int j uj => exact wpAny_getItem_str_slice (l := none) (u := some (j, uj)) (st := none) ⟨o, e, c, d⟩ rfl (post_val_or_str ⟨hl, fin⟩)
  | int i ui =>
    cases pu with
    | none => exact wpAny_getItem_str_slice (l := some (i, ui)) (u := none) (st := none) ⟨o, e, c, d⟩ rfl (post_val_or_str ⟨hl, fin⟩)
    | int j uj => exact wpAny_getItem_str_slice (l := some (i, ui)) (u := some (j, uj)) (st := none) ⟨o, e, c, d⟩ rfl (post_val_or_str ⟨hl, fin⟩)
def cutD (xs : List D) (lo hi : Option Int) : List D := (xs.drop (HT.sIx xs.length 0 lo)).take (HT.sIx xs.length xs.length hi - HT.sIx xs.length 0 lo)
def slD (d : D) (lo hi : Option Int) : Rs D := match d with
  | .str x => if x.length ≤ sizeLine then .ok (.str (Txt.slice x lo hi)) else .no
  | .lst ds => .ok (.lst (cutD ds lo hi))
  | _ => .no
abbrev FO := DS → Rs (Option Int)
def oNone : FO := fun _ => .ok none
def oSome (fe : FE) : FO := fun τ => (fe τ).bind fun d => match d with
  | .int i => .ok (some i)
  | _ => .no
def tOs (X : Cx) (f : FO) : TO := fun σ H Q => ∃ F τ, RV X.K F τ σ H ∧ Ok X (f τ) fun o => ∀ F' H', Ext F H F' H' → Q o H'
def PDO (X : Cx) (e : Option Expr) (f : FO) : Prop := PO X e (tOs X f)
theorem PO.imp {e : Option Expr} {t t' : TO} (h : PO X e t) (f : ∀ σ H Q, t' σ H Q → t σ H Q) : PO X e t' := fun pins s σ H Q I q => h pins s σ H Q I (f _ _ _ q)
theorem pdo_none : PDO X none oNone := PO.imp po_none fun σ H Q ⟨F, τ, R, h⟩ => h F H (Ext.refl R.fh)
theorem pdo_some (h : PDE X e fe) : PDO X (some e) (oSome fe) := PO.imp (po_some h) fun σ H Q ⟨F, τ, R, h⟩ => tE.of R h.bind fun d v F1 H1 g x R1 r => by
  cases d with
  | int i => simp only [Rep] at r; exact ⟨i, r, g F1 H1 x⟩
  | _ => exact g.elim
def eSl (fe : FE) (fl fh : FO) : FE := fun τ => (fe τ).bind fun d => (fl τ).bind fun l => (fh τ).bind fun u => slD d l u
theorem pde_sl {lo hi : Option Expr} {fl fh : FO} {p2 : Pos} (he : PDE X e fe) (hl : PDO X lo fl) (hu : PDO X hi fh) : PDE X (.Subscript e (.Slice lo hi none p2) pos) (eSl fe fl fh) :=
  PE.imp (pe_slice (sl_str.or sl_list) he hl hu) fun σ H Q ⟨F, τ, R, h⟩ => tE.of R h.bind fun d v F1 H1 g x R1 r => by
    refine ⟨F1, τ, R1, g.bind.imp fun l gl F2 H2 x2 => ⟨F2, τ, R1.ext x2, gl.bind.imp fun u gu F3 H3 x3 => ?_⟩⟩
    have f3 := x3.fh
    have x13 := x.trans (x2.trans x3)
    cases d with
    | str z =>
      simp only [Rep] at r
      obtain ⟨zz, gu⟩ := ok_ite gu
      exact .inl ⟨z, r, zz, gu _ F3 H3 x13 (by simp only [Rep])⟩
    | lst ds =>
      simp only [Rep] at r; obtain ⟨a, vs, rfl, e1, t⟩ := r
      have gu : Ev X.K F H Q (.lst (cutD ds l u)) := gu
      refine .inr ⟨a, vs, rfl, SqL.of (f3 _ _ (x3.ff _ _ (x2.ff _ _ e1))), fun p hp => gu _ _ _ (x13.trans (Ext.new f3 hp)) ?_⟩
      simp only [Rep]
      refine ⟨p, _, rfl, upd_same, ?_⟩
      have t3 : Reps X.K F3 (cutD ds l u) (cutV vs l u) := by
        unfold cutD cutV
        rw [← t.length]
        exact ((t.mono (x2.ff.trans x3.ff)).drop _).take _
      exact t3.mono (same_upd (none_of_same f3 hp))
    | _ => exact gu.elim
/-! ### list(text), list(list), tuple(..) -/
/-! ### zip(text, list) -/
def iZipT (K : PySem.W.Frag) (ta : TA) : TI := fun σ H R => ta σ H fun vs H1 => ∃ x l ws, vs = [.str x, .ref l] ∧ SqL K H1 l ws ∧ R (Itz K x l) H1
theorem pi_zip {a b : Expr} {ta : TA} {p : Pos} {elts : List Expr} {x1} {tpos : Pos} (hg : Gl X "zip") (hm : X.mg "zip" = none) (ha : PA X [a, b] ta) (hs : starEach [a, b] X.env = [(false, eval a X.env), (false, eval b X.env)] := by rfl) (hs2 : starEach [b] X.env = [(false, eval b X.env)] := by rfl) :
    PI X (.Tuple elts x1 tpos) (.Call (.Name "zip" p) [a, b] [] pos) (iZipT X.K ta) := by
  intro pins s σ H R I h
  refine Call_ (ld_blt I hg hm boot_zip (PyProof.Rows.callWith_type1 (thn (ha pos pins s σ H _ I h) fun us s1 ⟨vs, H1, I1, r1, q1⟩ => ?_) (by rw [hs, hs2]) (by rw [hs2]; rfl)))
  obtain ⟨x, l, ws, e, hq, q⟩ := q1
  subst e
  obtain ⟨u1, u2, rfl, ⟨t, rfl⟩, ru⟩ := vals2 r1
  cases ru
  obtain ⟨its, rr, pp, hz⟩ := I1.list hq
  refine callType_new F.called_zip (by decide) (F.typeCall_zip_2 _ _) (F.newCall_zip_2 _ _) (fun obj => F.args_object_init_3 obj _ _) F.entry_zip_new (meets_zip_str l its.toArray x t _ rfl) ⟨pp.isList, ?_⟩
  intro h1 h2 h3 h4 h5 e1 e2 e3 e4 e5
  have z1 : h1.objs.size = s1.heap.objs.size + 1 := by rw [e1]; exact Heap.size_push ..
  have z2 : h2.objs.size = s1.heap.objs.size + 2 := by rw [e2, Heap.size_push, z1]
  have z3 : h3.objs.size = s1.heap.objs.size + 3 := by rw [e3, Heap.size_push, z2]
  have z4 : h4.objs.size = s1.heap.objs.size + 4 := by rw [e4, Heap.size_push, z3]
  have p1 : ∀ b o, s1.heap.get? b = some o → h1.get? b = some o := fun b o e => by rw [e1]; exact Heap.get?_push_of_some _ e
  have p2 : ∀ b o, h1.get? b = some o → h2.get? b = some o := fun b o e => by rw [e2]; exact Heap.get?_push_of_some _ e
  have p3 : ∀ b o, h2.get? b = some o → h3.get? b = some o := fun b o e => by rw [e3]; exact Heap.get?_push_of_some _ e
  have p4 : ∀ b o, h3.get? b = some o → h4.get? b = some o := fun b o e => by rw [e4]; exact Heap.get?_push_of_some _ e
  have p5 : ∀ b o, h4.get? b = some o → h5.get? b = some o := fun b o e => by rw [e5]; exact Heap.get?_push_of_some _ e
  have g5 : IsZip h5 h4.objs.size h2.objs.size h3.objs.size .none := by rw [e5]; exact Heap.get?_push_size _ rfl
  have g4 : IsPair h5 h3.objs.size .none .none := p5 _ _ (by rw [e4]; exact Heap.get?_push_size _ rfl)
  have g3 : IsPair h5 h2.objs.size (.ref s1.heap.objs.size) (.ref h1.objs.size) := p5 _ _ (p4 _ _ (by rw [e3]; exact Heap.get?_push_size _ rfl))
  have g2 : h5.IsListIter h1.objs.size l 0 := ⟨_, p5 _ _ (p4 _ _ (p3 _ _ (by rw [e2]; exact Heap.get?_push_size _ rfl))), rfl, rfl⟩
  have g1 : h5.IsStrIter s1.heap.objs.size (if x.cps.all (· < 128) then "str_ascii_iterator" else "str_iterator") x t 0 := ⟨_, p5 _ _ (p4 _ _ (p3 _ _ (p2 _ _ (by rw [e1]; exact Heap.get?_push_size _ rfl)))), rfl, rfl⟩
  have keep : ∀ b o, s1.heap.get? b = some o → h5.get? b = some o := fun b o e => p5 _ _ (p4 _ _ (p3 _ _ (p2 _ _ (p1 _ _ e))))
  have I5 : Inv X pins σ H1 { s1 with heap := h5 } := I1.kept (t' := s1.toks) keep
  refine ⟨⟨_, g5, rfl⟩, wpAny_pyIter_zip (s := { s1 with heap := h5 }) g5 ?_⟩
  refine ⟨h4.objs.size, [h4.objs.size, h2.objs.size, h3.objs.size, s1.heap.objs.size, h1.objs.size], _, _, H1, rfl, I5, turn_zip (ty := if x.cps.all (· < 128) then "str_ascii_iterator" else "str_iterator") ⟨?_, ?_, ?_, ?_, ?_, ?_, ?_, ?_, ?_, ?_⟩ (by split <;> simp), ⟨g5, g3, ⟨_, _, g4⟩, g1, g2⟩, fun b hb => ?_, q⟩
  all_goals try (show (_ : Nat) ≠ _; omega)
  have hb' : s1.heap.objs.size ≤ b := by
    simp at hb
    rcases hb with rfl | rfl | rfl | rfl | rfl <;> (show s1.heap.objs.size ≤ (_ : Nat); omega)
  obtain ⟨f0, f1, f2, f3, f4, f5⟩ := I1.fpOk (H' := H1) hb' (I1.hok.fresh hb')
  exact ⟨f0, f1, f2, f3, f4, f5⟩
def zipPairs : List Nat → List D → List D
  | c :: cs, d :: ds => .tup [signD c, d] :: zipPairs cs ds
  | _, _ => []
theorem zipPairs_len : ∀ (cs : List Nat) (ds : List D), (zipPairs cs ds).length = min cs.length ds.length
  | [], _ => by simp [zipPairs]
  | _ :: _, [] => by simp [zipPairs]
  | c :: cs, d :: ds => by simp only [zipPairs, List.length_cons, zipPairs_len cs ds]; omega
theorem zipPairs_get : ∀ {cs : List Nat} {ds : List D} {i : Nat} {p : D}, (zipPairs cs ds)[i]? = some p → ∃ c d, cs[i]? = some c ∧ ds[i]? = some d ∧ p = .tup [signD c, d]
  | [], _, _, _, h => by simp [zipPairs] at h
  | _ :: _, [], _, _, h => by simp [zipPairs] at h
  | c :: cs, d :: ds, 0, p, h => by simp [zipPairs] at h; exact ⟨c, d, rfl, rfl, h.symm⟩
  | c :: cs, d :: ds, i + 1, p, h => by
    obtain ⟨c', d', h1, h2, h3⟩ := zipPairs_get (i := i) (by simpa [zipPairs] using h)
    exact ⟨c', d', by simpa using h1, by simpa using h2, h3⟩
theorem it_zip {K : PySem.W.Frag} {F1 : Hp} {x : Str} {l : Addr} {ds : List D} {vs : List V} (e : SqL K F1 l vs) (r : Reps K F1 ds vs) : ItOk K (Itz K x l) F1 (zipPairs x.cps.toList ds) := fun i F H f1 f2 => by
  have q : SqL K H l vs := (f1.trans f2).seq e
  have hl := zipPairs_len x.cps.toList ds
  have hr := r.length
  refine ⟨fun h => ⟨vs, q, by rw [hl] at h; simp only [Array.length_toList] at h; omega⟩, fun p hp => ?_⟩
  obtain ⟨c, d, h1, h2, rfl⟩ := zipPairs_get hp
  have l1 : i < x.cps.size := by have := (List.getElem?_eq_some_iff.mp h1).1; simpa using this
  have l2 : i < vs.length := by have := (List.getElem?_eq_some_iff.mp h2).1; omega
  refine ⟨⟨vs, q, l1, l2⟩, fun y H' yy => ?_⟩
  obtain ⟨pa, c', v, hp, q', e1, rfl, rfl⟩ := yy
  have e1 : c = c' := by
    have : x.cps.toList[i]? = some c' := by simpa using e1
    rw [h1] at this; exact Option.some.inj this
  subst e1
  refine ⟨upd F pa (.tup [.str ⟨#[c]⟩, v]), Ext.new f2 hp, ?_⟩
  simp only [Rep]
  refine ⟨pa, _, rfl, SqT.of upd_same, Reps.cons (by simp only [signD, Rep]) (Reps.cons ?_ Reps.nil)⟩
  obtain ⟨v', hv', rv'⟩ := r.get h2
  have e3 := q' vs q
  rw [hv'] at e3; cases e3
  exact (rv'.mono f1).mono (same_upd (none_of_same f2 hp))
def zip2 : List D → Option (Str × List D)
  | [.str x, .lst ds] => some (x, ds)
  | _ => none
theorem zip2_eq {ds : List D} {x : Str} {xs : List D} (h : zip2 ds = some (x, xs)) : ds = [.str x, .lst xs] := by
  unfold zip2 at h; split at h <;> cases h; rfl
def iZp (fs : FA) : FA := fun τ => (fs τ).bind fun ds => match zip2 ds with
  | some (x, xs) => .ok (zipPairs x.cps.toList xs)
  | none => .no
theorem pdi_zip {a b : Expr} {p : Pos} {elts : List Expr} {x1} {tpos : Pos} (hg : Gl X "zip") (hm : X.mg "zip" = none) (ha : PDA X [a, b] fs) (hs : starEach [a, b] X.env = [(false, eval a X.env), (false, eval b X.env)] := by rfl) (hs2 : starEach [b] X.env = [(false, eval b X.env)] := by rfl) :
    PDI X (.Tuple elts x1 tpos) (.Call (.Name "zip" p) [a, b] [] pos) (iZp fs) :=
  PI.imp (pi_zip hg hm ha hs hs2) fun σ H R ⟨F, τ, Rv, h⟩ => tAs.of Rv h.bind fun ds vs F1 H1 g x R1 r => by
    cases q1 : zip2 ds with
    | none => rw [q1] at g; exact g.elim
    | some ij =>
      obtain ⟨y, xs⟩ := ij
      rw [q1] at g
      have e := zip2_eq q1
      subst e
      obtain ⟨v, w, rfl, r1, r2⟩ := r.two
      simp only [Rep] at r1 r2
      subst r1
      obtain ⟨l, ws, rfl, e1, t⟩ := r2
      exact ⟨y, l, ws, rfl, SqL.of (R1.fh _ _ e1), g _ F1 H1 x (it_zip (SqL.of e1) t)⟩
/-! ### names of the module -/
theorem pde_gl {x : Str} {v : V} {u : Value} {d : D} (hg : Gl X x) (hm : X.mg x = some u) (r : RelV v u) (rd : ∀ F, Rep X.K F d v) (hd : (x == ("__debug__" : Str)) = false := by decide) : PDE X (.Name x pos) (eC d) := pde_c (pe_glob hg hm r hd) rd
theorem pde_glS {x : Str} {y : Str} {t : Tok} (hg : Gl X x) (hm : X.mg x = some (.str y t)) (hd : (x == ("__debug__" : Str)) = false := by decide) : PDE X (.Name x pos) (eC (.str y)) := pde_gl (v := .str y) hg hm ⟨t, rfl⟩ (fun _ => by simp only [Rep]) hd
theorem pde_ty {x : Str} {T : String} (hg : Gl X x) (hm : X.mg x = none) (hv : bootBuiltins x = some (.type T)) (hn : x ≠ "__name__" := by decide) (hd : (x == ("__debug__" : Str)) = false := by decide) : PDE X (.Name x pos) (eC (.raw (.ty T))) :=
  pde_c (pe_bltn (v := .ty T) hg hm hv rfl hn hd) fun _ => by simp only [Rep]
end
end FD

set_option Elab.async false
set_option linter.all false
set_option maxRecDepth 100000
namespace FD
open PySem PySem.Spec PyProof.Rows L2
section
variable {X : Cx} {pos : Pos} {e tg : Expr} {es : List Expr} {fe : FE} {fs : FA}
/-! ### a loop over a list, a tuple or a text -/
def iAnyT (K : PySem.W.Frag) (tl : TE) : TI := fun σ H R => tl σ H fun x H1 => (∃ a, x = .ref a ∧ (∃ xs, SqL K H1 a xs) ∧ R (Itl K a) H1) ∨ (∃ a, x = .ref a ∧ (∃ xs, SqT K H1 a xs) ∧ R (Itt K a) H1) ∨ ∃ z, x = .str z ∧ R (Its z) H1
theorem pi_any {l : Expr} {tl : TE} (hl : PE X l tl) : PI X tg l (iAnyT X.K tl) := by
  intro pins s σ H R I h
  refine thn (hl pins s σ H _ I h) fun v s1 ⟨x, H1, I1, r1, q1⟩ => ?_
  rcases q1 with ⟨a, e, ⟨xs, hq⟩, q⟩ | ⟨a, e, ⟨xs, hq⟩, q⟩ | ⟨z, e, q⟩
  · subst e
    cases r1
    obtain ⟨its, rv, p, hz⟩ := I1.list hq
    refine wpAny_pyIter_list p.isList ?_
    refine ⟨s1.heap.objs.size, [s1.heap.objs.size], _, _, H1, rfl, I1.kept (t' := s1.toks) fun b o e => Heap.get?_push_of_some _ e, turn_list a _, ⟨_, Heap.get?_push_size _ rfl, rfl, rfl⟩, fun b hb => ?_, q⟩
    have e : b = s1.heap.objs.size := by simpa using hb
    subst e
    exact I1.fpOk (Nat.le_refl _) (I1.hok.fresh (Nat.le_refl _))
  · subst e
    cases r1
    obtain ⟨its, rv, p, hz⟩ := I1.tuple hq
    refine wpAny_pyIter_tuple (show s1.heap.IsTuple a its.toArray from p) ?_
    refine ⟨s1.heap.objs.size, [s1.heap.objs.size], _, _, H1, rfl, I1.kept (t' := s1.toks) fun b o e => Heap.get?_push_of_some _ e, turn_tuple a _, ⟨_, Heap.get?_push_size _ rfl, rfl, rfl⟩, fun b hb => ?_, q⟩
    have e : b = s1.heap.objs.size := by simpa using hb
    subst e
    exact I1.fpOk (Nat.le_refl _) (I1.hok.fresh (Nat.le_refl _))
  · subst e
    obtain ⟨t, rfl⟩ := r1
    have fin : ∀ (ty : String), (ty = "str_ascii_iterator" ∨ ty = "str_iterator") → PIE X pins σ tg R (.ref s1.heap.objs.size) { s1 with heap := s1.heap.push { cls := .type ty, data := .fields #[.str z t, .int 0 0] } } := fun ty hty => by
      refine ⟨s1.heap.objs.size, [s1.heap.objs.size], _, _, H1, rfl, I1.kept (t' := s1.toks) fun b o e => Heap.get?_push_of_some _ e, turn_str hty, ⟨_, Heap.get?_push_size _ rfl, rfl, rfl⟩, fun b hb => ?_, q⟩
      have e : b = s1.heap.objs.size := by simpa using hb
      subst e
      exact I1.fpOk (Nat.le_refl _) (I1.hok.fresh (Nat.le_refl _))
    cases ha : z.cps.all (· < 128)
    · exact wpAny_pyIter_wide ha (fin _ (.inr rfl))
    · exact wpAny_pyIter_ascii ha (fin _ (.inl rfl))
def iterD : D → Rs (List D)
  | .lst ds => .ok ds
  | .scr ns => .ok (ns.map .int)
  | .tup ds => .ok ds
  | .str x => .ok (signsD x)
  | _ => .no
def iAny (fe : FE) : FA := fun τ => (fe τ).bind iterD
theorem pdi_any (he : PDE X e fe) : PDI X tg e (iAny fe) :=
  PI.imp (pi_any he) fun σ H R ⟨F, τ, Rv, h⟩ => tE.of Rv h.bind fun d v F1 H1 g x R1 r => by
    cases d with
    | lst ds =>
      simp only [Rep] at r; obtain ⟨a, vs, rfl, q, t⟩ := r
      exact .inl ⟨a, rfl, ⟨vs, SqL.of (R1.fh _ _ q)⟩, g _ F1 H1 x (it_list (SqL.of q) t)⟩
    | scr ns =>
      simp only [Rep] at r; obtain ⟨a, rfl, q⟩ := r
      exact .inl ⟨a, rfl, ⟨_, R1.fh.seq q⟩, g _ F1 H1 x (it_list q (Reps.ints ns))⟩
    | tup ds =>
      simp only [Rep] at r; obtain ⟨a, vs, rfl, q, t⟩ := r
      exact .inr (.inl ⟨a, rfl, ⟨vs, Same.seqT R1.fh q⟩, g _ F1 H1 x (it_tup q t)⟩)
    | str z => simp only [Rep] at r; exact .inr (.inr ⟨z, r, g _ F1 H1 x it_str⟩)
    | _ => exact g.elim
end
/-! ### a def as its callers know it -/
def DefOk (P : Program) (w : World) (K : PySem.W.Frag) (mg : Str → Option Value) (base : Heap) (x : Str) (k n : Nat) (ps : List Str) (g : List D → Rs D) : Prop :=
  ∃ f fd, FnOk P w K mg base CX0 k f fd ps (spD K n g) ∧ Binds K fd ps [] ∧ PySem.W.keepIn K (.ref f) = true ∧ mg x = some (.ref f)
/-- a def of the text as the top shows it -/
structure DefAt (K : PySem.W.Frag) (mg : Str → Option Value) (x : Str) (st : Stmt) (f : Addr) (fd : FuncData) : Prop where
  fn : Fun K x x st f fd
  at_ : mg x = some (.ref f)
section
variable {P : Program} {w : World} {K : PySem.W.Frag} {mg : Str → Option Value} {base : Heap}
theorem DefOk.mk {x : Str} {st : Stmt} {f : Addr} {fd : FuncData} {N ps : List Str} {k n : Nat} {fb : FS} {g : List D → Rs D} (D : DefAt K mg x st f fd) (S : FnScope N ps (defScope st)) (hn : ps.length = n)
    (hb : ∀ (kV doc pm : Value) (an : Option Addr) (cdv ct : Value) (us : List Value), us.length = ps.length → bindArgs (PySem.W.fnOf x x (defArgs st) (defBody st) (defScope st) .none kV doc pm an cdv ct) ⟨us, []⟩ = pure (ps.zip us))
    (hbody : ∀ (cdv : Value) (A : Around) (outer : List Env) (s : Shared) (H : Hp) (E : XK), Room k (A.deeper (envOfC x (defScope st) s.heap.objs.size f cdv)) →
      PDSs (cxOf CX0 P w K mg base N x (defScope st) f cdv A outer s H E).nox (defBody st) fb)
    (hg : ∀ ds d, ds.length = n → g ds = .ok d → runF N.length fb ds = .ok d) : DefOk P w K mg base x (k + 1) n ps g :=
  ⟨f, fd, FnD.to (fnD D.fn S hn hbody) hg, D.fn.binds hb, D.fn.kp, D.at_⟩
theorem DefOk.up {x : Str} {j k n : Nat} {ps : List Str} {g : List D → Rs D} (D : DefOk P w K mg base x j n ps g) (h : j ≤ k) : DefOk P w K mg base x k n ps g :=
  let ⟨f, fd, F, r⟩ := D; ⟨f, fd, F.mono h, r⟩
end
section
variable {X : Cx} {pos : Pos} {e tg : Expr} {es : List Expr} {fe : FE} {fs : FA}
theorem pde_def {k n : Nat} {ps : List Str} {g : List D → Rs D} {x : Str} {p : Pos} (D : DefOk X.prog X.w X.K X.mg X.base x k n ps g) (hr : Room k X.A) (ha : PDA X (e :: es) fs) (hfs : ∀ τ ds, fs τ = .ok ds → ds.length = (e :: es).length) (hn : (e :: es).length = n := by rfl) (hg : Gl X x := by rfl) (hdb : (x == ("__debug__" : Str)) = false := by decide)
    (he : starEach (e :: es) X.env = (false, eval e X.env) :: starEach es X.env := by rfl) (hpl : (backTo pos (starEach es X.env)).any (·.1) = false := by rfl) : PDE X (.Call (.Name x p) (e :: es) [] pos) (eCall g fs) := by
  obtain ⟨f, fd, F, hb, hk, hm⟩ := D
  exact pde_call F hr hg hm hk hb ha hn hfs hdb he hpl
end
theorem room128 {k : Nat} {A : Around} (r : Room k A) : A.units + 128 < cLine := by have := r.un; omega
end FD

set_option Elab.async false
set_option linter.all false
set_option maxRecDepth 100000
namespace FD
open PySem PySem.Spec PyProof.Rows L2
section
variable {X : Cx} {pos : Pos} {e a b : Expr} {fe fa fb : FE}
def lst2 : D → D → Option (List D × List D)
  | .lst x, .lst y => some (x, y)
  | _, _ => none
theorem lst2_eq {d e : D} {x y : List D} (h : lst2 d e = some (x, y)) : d = .lst x ∧ e = .lst y := by
  unfold lst2 at h; split at h <;> cases h; exact ⟨rfl, rfl⟩
def eCat (fa fb : FE) : FA := fun τ => (fa τ).bind fun x => (fb τ).bind fun y => match lst2 x y with
  | some (i, j) => if i.length + j.length ≤ sizeLine then .ok (i ++ j) else .no
  | none => .no
/-- a new list out of two -/
theorem pdf_cat (ha : PDE X a fa) (hb : PDE X b fb) : PDF X (.BinOp a .Add b pos) (eCat fa fb) :=
  PE.imp (pe_op op_cat ha hb) fun σ H Q ⟨F, τ, R, h⟩ => by
    refine tE.of R h.bind fun x u F1 H1 g x1 R1 r1 => tE.of R1 g.bind fun y v F2 H2 g2 x2 R2 r2 => ?_
    cases q : lst2 x y with
    | none => rw [q] at g2; exact g2.elim
    | some ij =>
      obtain ⟨i, j⟩ := ij
      rw [q] at g2
      obtain ⟨rfl, rfl⟩ := lst2_eq q
      obtain ⟨z, g2⟩ := ok_ite g2
      simp only [Rep] at r1 r2
      obtain ⟨a, vs, rfl, e1, t1⟩ := r1
      obtain ⟨b, ws, rfl, e2, t2⟩ := r2
      exact ⟨a, b, vs, ws, rfl, rfl, R2.fh _ _ (x2.ff _ _ e1), R2.fh _ _ e2, by rw [← t1.length, ← t2.length]; exact z, fun p hp => g2 p _ F2 H2 (x1.trans x2) hp ((t1.mono x2.ff).append t2)⟩
end
/-- the whole law: what its def answers at a script -/
def spLaw (K : PySem.W.Frag) : Sp := fun vs H Q _ => ∃ (a : Addr) (ns : List Int), vs = [.ref a] ∧ SqL K H a (ns.map V.int) ∧ ns.length ≤ 63 ∧ ∀ H', Q (.bl true) H'
theorem law_fn {P : Program} {w : World} {K : PySem.W.Frag} {mg : Str → Option Value} {base : Heap} {k : Nat} {g : List D → Rs D} {p : Str} {f : Addr} {fd : FuncData} (F : FnOk P w K mg base CX0 k f fd [p] (spD K 1 g)) (h : ∀ ns : List Int, ns.length ≤ 63 → g [.scr ns] = .ok (.bl true)) :
    FnOk P w K mg base CX0 k f fd [p] (spLaw K) := by
  refine F.imp fun vs H Q E ⟨a, ns, e, hS, h63, q⟩ => ?_
  subst e
  refine ⟨rfl, [.scr ns], H, Same.refl H, Reps.cons (by simp only [Rep]; exact ⟨a, rfl, hS⟩) Reps.nil, ?_⟩
  rw [h ns h63]
  intro v F' H' _ r
  simp only [Rep] at r
  subst r
  exact q H'
theorem walk {l : PySem.W.OpenLaw} {q : Program} {loose : List Str} {XP : (Str → Option Value) → Heap → Prop} {YP : World → Heap → Prop} {d : DefRec} {K : Params → PySem.W.Frag} {k : Nat} {p : Str} (hn : l.most = some 63) (hdf : d.params.defaults = []) (hk : Room k callerA)
    (hY : ∀ (w : World) (h : Heap), YP w h → (K w.params).In h)
    (F : ∀ (w : World) (mg : Str → Option Value) (fa : Addr) (h : Heap), (K w.params).In h → h.Ns mainGlobals mg → mg d.name = some (.ref fa) →
      ∃ fd : FuncData, (∀ (s : Shared) (u : Value), BindsTo s fd ⟨[u], []⟩ [(p, u)]) ∧ ∀ base : Heap, (K w.params).In base → base.Ns mainGlobals mg → FnOk l.prog w (K w.params) mg base CX0 k fa fd [p] (spLaw (K w.params))) :
    PySem.W.WalkO q loose XP YP l.row.toRowW d [] (fun f vs => PySem.call f vs) :=
  L2.walk_of (n := 63) (k := k) (x := p) (CX := fun _ => CX0) (sp := fun w => spLaw (K w.params)) hn (by decide) hdf hk hY F (fun _ _ a ns hl _ hS => ⟨a, ns, rfl, hS, hl, fun _ => rfl⟩) fun _ _ _ _ _ z => z
end FD

set_option Elab.async false
set_option linter.all false
set_option maxRecDepth 100000
namespace FD
open PySem PySem.Spec PyProof.Rows L2
/-! ### a list from its end on -/
def Itv (K : PySem.W.Frag) (a : Addr) (n : Nat) : It :=
  ⟨fun i H => ∃ xs x, SqL K H a xs ∧ i < n ∧ xs[n - 1 - i]? = some x, fun i H x H' => H' = H ∧ ∀ xs, SqL K H a xs → xs[n - 1 - i]? = some x, fun i _ => n ≤ i⟩
theorem turn_rev {P : Program} {w : World} {K : PySem.W.Frag} {tg : Expr} (a it : Addr) (n : Nat) : Turn P w K tg (Itv K a n) [it] it (fun i h => i ≤ n ∧ h.IsRevIter it a ((n : Int) - 1 - (i : Int))) where
  mem := by simp
  obj := fun i h st b hb => by
    have e : b = it := by simpa using hb
    subst e
    obtain ⟨_, o, e, c, d⟩ := st
    exact ⟨o, e, fun v z => by rw [d] at z; cases z⟩
  keep := fun i h h' st k => ⟨st.1, st.2.at fun o e => k it (by simp) o e⟩
  item := by
    intro X hP hw hK hc i pins s σ H E I hf st hg
    subst hP hw hK
    obtain ⟨xs, x, hq, hi, hx⟩ := hg
    obtain ⟨hn, st⟩ := st
    obtain ⟨its, rv, p, hz⟩ := I.list hq
    obtain ⟨u, hu, ru⟩ := rv.get hx
    obtain ⟨f0, f1, f2, f3, f4, f5⟩ := hf it (by simp)
    have e1 : (n : Int) - 1 - (i : Int) = ((n - 1 - i : Nat) : Int) := by omega
    rw [e1] at st
    refine wpAny_pyNext_rev_item st p.isList (x := u) (by simpa using hu) fun h' st' sb => ?_
    have I1 : Inv X pins σ H { s with heap := h' } := I.turned (t' := s.toks) (fun b o hb e => (sb.2 b hb).trans e) f0 f1 f3 f4 f5
    have e2 : ((n - 1 - i : Nat) : Int) - 1 = (n : Int) - 1 - ((i + 1 : Nat) : Int) := by omega
    rw [e2] at st'
    obtain ⟨o, e, c, d⟩ := id st'
    exact ⟨u, rfl, go_of (s := { s with heap := h' }) e c d (by decide) ⟨x, H, I1, ru, ⟨rfl, fun ys hy => by rw [I.list_inj hy hq]; exact hx⟩, ⟨hi, st'⟩, fun b hb => (hf b hb).1⟩⟩
  done := by
    intro X hP hw hK hc i pins s σ H E I hf st hg
    subst hP hw hK
    obtain ⟨hn, st⟩ := st
    have hg : n ≤ i := hg
    obtain ⟨f0, f1, f2, f3, f4, f5⟩ := hf it (by simp)
    have e1 : (n : Int) - 1 - (i : Int) = -1 := by omega
    rw [e1] at st
    exact wpAny_pyNext_rev_end (I.ok.hd hc) st fun h' eb => ⟨rfl, I.turned (t' := s.toks) (fun b o hb e => eb b o hb e) f0 f1 f3 f4 f5⟩
  self := fun _ _ _ _ _ st h => wpAny_pyIter_revIter st.2 h
section
variable {X : Cx} {pos : Pos} {e tg : Expr} {es : List Expr} {fe : FE} {fs : FA}
def iRevT (K : PySem.W.Frag) (ta : TA) : TI := fun σ H R => ta σ H fun vs H1 => ∃ a xs, vs = [.ref a] ∧ SqL K H1 a xs ∧ R (Itv K a xs.length) H1
theorem pi_rev {a : Expr} {ta : TA} {p : Pos} (hg : Gl X "reversed") (hm : X.mg "reversed" = none) (ha : PA X [a] ta) (hs : starEach [a] X.env = [(false, eval a X.env)] := by rfl) : PI X tg (.Call (.Name "reversed" p) [a] [] pos) (iRevT X.K ta) := by
  intro pins s σ H R I h
  refine Call_ (ld_blt I hg hm boot_reversed (PyProof.Rows.callWith_type1 (thn (ha pos pins s σ H _ I h) fun us s1 ⟨vs, H1, I1, r1, q1⟩ => ?_) hs rfl))
  obtain ⟨a, xs, e, hq, q⟩ := q1
  subst e
  obtain ⟨u, rfl, ru⟩ := r1.one
  cases ru
  obtain ⟨its, rv, p, hz⟩ := I1.list hq
  have hlen : its.toArray.size = xs.length := by rw [List.size_toArray]; exact rv.length.symm
  refine call_reversed_list p.isList ?_
  rw [hlen]
  have hit : (s1.heap.push (revObj a ((xs.length : Int) - 1))).IsRevIter s1.heap.objs.size a ((xs.length : Int) - 1) := ⟨_, Heap.get?_push_size _ rfl, rfl, rfl⟩
  refine wpAny_pyIter_revIter (s := { s1 with heap := s1.heap.push (revObj a ((xs.length : Int) - 1)) }) hit ?_
  refine ⟨s1.heap.objs.size, [s1.heap.objs.size], _, _, H1, rfl, I1.kept (t' := s1.toks) fun b o e => Heap.get?_push_of_some _ e, turn_rev a _ xs.length, ⟨Nat.zero_le _, by simpa using hit⟩, fun b hb => ?_, q⟩
  have e : b = s1.heap.objs.size := by simpa using hb
  subst e
  exact I1.fpOk (Nat.le_refl _) (I1.hok.fresh (Nat.le_refl _))
theorem it_rev {K : PySem.W.Frag} {F1 : Hp} {a : Addr} {ds : List D} {vs : List V} (e : SqL K F1 a vs) (r : Reps K F1 ds vs) : ItOk K (Itv K a vs.length) F1 ds.reverse := fun i F H f1 f2 => by
  have q : SqL K H a vs := (f1.trans f2).seq e
  have hr := r.length
  refine ⟨fun h => by rw [List.length_reverse] at h; show vs.length ≤ i; omega, fun d hd => ?_⟩
  have hi : i < ds.length := by have := (List.getElem?_eq_some_iff.mp hd).1; simpa using this
  rw [List.getElem?_reverse hi] at hd
  obtain ⟨v, hv, rv⟩ := r.get hd
  rw [hr] at hv
  refine ⟨⟨vs, v, q, by omega, hv⟩, fun y H' yy => ?_⟩
  obtain ⟨rfl, yy⟩ := yy
  have e3 := yy vs q
  rw [hv] at e3; cases e3
  exact ⟨F, Ext.refl f2, rv.mono f1⟩
def lst1 : List D → Option (List D)
  | [.lst ds] => some ds
  | _ => none
theorem lst1_eq {ds xs : List D} (h : lst1 ds = some xs) : ds = [.lst xs] := by
  unfold lst1 at h; split at h <;> cases h; rfl
def iRv (fs : FA) : FA := fun τ => (fs τ).bind fun ds => match lst1 ds with
  | some xs => .ok xs.reverse
  | none => .no
theorem pdi_rev {a : Expr} {p : Pos} (hg : Gl X "reversed") (hm : X.mg "reversed" = none) (ha : PDA X [a] fs) (hs : starEach [a] X.env = [(false, eval a X.env)] := by rfl) : PDI X tg (.Call (.Name "reversed" p) [a] [] pos) (iRv fs) :=
  PI.imp (pi_rev hg hm ha hs) fun σ H R ⟨F, τ, Rv, h⟩ => tAs.of Rv h.bind fun ds vs F1 H1 g x R1 r => by
    cases q1 : lst1 ds with
    | none => rw [q1] at g; exact g.elim
    | some xs =>
      rw [q1] at g
      have e := lst1_eq q1
      subst e
      obtain ⟨v, rfl, q⟩ := r.one
      simp only [Rep] at q
      obtain ⟨l, ws, rfl, e1, t⟩ := q
      exact ⟨l, ws, rfl, SqL.of (R1.fh _ _ e1), g _ F1 H1 x (it_rev (SqL.of e1) t)⟩
/-! ### x[::-1] -/
theorem rev_str (x : Str) (u : Tok) : Txt.sliceBy x none none (-1, u) = ⟨x.cps.toList.reverse.toArray⟩ := by
  have h := step_rev_list x u
  have e : ((List.range x.length).map fun k => x.cps.getD (x.length - 1 - k) 0) = x.cps.toList.reverse := by
    have hl : x.length = x.cps.toList.length := by simp [Str.length]
    apply List.ext_getElem
    · simp [hl]
    · intro i h1 h2
      have hi : i < x.cps.size := by simpa [Str.length] using h1
      simp only [List.getElem_map, List.getElem_range, List.getElem_reverse]
      rw [hl]
      simp only [Array.length_toList, Array.getElem_toList, Array.getD]
      rw [dif_pos (by omega)]
      rfl
  rw [e] at h
  generalize Txt.sliceBy x none none (-1, u) = y at h
  obtain ⟨c⟩ := y
  congr 1
  rw [← h]
def revD : D → Rs D
  | .str x => if x.length ≤ sizeLine then .ok (.str ⟨x.cps.toList.reverse.toArray⟩) else .no
  | .lst ds => .ok (.lst ds.reverse)
  | _ => .no
def eRev (fe : FE) : FE := fun τ => (fe τ).bind revD
theorem pde_rev {st : Expr} {p2 : Pos} (he : PDE X e fe) (hs : PDE X st (eNeg (eC (.int 1)))) : PDE X (.Subscript e (.Slice none none (some st) p2) pos) (eRev fe) := by
  intro pins s σ H Q I ⟨F, τ, R, h⟩
  refine Subscript_ (thn (he pins s σ H _ I (tE.of R h.bind fun d v F1 H1 g x R1 r => (⟨d, F1, g, x, R1, r⟩ : ∃ d F1, Ok X (revD d) (Ev X.K F H Q) ∧ Ext F H F1 H1 ∧ RV X.K F1 τ σ H1 ∧ Rep X.K F1 d v))) fun v s1 ⟨x, H1, I1, r1, d, F1, g, x1, R1, r⟩ => ?_)
  refine wpAny_Slice ?_
  rw [evalPart_none]
  refine wpAny_pure (wpAny_pure ?_)
  rw [evalPart_some]
  refine thn (hs pins s1 σ H1 (fun w H2 => w = .int (-1) ∧ ∃ F2, Ext F1 H1 F2 H2) I1 ⟨F1, τ, R1, fun w F2 H2 x2 r2 => ⟨by simpa only [Rep] using r2, F2, x2⟩⟩) fun u s2 ⟨y, H2, I2, r2, ey, F2, x2⟩ => ?_
  subst ey
  obtain ⟨tk, rfl⟩ := r2
  have I4 : Inv X pins σ H2 { s2 with heap := s2.heap.push { cls := .type "slice", data := .fields #[.none, .none, .int (-1) tk] } } := I2.kept (t' := s2.toks) fun b ob q => Heap.get?_push_of_some _ q
  have x12 := x1.trans x2
  have r := r.mono x2.ff
  show wpAny (model X.prog X.w) X.A (subscriptTail e (.Slice none none (some st) p2) v (.ref s2.heap.objs.size)) (EP X pins σ Q) X.xe { s2 with heap := s2.heap.push { cls := .type "slice", data := .fields #[.none, .none, .int (-1) tk] } }
  cases d with
  | str z =>
    simp only [Rep] at r; subst r
    obtain ⟨t, rfl⟩ := r1
    obtain ⟨hz, g⟩ := ok_ite g
    refine tail_any (ops := [.str z t, .ref s2.heap.objs.size]) (typeIs_str _ _ _) PySem.F.slot_str_getitem.lookup (wpAny_getItem_str_slice (l := none) (u := none) (st := some (-1, tk)) ⟨_, Heap.get?_push_size _ rfl, rfl, rfl⟩ rfl (post_val_or_str ⟨Nat.le_trans (Txt.sliceBy_le z none none (-1, tk) (by show (-1 : Int) ≠ 0; decide)) hz, fun t' k => ⟨.str (Txt.sliceBy z none none (-1, tk)), H2, I4.tok _, ⟨_, rfl⟩, ?_⟩⟩)) (by with_unfolding_all rfl)
    rw [rev_str]
    exact g _ F2 H2 x12 (by simp only [Rep])
  | lst ds =>
    simp only [Rep] at r; obtain ⟨a, vs, rfl, e1, t⟩ := r
    cases r1
    obtain ⟨its, rr, ht, hz⟩ := I4.list (SqL.of (K := X.K) (x2.fh _ _ e1))
    have g : Ev X.K F H Q (.lst ds.reverse) := g
    refine tail_any (ops := [.ref a, .ref s2.heap.objs.size]) ht.isList.typeIs slot_list_getitem.lookup (wpAny_getItem_list_slice ht.isList (Heap.IsSliceOf.new ..) .none .none (.int (-1) tk) (by simp) ?_ (by rw [List.size_toArray, ← rr.length]; exact hz)) (by with_unfolding_all rfl)
    rw [PySem.W.krv_pick]
    refine ⟨.ref _, _, I4.laid (t' := s2.toks) (o := .lst vs.reverse) (fun b ob q => Heap.get?_push_of_some _ q) (Nat.le_refl _) ?_, rfl, g _ _ _ (x12.trans (Ext.new x2.fh (I4.hok.fresh (Nat.le_refl _)))) ?_⟩
    · exact ⟨by rw [List.length_reverse]; exact hz, its.reverse, 0, rr.reverse, Heap.get?_push_size _ rfl⟩
    · simp only [Rep]
      exact ⟨_, _, rfl, upd_same, (t.reverse).mono (same_upd (none_of_same x2.fh (I4.hok.fresh (Nat.le_refl _))))⟩
  | _ => exact g.elim
/-! ### int(bool) -/
/-! ### a, b = pair -/
/-! ### list(range(a, b)) -/
end
end FD

set_option Elab.async false
set_option linter.all false
set_option maxRecDepth 100000
namespace FD
open PySem PySem.Spec PyProof.Rows L2
/-! ### lists of ints, compared by < -/
section
open PySem.SeqAt
open PySem.AutoSeq1 (wpAny_loadPart')
open PySem.MeetsSeq PySem.MeetsSeq2 PySem.MeetsSeq3
end
section
variable {X : Cx}
end
end FD

set_option Elab.async false
set_option linter.all false
set_option maxRecDepth 100000
namespace FD
open PySem PySem.Spec PyProof.Rows L2
section
variable {X : Cx}
/-! ### text.index(text) that is in it -/
/-! ### text * int -/
/-! ### tuple(list) -/
end
/-! ### items that are not starred -/
section
variable {rest : List Expr} {env : Env}
end
end FD

set_option Elab.async false
set_option linter.all false
set_option maxRecDepth 100000
namespace FD
open PySem PySem.Spec PyProof.Rows L2
/-! ### enumerate(list), its pairs unpacked -/
section
variable {X : Cx} {pos : Pos} {e a b : Expr} {es : List Expr} {fe fa fb : FE} {fs : FA}
/-! ### f-strings -/
/-! ### text.endswith(text), text.split(text), text.partition(text), int(text) -/
end
end FD

set_option Elab.async false
set_option linter.all false
set_option maxRecDepth 100000
namespace FD
open PySem PySem.Spec PyProof.Rows L2
/-! ### steps of exceptions -/
theorem obj_there {P : Program} {w : World} {H : Hp} {h : Heap} {a : Addr} {o : HO} (x : ObjOk P w H h a o) : ∃ ob, h.get? a = some ob := by
  cases o with
  | lst xs => obtain ⟨_, _, _, _, e⟩ := x; exact ⟨_, e⟩
  | tup xs => obtain ⟨_, _, _, ob, e, _⟩ := x; exact ⟨_, e⟩
  | dK kvs => obtain ⟨_, _, _, _, o, _, _, e, _⟩ := x; exact ⟨_, e⟩
  | dT kvs => obtain ⟨_, _, _, _, o, _, _, e, _⟩ := x; exact ⟨_, e⟩
  | set S n => obtain ⟨o, _, _, _, e, _⟩ := x; exact ⟨_, e⟩
  | ins C dx fs => obtain ⟨_, _, _, e, _⟩ := x; exact ⟨_, e⟩
  | own y => exact x
  | xd fs => obtain ⟨_, ⟨_, _, _, e, _⟩, _⟩ := x; exact ⟨_, e⟩
  | rng lo hi => obtain ⟨_, _, _, e⟩ := x; exact ⟨_, e⟩
  | frz ob u => obtain ⟨e, _⟩ := x; exact ⟨_, e⟩
  | tbl ps => exact ⟨_, (show h.get? a = some _ from x)⟩
  | met f y => exact ⟨_, (show h.get? a = some _ from x)⟩
  | ext φ => obtain ⟨_, q, _⟩ := x; exact q
section
variable {X : Cx} {pins : List (Addr × Obj)} {σ : St} {H : Hp} {s : Shared} {h' : Heap}
theorem free_of_none (I : Inv X pins σ H s) {b : Addr} (e : s.heap.get? b = none) : H b = none := by
  cases q : H b with
  | none => rfl
  | some o => obtain ⟨ob, z⟩ := obj_there (I.hok b o q); rw [e] at z; cases z
theorem entry_none (I : Inv X pins σ H s) (hx : X.ex = []) {b : Addr} (e : s.heap.get? b = none) : X.s₀.heap.get? b = none := by
  cases q : X.s₀.heap.get? b with
  | none => rfl
  | some o => obtain ⟨ob, z⟩ := I.base.there b o q (by rw [hx]; simp); rw [e] at z; cases z
/-- an address where nothing stood -/
theorem nw_of_none (I : Inv X pins σ H s) (hx : X.ex = []) {b : Addr} (e : s.heap.get? b = none) : Nw X H b :=
  ⟨free_of_none I e, entry_none I hx e, fun p hp z => by
    have := (I.pin p (List.mem_append_left _ hp)).1
    rw [z, e] at this; cases this⟩
theorem fs_free (I : Inv X pins σ H s) {b : Addr} (hb : b ∈ X.fs) : H b = none := by
  obtain ⟨_, o, ho, _⟩ := I.ok.funs.mem hb
  exact I.base.free b o ho (I.ok.frf b hb) fun z => I.ok.exfs b z hb
/-- objects of ours, made since the entry, have changed, and the frames' slots -/
theorem turnN {ch : List Addr} {t' : Nat} (I : Inv X pins σ H s) (hx : X.ex = []) (hch : ∀ b ∈ ch, X.s₀.heap.get? b = none ∧ H b = none ∧ b ≠ X.env.locals ∧ b ∉ X.fs ∧ (∀ x c, X.env.cells.lookup x = some c → c ≠ b) ∧ ∀ p ∈ X.pn ++ pins, p.1 ≠ b)
    (keep : ∀ b o, b ≠ X.env.locals → b ∉ X.fs → b ∉ ch → s.heap.get? b = some o → h'.get? b = some o)
    (slot : ∀ b o, (b = X.env.locals ∨ b ∈ X.fs) → s.heap.get? b = some o → ∃ sl, h'.get? b = some { o with slots := sl }) : Inv X pins σ H { s with heap := h', toks := t' } := by
  let X' : Cx := { X with ex := ch }
  have ok' : X'.Ok := ⟨I.ok.mod, I.ok.kind, I.ok.glob, I.ok.blt, I.ok.above, I.ok.inj, I.ok.has, I.ok.cab, I.ok.hd, I.ok.frames, I.ok.stk, fun b hb => ⟨(hch b hb).2.2.1, (hch b hb).2.2.2.2.1⟩, I.ok.bs, I.ok.bsz, (fun b o e hb => nomatch (hch b hb).1.symm.trans (I.ok.bs b o e).1), fun b hb => (hch b hb).2.2.2.1, I.ok.funs, I.ok.frf⟩
  have hx' : ∀ b : Addr, b ∉ X.ex := fun b => by rw [hx]; simp
  have I' : Inv X' pins σ H s := ⟨ok', I.os, I.bare, ⟨fun b o e n h1 _ => I.base.keep b o e n h1 (hx' b), fun b o e n h1 _ => I.base.slot b o e n h1 (hx' b), fun b o e n _ => I.base.free b o e n (hx' b), fun b o e _ => I.base.there b o e (hx' b), I.base.tups, I.base.frzs, I.base.tbls⟩,
    I.loc, I.cell, I.free, I.freeC, I.pin, I.hok, I.len⟩
  have hok : HOk X.prog X.w H h' := fun b u e => (I.hok b u e).stay (fun c v hc q => keep c v (fun z => ?_) (fun z => ?_) (fun z => ?_) q) (fun _ q => q) fun _ _ q => q
  have J := I'.step (g' := s.gens) (d' := s.drawn) (t' := t') (h' := h') (H' := H) (ch := ch) (fun b hb => ⟨.inl hb, (hch b hb).2.2.1, (hch b hb).2.2.2.2.1, (hch b hb).2.2.2.2.2⟩) (fun b o h1 h2 h3 e _ => keep b o h1 h2 h3 e) (fun b o _ h2 _ e _ => slot b o (.inr h2) e) (fun _ _ _ _ n => n)
    (fun b o h3 e => ?_) (fun _ _ e => e) (fun _ _ _ e => e) (fun b ps e => ⟨#[], by rw [e]; simp⟩) (fun m ⟨o, es, ep, ho, r⟩ => ?_) hok I.bare
  · have nch : ∀ b o, X.s₀.heap.get? b = some o → b ∉ ch := fun b o e hb => by rw [(hch b hb).1] at e; cases e
    exact ⟨I.ok, J.os, J.bare, ⟨fun b o e n h1 _ => J.base.keep b o e n h1 (nch b o e), fun b o e n h1 _ => J.base.slot b o e n h1 (nch b o e), fun b o e n _ => J.base.free b o e n (nch b o e), fun b o e _ => J.base.there b o e (nch b o e), J.base.tups, J.base.frzs, J.base.tbls⟩,
      J.loc, J.cell, J.free, J.freeC, J.pin, J.hok, J.len⟩
  · by_cases h1 : b = X.env.locals ∨ b ∈ X.fs
    · obtain ⟨sl, q⟩ := slot b o h1 e; exact ⟨_, q⟩
    · exact ⟨o, keep b o (fun z => h1 (.inl z)) (fun z => h1 (.inr z)) h3 e⟩
  · obtain ⟨sl, q⟩ := slot _ o (.inl rfl) ho
    exact ⟨_, es, ep, q, r⟩
  all_goals
    rcases hc with hc | hc
    · subst hc
      first
        | (subst z; rw [I.free] at e; cases e)
        | (rw [fs_free I z] at e; cases e)
        | (rw [(hch _ z).2.1] at e; cases e)
    · first
        | (subst z; rw [I.free] at hc; cases hc)
        | (rw [fs_free I z] at hc; cases hc)
        | (rw [(hch _ z).2.1] at hc; cases hc)
/-- a body's frame on top -/
structure Fst (X : Cx) : Prop where
  ex : X.ex = []
  stk : X.stack = X.env :: X.outer
  fr : X.env.frame = some X.env.locals
theorem Fst.mem {X : Cx} (D : Fst X) {b : Addr} : b ∈ frs X.stack ↔ b = X.env.locals ∨ b ∈ X.fs := by
  rw [D.stk]
  unfold frs
  rw [List.filterMap_cons, D.fr]
  show b ∈ X.env.locals :: _ ↔ _
  rw [List.mem_cons]; exact Iff.rfl
/-- an exception's own objects -/
theorem ch_ok (D : Fst X) (I : Inv X pins σ H s) {b : Addr} {o : Obj} {vs : Array Value} (n : Nw X H b) (hp : ∀ p ∈ pins, p.1 ≠ b) (e : s.heap.get? b = some o) (d : o.data = .fields vs) :
    X.s₀.heap.get? b = none ∧ H b = none ∧ b ≠ X.env.locals ∧ b ∉ X.fs ∧ (∀ x c, X.env.cells.lookup x = some c → c ≠ b) ∧ ∀ p ∈ X.pn ++ pins, p.1 ≠ b := by
  refine ⟨n.2.1, n.1, fun z => ?_, fun z => ?_, fun x c hc z => ?_, fun p hp' => (List.mem_append.mp hp').elim (n.2.2 p) (hp p)⟩
  · obtain ⟨m, ⟨o', es, ep, ho', hd', _⟩, _⟩ := I.loc
    rw [z, ho'] at e; cases e; rw [hd'] at d; cases d
  · obtain ⟨_, o', ho', hd'⟩ := I.stack.mem (show b ∈ frs X.stack from D.mem.mpr (.inr z))
    rw [ho'] at e; cases e; exact hd' _ d
  · obtain ⟨v, o', ho', hd'⟩ := I.cell x c hc
    rw [z, e] at ho'; cases ho'; rw [d] at hd'; cases hd'
theorem slots_frames {l : List Addr} {h h1 : Heap} (so : Heap.SlotsOnly l h h1) {b : Addr} {o : Obj} (hb : b ∉ l) (e : h.get? b = some o) : h1.get? b = some o := (so.2.1 b hb).trans e
end
end FD

set_option Elab.async false
set_option linter.all false
set_option maxRecDepth 100000
namespace FD
open PySem PySem.Spec PyProof.Rows L2
section
variable {X : Cx} {pins : List (Addr × Obj)} {σ : St} {H : Hp} {s : Shared} {h' : Heap} {a : Addr} {cls : Value}
/-- an exception with an entry -/
def TrAt (X : Cx) (H : Hp) (h : Heap) (a : Addr) (cls fl : Value) : Prop := Nw X H a ∧ ∃ oe vs T oT ts, h.get? a = some oe ∧ oe.cls = cls ∧ oe.dict = none ∧ oe.data = .fields vs ∧
  vs[1]? = some (.ref T) ∧ Nw X H T ∧ T ≠ a ∧ h.get? T = some oT ∧ oT.data = .fields ts ∧ ts[3]? = some fl ∧ vs[2]? = some .none
theorem TrAt.exc {h : Heap} (x : TrAt X H h a cls .none) : ExcAt X H h a cls := by
  obtain ⟨n, oe, vs, T, oT, ts, e1, e2, e0, e3, e4, e5, e6, e7, e8, e9⟩ := x
  exact ⟨n, oe, vs, e1, e2, e0, e3, .inr ⟨T, oT, ts, e4, e5, e6, e7, e8, e9.1⟩, e9.2⟩
theorem dict_map (o : Obj) (f : Array Value → Array Value) : (Obj.mapFields f o).dict = o.dict := by
  unfold Obj.mapFields; split <;> rfl
theorem lt_of_get {vs : Array Value} {i : Nat} {v : Value} (h : vs[i]? = some v) : i < vs.size := by
  rcases Nat.lt_or_ge i vs.size with z | z
  · exact z
  · rw [Array.getElem?_eq_none z] at h; cases h
variable {M : Model} {A : Around} {E : Value → Shared → Prop} {Q : Unit → Shared → Prop}
theorem np (b : Addr) : ∀ p ∈ ([] : List (Addr × Obj)), p.1 ≠ b := fun p hp => nomatch hp
/-- one of our objects is written -/
theorem wrote {b : Addr} {o : Obj} {vs : Array Value} (f : Array Value → Array Value) (D : Fst X) (I : Inv X [] σ H s) (n : Nw X H b) (e : s.heap.get? b = some o) (d : o.data = .fields vs) : Inv X [] σ H { s with heap := s.heap.update b (Obj.mapFields f) } := by
  refine turnN (ch := [b]) (t' := s.toks) I D.ex (fun c hc => ?_) (fun c u h1 h2 h3 q => ?_) fun c u hc q => ⟨u.slots, ?_⟩
  · have : c = b := by simpa using hc
    subst this
    exact ch_ok D I n (np c) e d
  · rw [Heap.get?_update_other _ _ (fun z => h3 (by simp [z]))]; exact q
  · have := ch_ok D I n (np b) e d
    rw [Heap.get?_update_other _ _ (fun z => ?_)]
    · exact q
    · subst z
      rcases hc with hc | hc
      · exact this.2.2.1 hc
      · exact this.2.2.2.1 hc
theorem get_wrote {h : Heap} {b : Addr} {o : Obj} {vs : Array Value} {f : Array Value → Array Value} (e : h.get? b = some o) (d : o.data = .fields vs) : (h.update b (Obj.mapFields f)).get? b = some (Obj.mapFields f o) :=
  Heap.get?_update_self _ e (Obj.isFreed_of_fields (Obj.data_mapFields d f))
theorem flight_ok {fl : Value} (D : Fst X) (I : Inv X [] σ H s) (x : TrAt X H s.heap a cls fl) (k : ∀ h', Inv X [] σ H { s with heap := h' } → TrAt X H h' a cls .none → Q () { s with heap := h' }) : wpAny M A (setFlight (.ref a) none) Q E s := by
  obtain ⟨na, oe, vs, T, oT, ts, e1, e2, e0, e3, e4, nT, ne, eT, dT, e9⟩ := x
  refine wpAny_setFlight_none e1 e3 e4 eT dT (lt_of_get e9.1) ?_
  refine k _ (wrote _ D I nT eT dT) ⟨na, oe, vs, T, _, _, ?_, e2, e0, e3, e4, nT, ne, get_wrote eT dT, Obj.data_mapFields dT _, ?_, e9.2⟩
  · rw [Heap.get?_update_other _ _ ne]; exact e1
  · simp [Array.getElem?_setIfInBounds, lt_of_get e9.1]
theorem entry_ok {oe : Obj} {vs : Array Value} {head : Value} {hn : Bool} (hA : A.frames = some X.stack) (D : Fst X) (I : Inv X [] σ H s) (na : Nw X H a) (e1 : s.heap.get? a = some oe) (e2 : oe.cls = cls) (e0 : oe.dict = none) (e3 : oe.data = .fields vs) (hv : 1 < vs.size) (hv2 : vs[2]? = some .none)
    (k : ∀ h', Inv X [] σ H { s with heap := h' } → TrAt X H h' a cls (rawInt X.env.locals) → Q () { s with heap := h' }) :
    wpAny M A (do
      let f ← PySem.frameOf X.env
      let pl ← entryPlaceOf X.env.locals hn
      let b ← EntryCells.newEntry head f Value.none (rawInt X.env.locals) Value.none pl
      setField (.ref a) 1 b) Q E s := by
  refine wpAny_bind (wpAny_frameOf_fun (base := X.base) (outer := X.outer) (by rw [← D.stk]; exact hA) (by rw [← D.stk]; exact I.stack) D.fr fun h1 so => ?_)
  have ca := ch_ok D I na (np a) e1 e3
  have nf : a ∉ frs X.stack := fun z => (D.mem.mp z).elim ca.2.2.1 ca.2.2.2.1
  have so' : Heap.SlotsOnly (frs X.stack) s.heap h1 := by rw [D.stk]; exact so
  have I1 : Inv X [] σ H { s with heap := h1 } := turnN (ch := []) (t' := s.toks) I D.ex (fun c hc => nomatch hc) (fun c u z1 z2 _ q => slots_frames so' (fun z => (D.mem.mp z).elim z1 z2) q) fun c u _ q => so'.2.2 c u q
  have f1 : h1.get? a = some oe := slots_frames so' nf e1
  refine wpAny_bind (wpAny_entryPlaceOf fun pl hp => wpAny_bind ?_)
  unfold EntryCells.newEntry newFields
  refine wpAny_newObj_type ?_ (hp.sizeOk5 _ _ _ _ _)
  have I2 := I1.kept (t' := s.toks) (h' := h1.push { cls := Value.type "traceback", data := Data.fields ([head, .ref X.env.locals, Value.none, rawInt X.env.locals, Value.none] ++ if pl.isEmpty = true then List.replicate 6 Value.none else pl).toArray }) fun b u e => Heap.get?_push_of_some _ e
  have f2 := Heap.get?_push_of_some { cls := Value.type "traceback", data := Data.fields ([head, .ref X.env.locals, Value.none, rawInt X.env.locals, Value.none] ++ if pl.isEmpty = true then List.replicate 6 Value.none else pl).toArray } f1
  have nT : Nw X H h1.objs.size := nw_of_none I1 D.ex (by
    cases q : h1.get? h1.objs.size with
    | none => rfl
    | some u => exact absurd (Heap.lt_size q) (Nat.lt_irrefl _))
  have ne : h1.objs.size ≠ a := Nat.ne_of_gt (Heap.lt_size f1)
  refine wpAny_setField f2 e3 hv ?_
  refine k _ (wrote _ D I2 na f2 e3) ⟨na, _, _, h1.objs.size, { cls := Value.type "traceback", data := Data.fields ([head, .ref X.env.locals, Value.none, rawInt X.env.locals, Value.none] ++ if pl.isEmpty = true then List.replicate 6 Value.none else pl).toArray }, _, get_wrote f2 e3, (Obj.cls_mapFields _ _).trans e2, (dict_map _ _).trans e0, Obj.data_mapFields e3 _, ?_, nT, ne, ?_, rfl, ?_, ?_⟩
  · simp [Array.getElem?_setIfInBounds, hv]
  · rw [Heap.get?_update_other _ _ (Ne.symm ne)]; exact Heap.get?_push_size _ rfl
  · simp
  · simpa [Array.getElem?_setIfInBounds] using hv2
theorem note_ok (hA : A.frames = some X.stack) (D : Fst X) (I : Inv X [] σ H s) (x : ExcAt X H s.heap a cls)
    (k : ∀ h', Inv X [] σ H { s with heap := h' } → TrAt X H h' a cls (rawInt X.env.locals) → Q () { s with heap := h' }) : wpAny M A (noteFrame (.ref a) X.env) Q E s := by
  obtain ⟨na, oe, vs, e1, e2, e0, e3, alt, v2⟩ := x
  unfold noteFrame
  rw [D.fr]
  rcases alt with e4 | ⟨T, oT, ts, e4, nT, ne, eT, dT, e9⟩
  · refine wpAny_bind (wpAny_field e1 e3 e4 ?_)
    exact entry_ok (hn := false) hA D I na e1 e2 e0 e3 (lt_of_get e4) v2 k
  · refine wpAny_bind (wpAny_field e1 e3 e4 ?_)
    refine wpAny_bind (wpAny_field eT dT e9 ?_)
    refine wpAny_bind (wpAny_setField eT dT (lt_of_get e9) ?_)
    have I1 := wrote (fun v => v.setIfInBounds 3 Value.none) D I nT eT dT
    exact entry_ok (hn := true) (s := { s with heap := s.heap.update T (Obj.mapFields fun v => v.setIfInBounds 3 Value.none) }) hA D I1 na (by rw [Heap.get?_update_other _ _ ne]; exact e1) e2 e0 e3 (lt_of_get e4) v2 k
/-- an exception leaves the body's frame -/
theorem leave_ok (hA : A.frames = some X.stack) (D : Fst X) (I : Inv X [] σ H s) (x : ExcAt X H s.heap a cls)
    (k : ∀ h', Inv X [] σ H { s with heap := h' } → TrAt X H h' a cls .none → Q () { s with heap := h' }) : wpAny M A (leaving X.env (.ref a)) Q E s := by
  unfold leaving
  refine wpAny_bind (note_ok hA D I x fun h1 I1 x1 => ?_)
  exact flight_ok (s := { s with heap := h1 }) D I1 x1 fun h2 I2 x2 => k h2 I2 x2
/-! ### a def's promise with refusals -/
/-- how an exception lies behind a call -/
def CXD (P : Program) (w : World) : CXT := fun outer H s E e s' => ∃ a cls H', e = .ref a ∧ s'.os = s.os ∧ AllBare s'.gens ∧ Un (frs outer) [] H H' s.heap s'.heap ∧ HOk P w H' s'.heap ∧
  (∃ oe vs T oT ts, s'.heap.get? a = some oe ∧ oe.cls = cls ∧ oe.dict = none ∧ oe.data = .fields vs ∧ vs[1]? = some (.ref T) ∧ T ≠ a ∧ s'.heap.get? T = some oT ∧ oT.data = .fields ts ∧ ts[3]? = some .none ∧
    H' a = none ∧ s.heap.get? a = none ∧ H' T = none ∧ s.heap.get? T = none ∧ vs[2]? = some .none) ∧ E cls none H'
def spX (K : PySem.W.Frag) (n : Nat) (g : List D → Rs D) : Sp := fun vs H Q E => vs.length = n ∧ ∃ ds F, Same F H ∧ Reps K F ds vs ∧ match g ds with
  | .ok d => Ev K F H Q d
  | .ex c => ∀ H' cls, Same H H' → PySem.W.nsIn K mainGlobals c = some (some cls) → E cls none H'
  | .no => False
/-- what the context takes, by the class itself -/
def XV (X : Cx) (σ : St) : XK := fun cls _ H => ∀ s a, Inv X [] σ H s → ExcAt X H s.heap a cls → X.xe (.ref a) s
theorem XA.xv {c : Str} (h : XA X c σ H) {cls : Value} (e : PySem.W.nsIn X.K mainGlobals c = some (some cls)) : XV X σ cls none H := fun s a I x => h s a cls e I x
theorem Inv.nil (I : Inv X pins σ H s) : Inv X [] σ H s := ⟨I.ok, I.os, I.bare, I.base, I.loc, I.cell, I.free, I.freeC, fun p hp => I.pin p (List.mem_append_left _ (by simpa using hp)), I.hok, I.len⟩
/-- behind a call that refused -/
theorem after_ex (hx : X.ex = []) (I : Inv X pins σ H s) {E : XK} {e : Value} {s' : Shared} (h : CXD X.prog X.w X.stack H s E e s') : ∃ a cls H', e = .ref a ∧ Inv X pins σ H' s' ∧ TrAt X H' s'.heap a cls .none ∧ (∀ p ∈ pins, p.1 ≠ a) ∧ E cls none H' := by
  obtain ⟨a, cls, H', rfl, os, bare, un, hok, ⟨oe, vs, T, oT, ts, e1, e2, e0, e3, e4, e5, e6, e7, e8, z1, z2, z3, z4, z5⟩, q⟩ := h
  obtain ⟨hh, g, d, t, os'⟩ := s'
  obtain rfl : os' = s.os := os
  have n1 : ∀ {b : Addr}, s.heap.get? b = none → H' b = none → Nw X H' b := fun {b} z n => ⟨n, entry_none I hx z, fun p hp y => by
    have := (I.pin p (List.mem_append_left _ hp)).1
    rw [y, z] at this; cases this⟩
  refine ⟨a, cls, H', rfl, I.call (h' := hh) (g' := g) (d' := d) (t' := t) (ch := []) un hok bare (fun b z => absurd z (by simp)), ⟨n1 z2 z1, oe, vs, T, oT, ts, e1, e2, e0, e3, e4, n1 z4 z3, e5, e6, e7, e8, z5⟩, fun p hp y => ?_, q⟩
  have := (I.pin p (List.mem_append_right _ hp)).1
  rw [y, z2] at this; cases this
theorem passX (hx : X.ex = []) {σ : St} (H : Hp) (s : Shared) (I : Inv X pins σ H s) {e : Value} {s' : Shared} (h : CXD X.prog X.w X.stack H s (XV X σ) e s') : X.xe e s' := by
  obtain ⟨a, cls, H', rfl, J, x, _, q⟩ := after_ex hx I h
  exact q s' a (Inv.nil J) x.exc
end
section
variable {P : Program} {w : World} {K : PySem.W.Frag} {mg : Str → Option Value} {base : Heap}
/-- THE RULE for a def that may refuse -/
theorem fnX {x qual : Str} {st : Stmt} {f : Addr} {fd : FuncData} {N ps : List Str} {k n : Nat} {fb : FS} (F : Fun K x qual st f fd) (S : FnScope N ps (defScope st)) (hn : ps.length = n)
    (hbody : ∀ (cdv : Value) (A : Around) (outer : List Env) (s : Shared) (H : Hp) (E : XK), Room k (A.deeper (envOfC qual (defScope st) s.heap.objs.size f cdv)) →
      PDSs (cxOf (CXD P w) P w K mg base N qual (defScope st) f cdv A outer s H E) (defBody st) fb) : FnOk P w K mg base (CXD P w) (k + 1) f fd ps (spX K n (runF N.length fb)) := by
  obtain ⟨oc, od, kV, doc, pm, an, cdv, ct, osl, rfl, lk, hcd⟩ := F.ex
  refine fn_of lk hcd S (fun vs H Q E h => by rw [hn]; exact h.1) fun A outer s H vs Q E hr h => ⟨_, hbody cdv A outer s H E hr, ?_⟩
  obtain ⟨hl, ds, Fz, fh, r, h⟩ := h
  refine ⟨H, Fz, Fz, startD N.length ds, rv_start fh r, ?_⟩
  unfold runF at h
  cases q : fb (startD N.length ds) with
  | nx τ => rw [q] at h; exact fun σ F' H' ff RR => h .non F' H' RR.out (by simp only [Rep])
  | rt d => rw [q] at h; exact fun v F' H' x rr => h v F' H' x rr
  | bk τ => rw [q] at h; exact h.elim
  | ct τ => rw [q] at h; exact h.elim
  | ex c => rw [q] at h; exact h.elim
  | no => rw [q] at h; exact h.elim
  | rs c τ =>
    rw [q] at h
    intro σ F' H' ff RR s2 a cls hc I x
    let X : Cx := cxOf (CXD P w) P w K mg base N qual (defScope st) f cdv A outer s H E
    have D : Fst X := ⟨rfl, rfl, rfl⟩
    refine leave_ok (X := X) I.ok.frames D I x fun h3 J t => ?_
    obtain ⟨na, oe, vs, T, oT, ts, g1, g2, g0, g3, g4, g5, g6, g7, g8, g9⟩ := t
    exact ⟨a, cls, H', rfl, J.os, J.bare, J.base, J.hok, ⟨oe, vs, T, oT, ts, g1, g2, g0, g3, g4, g6, g7, g8, g9.1, na.1, na.2.1, g5.1, g5.2.1, g9.2⟩, h H' cls RR.bh hc⟩
end
end FD

set_option Elab.async false
set_option linter.all false
set_option maxRecDepth 100000
namespace FD
open PySem PySem.Spec PyProof.Rows L2
/-! ### classes of errors in the text -/
abbrev VE : List Value := [Value.type "ValueError", Value.type "Exception", Value.type "BaseException", Value.type "object"]
theorem excIn_obj {K : PySem.W.Frag} {h : Heap} {C : Addr} {bmB : List Value} {newId : String} (KX : K.In h) (e : PySem.W.excIn K C bmB newId = true) : ∃ bm N nm q bs hdct sn sub ab col dd k0 k1 k2 k3 k5 mN,
    h.get? C = some (excClassObj nm q C N bs bm hdct sn sub ab col dd k0 k1 k2 k3 k5 newId) ∧ h.Ns N mN ∧ mN (Str.ofString "__init__") = none ∧ OwnTail h bmB bm := by
  unfold PySem.W.excIn at e
  split at e
  · rename_i dict cd sl hl
    split at e
    · rename_i C' bm k0 k1 k2 k3 n k5 hm hs
      simp only [Bool.and_eq_true, beq_iff_eq] at e
      obtain ⟨⟨⟨⟨⟨e1, e2⟩, e3⟩, e4⟩, e5⟩, e6⟩ := e
      subst e1; subst e2
      have obj := KX _ _ hl
      have hsl : sl = #[k0, k1, k2, k3, some (Value.builtin n), k5] := by
        apply Array.toList_inj.mp
        rw [hs]
      obtain ⟨nm, bs, mro, ns, q, hdct, sn, sub, ab, col, hdel⟩ := cd
      simp only at hm e3 e5 e6
      have e3 : hdel = false := by simpa using e3
      subst e3 hm hsl
      exact ⟨bm, ns, nm, q, bs, hdct, sn, sub, ab, col, dict, k0, k1, k2, k3, k5, _, obj, Heap.Ns.of_isNs (PySem.W.isNs_of_in KX e5), PySem.W.nsMap_none_of_in KX e5 e6, PySem.W.tail_of_in KX e4⟩
    · cases e
  · cases e
/-- the class that the module knows by this name -/
structure EC (K : PySem.W.Frag) (mg : Str → Option Value) (c : Str) (C : Addr) : Prop where
  ns : PySem.W.nsIn K mainGlobals c = some (some (.ref C))
  mgl : mg c = some (.ref C)
  exc : PySem.W.excIn K C VE "ValueError.__new__" = true
section
variable {X : Cx} {pos : Pos} {e : Expr} {es : List Expr} {fe : FE} {fs : FA} {st : Stmt}
/-! ### raise C('..') -/
def sRaise (c : Str) : FS := fun τ => .rs c τ
theorem pds_raise {c : Str} {C : Addr} {np cpos : Pos} {d : D} (T : EC X.K X.mg c C) (hx : X.ex = []) (hh : X.A.handled = none) (ha : PDE X e (eC d)) (hg : Gl X c := by rfl) (hd : (c == ("__debug__" : Str)) = false := by decide)
    (hs : starEach [e] X.env = [(false, eval e X.env)] := by rfl) : PDS X (.Raise (some (.Call (.Name c np) [e] [] cpos)) none pos) (sRaise c) := by
  intro pins s σ H D I ⟨B, Z, F, τ, R, h⟩
  obtain ⟨bm, N, nm, q, bs, hdct, sn, sub, ab, col, dd, k0, k1, k2, k3, k5, mN, hC, hN, hi, tl⟩ := excIn_obj I.ok.mod.kin T.exc
  refine wpAny_Raise_call_subU (bmB := VE) (mN := mN) (nm := nm) (q := q) (N := N) (bs := bs) (hdct := hdct) (sn := sn) (sub := sub) (ab := ab) (col := col) (dd := dd) (k0 := k0) (k1 := k1) (k2 := k2) (k3 := k3) (k5 := k5) PySem.F.excBase_ValueError (by decide) PySem.F.excBase_ValueError (tl.hasType (by decide)) hh (by rw [hs]; rfl) hi (ld_glob I hg T.mgl ⟨rfl, ?_⟩ hd)
  rw [hs]
  refine Calls.evalArgs_plain ?_
  have ha' := pda_cons ha pda_nil (by rw [hs]; rfl)
  have ha2 := ha' cpos pins s σ H (fun vs H1 => ∃ F1, Ext F H F1 H1 ∧ vs.length = 1) I ⟨F, τ, R.rv, fun vs F1 H1 x r => ⟨F1, x, by rw [← r.length]; rfl⟩⟩
  rw [hs] at ha2
  refine thn ha2 fun us s1 ⟨vs, H1, I1, r, F1, x1, hl⟩ => ?_
  refine ⟨rfl, by show us.length ≤ sizeLine; rw [← r.length, hl]; decide, I1.bk _ _ hC, hN.keeps I1.bk, tl.keeps I1.bk, fun h' a m => ?_⟩
  have I2 : Inv X pins σ H1 { s1 with heap := h' } := I1.kept (t' := s1.toks) m.keeps
  obtain ⟨t, et, _, _⟩ := m.there
  exact h σ F1 H1 x1.ff (R.ext x1) { s1 with heap := h' } a (.ref C) T.ns (Inv.nil I2) ⟨nw_of_none (s := s1) I1 hx m.new, _, _, et, rfl, rfl, rfl, .inl rfl, rfl⟩
/-! ### calls of defs that may refuse -/
def tX (X : Cx) (fs : FA) (g : List D → Rs D) : TE := fun σ H Q => ∃ F τ, RV X.K F τ σ H ∧ Ok X (fs τ) fun ds => match g ds with
  | .ok d => Ev X.K F H Q d
  | .ex c => ∀ F' H', Ext F H F' H' → XA X c σ H'
  | .no => False
def DefX (P : Program) (w : World) (K : PySem.W.Frag) (mg : Str → Option Value) (base : Heap) (x : Str) (k n : Nat) (ps : List Str) (g : List D → Rs D) : Prop :=
  ∃ f fd, FnOk P w K mg base (CXD P w) k f fd ps (spX K n g) ∧ Binds K fd ps [] ∧ PySem.W.keepIn K (.ref f) = true ∧ mg x = some (.ref f)
theorem pe_callX {k n : Nat} {ps : List Str} {g : List D → Rs D} {x : Str} {p : Pos} (D : DefX X.prog X.w X.K X.mg X.base x k n ps g) (hx : X.ex = []) (hr : Room k X.A) (ha : PDA X (e :: es) fs) (hfs : ∀ τ ds, fs τ = .ok ds → ds.length = (e :: es).length) (hn : (e :: es).length = n := by rfl) (hg : Gl X x := by rfl) (hdb : (x == ("__debug__" : Str)) = false := by decide)
    (he : starEach (e :: es) X.env = (false, eval e X.env) :: starEach es X.env := by rfl) (hpl : (backTo pos (starEach es X.env)).any (·.1) = false := by rfl) : PE X (.Call (.Name x p) (e :: es) [] pos) (tX X fs g) := by
  obtain ⟨f, fd, FF, hb, hk, hm⟩ := D
  intro pins s σ H Q I ⟨F, τ, R, h⟩
  refine wpAny_Call_Name_kw (ld_glob I hg hm ?_ hdb)
  refine PySem.W.callWith_K (h₀ := X.base) I.ok.mod.kin hk (thn (ha pos pins s σ H (fun vs H1 => vs.length = n ∧ ∃ ds F1, Ext F H F1 H1 ∧ Reps X.K F1 ds vs ∧ match g ds with
    | .ok d => Ev X.K F H Q d
    | .ex c => ∀ F' H', Ext F H F' H' → XA X c σ H'
    | .no => False) I ⟨F, τ, R, ?_⟩) fun us s1 ⟨vs, H1, I1, r, hl, ds, F1, x1, rr, q⟩ => ⟨I1.kIn, ?_⟩) he hpl
  · cases z : fs τ with
    | ok ds => rw [z] at h; exact fun vs F1 H1 x1 rr => ⟨by rw [← rr.length, hfs τ ds z, hn], ds, F1, x1, rr, h⟩
    | ex c => rw [z] at h; exact h
    | no => rw [z] at h; exact h
  · have hl2 : us.length = ps.length := by
      rw [← r.length, hl]
      have := FF.len vs H1 Q (XV X σ)
      refine Eq.trans hl.symm (this ⟨hl, ds, F1, x1.fh, rr, ?_⟩)
      cases z : g ds with
      | ok d => rw [z] at q; exact q.ext x1
      | ex c => rw [z] at q; exact fun H' cls ss hc => (q F1 H' (x1.trans ⟨Same.refl F1, ss, x1.fh.trans ss, fun _ _ e => .inl e⟩)).xv hc
      | no => rw [z] at q; exact q
    have hsp : spX X.K n g vs H1 Q (XV X σ) := ⟨hl, ds, F1, x1.fh, rr, by
      cases z : g ds with
      | ok d => rw [z] at q; exact q.ext x1
      | ex c => rw [z] at q; exact fun H' cls ss hc => (q F1 H' (x1.trans ⟨Same.refl F1, ss, x1.fh.trans ss, fun _ _ e => .inl e⟩)).xv hc
      | no => rw [z] at q; exact q⟩
    have bt := hb s1 us I1.kIn (by rw [List.append_nil]; exact hl2)
    rw [List.append_nil] at bt
    refine wpAny_call (codeAny_mono (FF.run X.A X.stack s1 H1 ⟨us, []⟩ us vs Q (XV X σ) hr I1.env0 bt r hsp) fun r s' hq => ?_)
    cases r with
    | error e => exact passX hx H1 s1 I1 hq
    | ok fl =>
      cases fl with
      | ret u => exact I1.after hq
      | next => exact False.elim hq
      | brk => exact False.elim hq
      | cont => exact False.elim hq
def sSetX (i : Nat) (g : List D → Rs D) (fs : FA) : FS := fun τ => Fl.of (fs τ) fun ds => match g ds with
  | .ok d => .nx (τ.set i (some (.val d)))
  | .ex c => .rs c τ
  | .no => .no
theorem pds_setX {i : Nat} {x : Str} {pos' : Pos} {g : List D → Rs D} (hN : X.N.Nodup) (hi : X.N[i]? = some x) (hx : Loc X.env.scope x) (h : PE X e (tX X fs g)) (hs : swapsWith e (some (.Name x pos')) pos.line X.env = pure false := by rfl) (hf : X.fn x = true ∨ X.env.scope.names.lookup x = some .local := by first | exact .inl rfl | exact .inr rfl | assumption) :
    PDS X (.Assign [.Name x pos'] e pos) (sSetX i g fs) :=
  PS.imp (ps_set hN hi hx h hs hf) fun E σ H ⟨B, Z, F, τ, R, q⟩ => ⟨F, τ, R.rv, q.of.imp fun ds q => by
    cases z : g ds with
    | ok d => rw [z] at q; exact fun v F1 H1 x r => q _ F1 H1 x.ff ((R.ext x).set r)
    | ex c => rw [z] at q; exact fun F1 H1 x => q σ F1 H1 x.ff (R.ext x)
    | no => rw [z] at q; exact q⟩
def sExprX (g : List D → Rs D) (fs : FA) : FS := fun τ => Fl.of (fs τ) fun ds => match g ds with
  | .ok d => .nx τ
  | .ex c => .rs c τ
  | .no => .no
theorem pds_exprX {g : List D → Rs D} (h : PE X e (tX X fs g)) (hs : swapsWith e none pos.line X.env = pure false := by rfl) : PDS X (.Expr e pos) (sExprX g fs) :=
  PS.imp (ps_expr h hs) fun E σ H ⟨B, Z, F, τ, R, q⟩ => ⟨F, τ, R.rv, q.of.imp fun ds q => by
    cases z : g ds with
    | ok d => rw [z] at q; exact fun v F1 H1 x r => q σ F1 H1 x.ff (R.ext x)
    | ex c => rw [z] at q; exact fun F1 H1 x => q σ F1 H1 x.ff (R.ext x)
    | no => rw [z] at q; exact q⟩
/-! ### statements out of which nothing is raised -/
def sQuiet (f : FS) : FS := fun τ => match f τ with
  | .rs _ _ => .no
  | .ex _ => .no
  | r => r
theorem pdss_quiet {sts : List Stmt} {f : FS} (h : PDSs X.nox sts f) : PDSs X sts (sQuiet f) :=
  PSs.imp (PSs.nox h) fun E σ H ⟨B, Z, F, τ, R, q⟩ => ⟨B, Z, F, τ, R, by
    unfold sQuiet at q
    cases z : f τ with
    | nx τ' => rw [z] at q; exact q
    | rt d => rw [z] at q; exact q
    | bk d => rw [z] at q; exact q
    | ct d => rw [z] at q; exact q
    | ex d => rw [z] at q; exact q.elim
    | no => rw [z] at q; exact q
    | rs c d => rw [z] at q; exact q.elim⟩
end
section
variable {P : Program} {w : World} {K : PySem.W.Frag} {mg : Str → Option Value} {base : Heap}
theorem DefX.mk {x : Str} {st : Stmt} {f : Addr} {fd : FuncData} {N ps : List Str} {k n : Nat} {fb : FS} (D : DefAt K mg x st f fd) (S : FnScope N ps (defScope st)) (hn : ps.length = n)
    (hb : ∀ (kV doc pm : Value) (an : Option Addr) (cdv ct : Value) (us : List Value), us.length = ps.length → bindArgs (PySem.W.fnOf x x (defArgs st) (defBody st) (defScope st) .none kV doc pm an cdv ct) ⟨us, []⟩ = pure (ps.zip us))
    (hbody : ∀ (cdv : Value) (A : Around) (outer : List Env) (s : Shared) (H : Hp) (E : XK), Room k (A.deeper (envOfC x (defScope st) s.heap.objs.size f cdv)) →
      PDSs (cxOf (CXD P w) P w K mg base N x (defScope st) f cdv A outer s H E) (defBody st) fb) : DefX P w K mg base x (k + 1) n ps (runF N.length fb) :=
  ⟨f, fd, fnX D.fn S hn hbody, D.fn.binds hb, D.fn.kp, D.at_⟩
end
end FD

set_option Elab.async false
set_option linter.all false
set_option maxRecDepth 100000
namespace FD
open PySem PySem.Spec PyProof.Rows L2
section
variable {X : Cx} {pins : List (Addr × Obj)} {σ : St} {H : Hp} {s : Shared} {a : Addr} {cls : Value}
/-- the context of an except suite -/
abbrev suiteX (X : Cx) (a : Addr) : Cx := { X with A := X.A.mark (some (.ref a)), calm := false, xe := fun _ _ => False }
theorem Inv.suite (I : Inv X pins σ H s) (a : Addr) : Inv (suiteX X a) pins σ H s :=
  ⟨⟨I.ok.mod, I.ok.kind, I.ok.glob, I.ok.blt, I.ok.above, I.ok.inj, I.ok.has, I.ok.cab, (fun z => nomatch z), I.ok.frames, I.ok.stk, I.ok.exf, I.ok.bs, I.ok.bsz, I.ok.noex, I.ok.exfs, I.ok.funs, I.ok.frf⟩, I.os, I.bare, I.base, I.loc, I.cell, I.free, I.freeC, I.pin, I.hok, I.len⟩
/-- the body's context: its exceptions are looked at, the pins stay -/
abbrev tryX (X : Cx) (pins : List (Addr × Obj)) (E : Value → Shared → Prop) : Cx := { X with xe := E, pn := X.pn ++ pins }
theorem Inv.tryI (I : Inv X pins σ H s) (E : Value → Shared → Prop) : Inv (tryX X pins E) [] σ H s :=
  ⟨⟨I.ok.mod, I.ok.kind, I.ok.glob, I.ok.blt, I.ok.above, I.ok.inj, I.ok.has, I.ok.cab, I.ok.hd, I.ok.frames, I.ok.stk, I.ok.exf, I.ok.bs, I.ok.bsz, I.ok.noex, I.ok.exfs, I.ok.funs, I.ok.frf⟩, I.os, I.bare, I.base, I.loc, I.cell, I.free, I.freeC, fun p hp => I.pin p (by simpa using hp), I.hok, I.len⟩
theorem Inv.untry {E : Value → Shared → Prop} (ok : X.Ok) (I : Inv (tryX X pins E) [] σ H s) : Inv X pins σ H s :=
  ⟨ok, I.os, I.bare, I.base, I.loc, I.cell, I.free, I.freeC, fun p hp => I.pin p (by simpa using hp), I.hok, I.len⟩
/-- a type is seen -/
theorem looks_cls {M : Model} {h : Heap} {oe : Obj} (e : h.get? a = some oe) : PySem.W.Looks M h (typeOf (.ref a)) oe.cls := PySem.W.Looks.andThen (PySem.W.Looks.ld e) PySem.W.Looks.now
/-! ### try: .. except C as n: .. -/
def noOwnB (τ : DS) : Bool := τ.all fun o => match o with
  | some (.own _) => false
  | _ => true
theorem noOwnB_get {τ : DS} (h : noOwnB τ = true) {i : Nat} {ds : List D} (e : τ[i]? = some (some (.own ds))) : False := by
  have := List.all_eq_true.mp h _ (List.mem_of_getElem? e)
  cases this
/-- the frame's names are let go -/
theorem goes {h' : Heap} {m' : Str → Option Value} {t' : Nat} (I : Inv X pins σ H s) (hn : h'.Ns X.env.locals m') (sb : Heap.SameBut X.env.locals s.heap h') : Inv X pins (List.replicate X.N.length none) H { s with heap := h', toks := t' } := by
  have nL : ∀ b o, X.s₀.heap.get? b = some o → b ≠ X.env.locals := fun b o e => Nat.ne_of_lt (Nat.lt_of_lt_of_le (Heap.lt_size e) I.ok.above)
  refine ⟨I.ok, I.os, I.bare, ⟨fun b o e n hb hx => (sb.2 b (nL b o e)).trans (I.base.keep b o e n hb hx), fun b o e n hb hx => ?_, I.base.free, fun b o e hx => ?_, I.base.tups, I.base.frzs, I.base.tbls⟩, ⟨m', hn, fun j y v e1 e2 e3 => ?_⟩, fun y c e => ?_, I.free, I.freeC, fun p hp => ?_, fun b u e => ?_, by simp⟩
  · obtain ⟨sl, q⟩ := I.base.slot b o e n hb hx
    exact ⟨sl, (sb.2 b (nL b o e)).trans q⟩
  · obtain ⟨o', q⟩ := I.base.there b o e hx
    exact ⟨o', (sb.2 b (nL b o e)).trans q⟩
  · rw [List.getElem?_replicate] at e2
    split at e2 <;> cases e2
  · obtain ⟨v, o, ho, hd⟩ := I.cell y c e
    exact ⟨v, o, (sb.2 c (I.cne y c e)).trans ho, hd⟩
  · obtain ⟨q1, q2, q3, q4⟩ := I.pin p hp
    exact ⟨(sb.2 p.1 q3).trans q1, q2, q3, q4⟩
  · refine (I.hok b u e).stay (fun c w' hc q => (sb.2 c ?_).trans q) (fun _ q => q) fun _ _ q => q
    rintro rfl
    rcases hc with rfl | hc
    · rw [I.free] at e; cases e
    · rw [I.free] at hc; cases hc
end
end FD

set_option Elab.async false
set_option linter.all false
set_option maxRecDepth 100000
namespace FD
open PySem PySem.Spec PyProof.Rows L2
section
variable {prog : Program} {w : World} {A : Around} {E : Value → Shared → Prop} {K : PySem.W.Frag} {x C : Addr}
end
/-! ### isinstance(e, C), e an exception -/
section
variable {X : Cx} {pos : Pos} {a b : Expr} {fa : FE}
/-- one class is caught -/
theorem ok1 {c0 : Str} {C0 Ch : Addr} {K : PySem.W.Frag} {mg : Str → Option Value} (T : EC K mg c0 C0) (x : PySem.W.exmOne K (.ref C0) (.ref Ch) = some true) : ∀ c cls, (c == c0) = true → PySem.W.nsIn K mainGlobals c = some (some cls) → PySem.W.exmOne K cls (.ref Ch) = some true := fun c cls h1 h2 => by
  have e : c = c0 := by simpa using h1
  subst e
  rw [T.ns] at h2
  cases h2
  exact x
end
end FD

set_option Elab.async false
set_option linter.all false
set_option maxRecDepth 100000
namespace FD
open PySem PySem.Spec PyProof.Rows L2
section
variable {X : Cx} {pos : Pos} {e : Expr} {es : List Expr} {fs : FA} {st : Stmt}
theorem pds_quiet {f : FS} (h : PDS X.nox st f) : PDS X st (sQuiet f) := by
  intro pins s σ H D I ⟨B, Z, F, τ, R, q⟩
  refine wpAny_mono (h pins s σ H D (I.wish _) ⟨B, Z, F, τ, R, ?_⟩) (fun _ _ z => z.unwish) fun _ _ z => False.elim z
  unfold sQuiet at q
  cases z : f τ with
  | nx τ' => rw [z] at q; exact q
  | rt d => rw [z] at q; exact q
  | bk d => rw [z] at q; exact q
  | ct d => rw [z] at q; exact q
  | ex d => rw [z] at q; exact q.elim
  | no => rw [z] at q; exact q
  | rs c d => rw [z] at q; exact q.elim
/-- a call of a def that may refuse, where it doesn't -/
theorem pde_callN {g : List D → Rs D} (h : PE X e (tX X fs g)) : PDE X e (eCall g fs) :=
  PE.imp h fun σ H Q ⟨F, τ, R, q⟩ => ⟨F, τ, R, (Ok.bind q).imp fun ds q => by
    cases z : g ds with
    | ok d => rw [z] at q; exact q
    | ex c => rw [z] at q; exact q.elim
    | no => rw [z] at q; exact q⟩
/-! ### b is True, of bools -/
end
end FD

set_option Elab.async false
set_option linter.all false
set_option maxRecDepth 100000
namespace FD
open PySem PySem.Spec PyProof.Rows L2
section
variable {X : Cx} {pos : Pos} {e a b : Expr} {es : List Expr} {fe fa fb : FE} {fs : FA}
/-! ### count, index of a list of bools -/
end
end FD

set_option Elab.async false
set_option linter.all false
set_option maxRecDepth 100000
namespace FD
open PySem PySem.Spec PyProof.Rows L2
section
variable {X : Cx} {pos : Pos} {e a b : Expr} {es : List Expr} {fe fa fb : FE} {fs : FA}
/-! ### min, max of a list of ints -/
end
end FD

set_option Elab.async false
set_option linter.all false
set_option maxRecDepth 100000
namespace FD
open PySem PySem.Spec PyProof.Rows L2
/-! ### defs that are called within an except suite -/
structure RoomU (k : Nat) (A : Around) : Prop where
  dp : A.depth + 3 * k + 5 < recursionLimit
  un : A.units + 16 * k + 200 < cLine
theorem RoomU.of {k : Nat} {A : Around} {h : Option Value} (r : Room k A) : RoomU k (A.mark h) := ⟨r.dp, r.un⟩
theorem RoomU.calm {k : Nat} {A : Around} (r : RoomU k A) : Room k { A with handled := none } := ⟨rfl, r.dp, r.un⟩
theorem RoomU.mono {j k : Nat} {A : Around} (r : RoomU k A) (h : j ≤ k) : RoomU j A := ⟨by have := r.dp; omega, by have := r.un; omega⟩
theorem RoomU.units {k : Nat} {A : Around} (r : RoomU k A) : A.units + 64 < cLine := by have := r.un; omega
theorem RoomU.depth {k : Nat} {A : Around} (r : RoomU k A) : A.depth < recursionLimit := by have := r.dp; omega
theorem RoomU.deeper {k : Nat} {A : Around} (r : RoomU (k + 1) A) (env : Env) : RoomU k (A.deeper env) :=
  ⟨by have := r.dp; show A.depth + 1 + 3 * k + 5 < _; omega, by have := r.un; show A.units + 3 + 16 * k + 200 < _; omega⟩
/-- a body's context, where an exception may be handled around it -/
abbrev cxU (P : Program) (w : World) (K : PySem.W.Frag) (mg : Str → Option Value) (base : Heap) (N : List Str) (qual : Str) (scope : Scope) (f : Addr) (cd : Value) (A : Around) (outer : List Env) (s : Shared) (H : Hp) : Cx :=
  { cxOf CX0 P w K mg base N qual scope f cd A outer s H E0 with calm := false, xe := fun _ _ => False }
structure FnU (P : Program) (w : World) (K : PySem.W.Frag) (mg : Str → Option Value) (base : Heap) (k : Nat) (f : Addr) (fd : FuncData) (ps : List Str) (n : Nat) (g : List D → Rs D) : Prop where
  len : n = ps.length
  run : ∀ (A : Around) (outer : List Env) (s : Shared) (H : Hp) (args : Args) (us : List Value) (vs : List V) (Q : VK), RoomU k A → Env0 P w K mg base A outer s H → BindsTo s fd args (ps.zip us) → Vals vs us → spD K n g vs H Q E0 →
    codeAny (model P w) A (.call (.ref f) args) (CR CX0 outer P w H s Q E0) s
section
variable {P : Program} {w : World} {K : PySem.W.Frag} {mg : Str → Option Value} {base : Heap}
theorem fnU {x qual : Str} {st : Stmt} {f : Addr} {fd : FuncData} {N ps : List Str} {k n : Nat} {fb : FS} (F : Fun K x qual st f fd) (S : FnScope N ps (defScope st)) (hn : ps.length = n)
    (hbody : ∀ (cdv : Value) (A : Around) (outer : List Env) (s : Shared) (H : Hp), RoomU k (A.deeper (envOfC qual (defScope st) s.heap.objs.size f cdv)) →
      PDSs (cxU P w K mg base N qual (defScope st) f cdv A outer s H) (defBody st) fb) : FnU P w K mg base (k + 1) f fd ps n (runF N.length fb) := by
  obtain ⟨oc, od, kV, doc, pm, an, cdv, ct, osl, rfl, lk, hcd⟩ := F.ex
  refine ⟨hn.symm, fun A outer s H args us vs Q hr e0 hb r hsp => ?_⟩
  have hl : vs.length = ps.length := by rw [hn]; exact hsp.1
  have KX : K.In s.heap := e0.mod.kin.keeps fun b o e => (e0.bs b o e).1
  have lim : s.heap.NoLimit := e0.mod.nolimit.keeps fun b o e => (e0.bs b o e).1
  have hkind : ∀ y ∈ ps.zip us, (defScope st).names.lookup y.1 = some .local ∨ ((defScope st).names.lookup y.1 = some .cell ∧ ((cellsFrom (s.heap.objs.size + 1) (defScope st).names []).lookup y.1).isSome = true) := fun ⟨n, v⟩ hy => by
    rcases S.par n (List.of_mem_zip hy).1 with q | q
    · exact .inl q
    · exact .inr ⟨q, PySem.W.cellsFrom_some _ _ _ (.inl q)⟩
  refine codeAny_call_function hr.depth (KX _ _ lk) rfl S.co S.gen rfl (PySem.W.codeRec_of KX hcd) (hb _ _ _ _ ?_)
  refine wpAny_newFunctionEnv_cells S.kind hkind fun env he s1 x => ?_
  subst he
  refine ⟨lim.keeps x.toInCall.keep, codeAny_func ?_⟩
  have ht := hbody cdv A outer s H (hr.deeper _)
  have e0' : Env0 P w K mg base { A with handled := none } outer s H := ⟨e0.frames, e0.mod, e0.bs, e0.bsz, e0.funs, e0.frf, e0.hok, e0.bare⟩
  have I0 := inv_start (CX := CX0) (N := N) (qual := qual) (f := f) (cd := cdv) (E := E0) S rfl e0' hl r x
  have I : Inv (cxU P w K mg base N qual (defScope st) f cdv A outer s H) [] (start N vs) H s1 :=
    ⟨⟨I0.ok.mod, I0.ok.kind, I0.ok.glob, I0.ok.blt, I0.ok.above, I0.ok.inj, I0.ok.has, I0.ok.cab, (fun z => nomatch z), Around.frames_deeper e0.frames, I0.ok.stk, I0.ok.exf, I0.ok.bs, I0.ok.bsz, I0.ok.noex, I0.ok.exfs, I0.ok.funs, I0.ok.frf⟩, I0.os, I0.bare, I0.base, I0.loc, I0.cell, I0.free, I0.freeC, I0.pin, I0.hok, I0.len⟩
  obtain ⟨_, ds, Fz, fh, rr, h⟩ := hsp
  refine wpAny_mono (ht [] s1 (start N vs) H { nx := fun _ H' => Q .non H', rt := Q } I ⟨H, Fz, Fz, startD N.length ds, rv_start fh rr, ?_⟩) (fun fl s' hs => ?_) fun e s' hs => hs.elim
  · unfold runF at h
    cases q : fb (startD N.length ds) with
    | nx τ => rw [q] at h; exact fun σ F' H' ff RR => h .non F' H' RR.out (by simp only [Rep])
    | rt d => rw [q] at h; exact fun v F' H' x rr => h v F' H' x rr
    | bk τ => rw [q] at h; exact h.elim
    | ct τ => rw [q] at h; exact h.elim
    | ex c => rw [q] at h; exact h.elim
    | no => rw [q] at h; exact h.elim
    | rs c τ => rw [q] at h; exact h.elim
  · cases fl with
    | ret u =>
      obtain ⟨v, σ', H', J, rv, q⟩ := hs
      exact ⟨v, H', J.os, J.bare, J.base, J.hok, rv, q⟩
    | next =>
      obtain ⟨σ', H', J, q⟩ := hs
      exact ⟨V.non, H', J.os, J.bare, J.base, J.hok, rfl, q⟩
    | brk =>
      obtain ⟨_, _, _, q⟩ := hs
      exact False.elim q
    | cont =>
      obtain ⟨_, _, _, q⟩ := hs
      exact False.elim q
def DefU (P : Program) (w : World) (K : PySem.W.Frag) (mg : Str → Option Value) (base : Heap) (x : Str) (k n : Nat) (ps : List Str) (g : List D → Rs D) : Prop :=
  ∃ f fd, FnU P w K mg base k f fd ps n g ∧ Binds K fd ps [] ∧ PySem.W.keepIn K (.ref f) = true ∧ mg x = some (.ref f)
theorem DefX.up {x : Str} {j k n : Nat} {ps : List Str} {g : List D → Rs D} (D : DefX P w K mg base x j n ps g) (h : j ≤ k) : DefX P w K mg base x k n ps g :=
  let ⟨f, fd, F, r⟩ := D; ⟨f, fd, F.mono h, r⟩
theorem DefU.mk {x : Str} {st : Stmt} {f : Addr} {fd : FuncData} {N ps : List Str} {k n : Nat} {fb : FS} (D : DefAt K mg x st f fd) (S : FnScope N ps (defScope st)) (hn : ps.length = n)
    (hb : ∀ (kV doc pm : Value) (an : Option Addr) (cdv ct : Value) (us : List Value), us.length = ps.length → bindArgs (PySem.W.fnOf x x (defArgs st) (defBody st) (defScope st) .none kV doc pm an cdv ct) ⟨us, []⟩ = pure (ps.zip us))
    (hbody : ∀ (cdv : Value) (A : Around) (outer : List Env) (s : Shared) (H : Hp), RoomU k (A.deeper (envOfC x (defScope st) s.heap.objs.size f cdv)) →
      PDSs (cxU P w K mg base N x (defScope st) f cdv A outer s H) (defBody st) fb) : DefU P w K mg base x (k + 1) n ps (runF N.length fb) :=
  ⟨f, fd, fnU D.fn S hn hbody, D.fn.binds hb, D.fn.kp, D.at_⟩
end
section
variable {X : Cx} {pos : Pos} {e : Expr} {es : List Expr} {fe : FE} {fs : FA}
/-! ### [f, g][i](..) -/
end
end FD

set_option Elab.async false
set_option linter.all false
set_option maxRecDepth 100000
namespace FD
open PySem PySem.Spec PyProof.Rows L2
/-! ### comprehensions with cells of their own -/
section
variable {X : Cx} {scope : Scope} {N' : List Str}
end
section
variable {X : Cx} {scope : Scope} {N' : List Str} {tg iter elt : Expr} {ifs : List Expr} {pos : Pos} {wi : TI} {g : TG} {ti : TT} {te : TE} {s0 : St → St}
end
section
variable {X : Cx} {scope : Scope} {tn fr : List Str} {idx : List Nat} {tg iter elt : Expr} {ifs : List Expr} {pos : Pos} {fi : FA} {set : FG} {ft : FT} {fe : FE}
end
end FD

set_option Elab.async false
set_option linter.all false
set_option maxRecDepth 100000
namespace FD
open PySem PySem.Spec PyProof.Rows L2
theorem entry_unchain : entryFor table "proto.unchain" = some Builtin.«proto.unchain» := by rfl
end FD

set_option Elab.async false
set_option linter.all false
set_option maxRecDepth 100000
namespace FD
open PySem PySem.Spec PyProof.Rows L2
/-! ### an exception is raised while another one is handled -/
/-- the exception that is handled, with no other one behind it -/
def HdAt (A : Around) (h : Heap) (a : Addr) (oe : Obj) : Prop := A.handled = some (.ref a) ∧ h.get? a = some oe ∧ ∃ vs, oe.data = .fields vs ∧ vs[2]? = some .none
theorem raise_hd {α : Type} {prog : Program} {w : World} {A : Around} {E : Value → Shared → Prop} {s : Shared} {Q : α → Shared → Prop} {a e : Addr} {oe ox : Obj} {ws : Array Value} (hd : HdAt A s.heap a oe) (ne : e ≠ a) (ex : s.heap.get? e = some ox) (dx : ox.data = .fields ws) (hw : 2 < ws.size)
    (k : ∀ h', (∀ b o, b ≠ e → s.heap.get? b = some o → h'.get? b = some o) → h'.get? e = some (Obj.mapFields (fun x => x.setIfInBounds 2 (.ref a)) ox) → E (.ref e) { s with heap := h' }) : wpAny (model prog w) A (raiseNew (α := α) (.ref e)) Q E s := by
  obtain ⟨hh, ha, vs, d, v2⟩ := hd
  unfold raiseNew
  refine wpAny_bind (wpAny_handled ?_)
  rw [hh]
  simp only
  rw [if_pos (by simpa using fun z => ne z.symm)]
  refine wpAny_bind (wpAny_holding (wpAny_runValue (codeAny_builtin entry_unchain ?_)))
  unfold Builtin.«proto.unchain»
  simp only
  refine wpAny_bind (wpAny_field ha d v2 ?_)
  rw [if_pos (by rfl)]
  refine wpAny_pure ?_
  show wpAny _ _ _ _ _ s
  unfold updateField
  refine wpAny_bind (wpAny_bind (wpAny_load ex ?_))
  rw [dx]
  simp only
  rw [if_pos hw]
  refine wpAny_update ex (wpAny_throw ?_)
  exact k _ (fun b o hb q => by rw [Heap.get?_update_other _ _ hb.symm]; exact q) (Heap.get?_update_self _ ex (Obj.isFreed_of_fields (Obj.data_mapFields dx _)))
theorem range_endV {prog : Program} {w : World} {A : Around} {E : Value → Shared → Prop} {s : Shared} {it a : Addr} {oe : Obj} {x left step : Int} {Q : Option Value → Shared → Prop} (hd : HdAt A s.heap a oe) (st : IsRangeIter s.heap it x left step) (hl : left ≤ 0)
    (k : ∀ h', (∀ b o, s.heap.get? b = some o → h'.get? b = some o) → Q none { s with heap := h' }) : wpAny (model prog w) A (pyNext (.ref it)) Q E s := by
  unfold pyNext
  refine wpAny_bind (wpAny_attempt ?_)
  refine wpAny_callSpecial?_slot ⟨_, st, rfl⟩ PySem.F.slot_range_iterator_next (wpAny_call_entry PySem.F.slot_range_iterator_next ⟨_, st, rfl⟩ PySem.F.entry_range_iterator_next ?_ (PySem.F.args_range_iterator_next_1 _))
  unfold Builtin.«range_iterator.__next__»
  refine wpAny_bind (wpAny_of_eq (show slotArgs "__next__" 0 { pos := [Value.ref it] } = pure (Value.ref it, []) from rfl) ?_)
  simp only
  refine wpAny_bind (wpAny_field st rfl (show (#[rawInt x, rawInt left, rawInt step] : Array Value)[0]? = some (Value.int x 0) from rfl) ?_)
  refine wpAny_bind (wpAny_field st rfl (show (#[rawInt x, rawInt left, rawInt step] : Array Value)[1]? = some (Value.int left 0) from rfl) ?_)
  refine wpAny_bind (wpAny_field st rfl (show (#[rawInt x, rawInt left, rawInt step] : Array Value)[2]? = some (Value.int step 0) from rfl) ?_)
  simp only
  rw [if_pos hl]
  refine wpAny_bind (wpAny_rule (wpAny_bind ?_))
  unfold Builtin.SmallTypes.stopIteration
  refine wpAny_bind ?_
  unfold newExc newTuple
  refine wpAny_bind (wpAny_newObj_type ?_)
  refine wpAny_bind (wpAny_of_eq (show firstArgMember (Value.type "StopIteration") [] = pure Value.none from rfl) ?_)
  refine wpAny_newObj_type ?_ (sizeOk_excFields _ _ _ _ _ _ _ _)
  obtain ⟨hh, ha, vs, d, v2⟩ := hd
  let h1 := s.heap.push { cls := Value.type "tuple", data := Data.seq ([] : List Value).toArray }
  have kp : ∀ b o, s.heap.get? b = some o → (h1.push { cls := Value.type "StopIteration", data := Data.fields (#[Value.ref s.heap.objs.size, Value.none, Value.none, Value.none, Value.bool false, Value.none] ++ ownMembersOf (Value.type "StopIteration") []) }).get? b = some o := fun b o e => Heap.get?_push_of_some _ (Heap.get?_push_of_some _ e)
  have lt : ∀ b o, s.heap.get? b = some o → b ≠ h1.objs.size := fun b o e => Nat.ne_of_lt (Heap.lt_size (Heap.get?_push_of_some _ e))
  refine raise_hd (a := a) (oe := oe) ⟨hh, kp _ _ ha, vs, d, v2⟩ (lt _ _ ha).symm (Heap.get?_push_size _ rfl) rfl (by rw [Array.size_append]; exact Nat.lt_of_lt_of_le (show 2 < 6 by decide) (Nat.le_add_right 6 _)) fun h' ks g => ?_
  refine wpAny_bind (wpAny_isInstance (T := "StopIteration") ⟨_, g, Obj.cls_mapFields _ _⟩ isSubtype_stop ?_)
  rw [if_pos rfl]
  exact wpAny_pure (k h' fun b o e => ks b o (lt b o e) (kp b o e))
end FD

set_option Elab.async false
set_option linter.all false
set_option maxRecDepth 100000
namespace FD
open PySem PySem.Spec PyProof.Rows L2
/-! ### bodies that run while an exception is handled -/
def Hdl (A : Around) (s : Shared) (H : Hp) : Prop := ∃ a oe vs, A.handled = some (.ref a) ∧ s.heap.get? a = some oe ∧ H a = none ∧ oe.data = .fields vs ∧ vs[2]? = some .none
def VC (X : Cx) : Prop := ∃ a oe vs, X.A.handled = some (.ref a) ∧ oe.data = .fields vs ∧ vs[2]? = some .none ∧ ∀ pins σ H s, Inv X pins σ H s → s.heap.get? a = some oe ∧ H a = none
theorem VC.hdl {X : Cx} (V : VC X) {pins : List (Addr × Obj)} {σ : St} {H : Hp} {s : Shared} (I : Inv X pins σ H s) : Hdl X.A s H :=
  let ⟨a, oe, vs, h1, h2, h3, h4⟩ := V
  ⟨a, oe, vs, h1, (h4 _ _ _ _ I).1, (h4 _ _ _ _ I).2, h2, h3⟩
theorem Hdl.at {A : Around} {s : Shared} {H : Hp} (h : Hdl A s H) : ∃ a oe, HdAt A s.heap a oe :=
  let ⟨a, oe, vs, h1, h2, _, h4, h5⟩ := h
  ⟨a, oe, h1, h2, vs, h4, h5⟩
theorem VC.entry {P : Program} {w : World} {K : PySem.W.Frag} {mg : Str → Option Value} {base : Heap} {N : List Str} {qual : Str} {scope : Scope} {f : Addr} {cd : Value} {A : Around} {outer : List Env} {s : Shared} {H : Hp} (h : Hdl A s H) : VC (cxU P w K mg base N qual scope f cd A outer s H) := by
  obtain ⟨a, oe, vs, h1, h2, h3, h4, h5⟩ := h
  refine ⟨a, oe, vs, h1, h4, h5, fun pins σ H' s' I => ?_⟩
  have nf : a ∉ (cxU P w K mg base N qual scope f cd A outer s H).fs := fun z => by
    obtain ⟨_, o, ho, hd⟩ := I.ok.funs.mem z
    have ho : s.heap.get? a = some o := ho
    rw [h2] at ho; cases ho
    exact hd _ h4
  have nx : a ∉ (cxU P w K mg base N qual scope f cd A outer s H).ex := fun z => nomatch z
  exact ⟨I.base.keep a oe h2 h3 nf nx, I.base.free a oe h2 h3 nx⟩
structure TurnV (X : Cx) (tg : Expr) (J : It) (fp : List Addr) (it : Addr) (tn : Nat → Heap → Prop) : Prop where
  obj : ∀ i h, tn i h → ∀ b ∈ fp, ∃ o, h.get? b = some o ∧ ∀ v, o.data ≠ .cell v
  keep : ∀ i h h', tn i h → (∀ b ∈ fp, ∀ o, h.get? b = some o → h'.get? b = some o) → tn i h'
  item : ∀ (i : Nat) (pins : List (Addr × Obj)) (s : Shared) (σ : St) (H : Hp) (E : Value → Shared → Prop), Inv X pins σ H s → (∀ b ∈ fp, FpOk X pins H b) → tn i s.heap → J.go i H →
    wpAny (model X.prog X.w) X.A (pyNext (.ref it)) (fun r s1 => ∃ u, r = some u ∧
      wpAny (model X.prog X.w) X.A (letOwnedTupleGo tg (.ref it) u) (fun _ s2 => ∃ x H', Inv X pins σ H' s2 ∧ RelV x u ∧ J.yld i H x H' ∧ tn (i + 1) s2.heap ∧ ∀ b ∈ fp, H' b = none) E s1) E s
  done : ∀ (i : Nat) (pins : List (Addr × Obj)) (s : Shared) (σ : St) (H : Hp) (E : Value → Shared → Prop), Inv X pins σ H s → (∀ b ∈ fp, FpOk X pins H b) → tn i s.heap → J.stop i H →
    wpAny (model X.prog X.w) X.A (pyNext (.ref it)) (fun r s1 => r = none ∧ Inv X pins σ H s1) E s
def PIEV (X : Cx) (pins : List (Addr × Obj)) (σ : St) (tg : Expr) (R : It → Hp → Prop) (itv : Value) (s2 : Shared) : Prop :=
  ∃ (it : Addr) (fp : List Addr) (tn : Nat → Heap → Prop) (J : It) (H' : Hp), itv = .ref it ∧ Inv X pins σ H' s2 ∧ TurnV X tg J fp it tn ∧ tn 0 s2.heap ∧ (∀ b ∈ fp, FpOk X pins H' b) ∧ R J H'
def PIV (X : Cx) (tg iter : Expr) (wi : TI) : Prop :=
  ∀ (pins : List (Addr × Obj)) (s : Shared) (σ : St) (H : Hp) (R : It → Hp → Prop), Inv X pins σ H s → wi σ H R →
    wpAny (model X.prog X.w) X.A (eval iter X.env) (fun v s1 => wpAny (model X.prog X.w) X.A (pyIter v) (PIEV X pins σ tg R) X.xe s1) X.xe s
theorem PIV.imp {X : Cx} {tg e : Expr} {t t' : TI} (h : PIV X tg e t) (f : ∀ σ H Q, t' σ H Q → t σ H Q) : PIV X tg e t' := fun pins s σ H Q I q => h pins s σ H Q I (f _ _ _ q)
def PDIV (X : Cx) (tg iter : Expr) (f : FA) : Prop := PIV X tg iter (tI X f)
section
variable {X : Cx} {tg : Expr}
theorem turn_rangeV (V : VC X) (it : Addr) (lo : Int) (n : Nat) : TurnV X tg (Itr lo n) [it] it (fun i h => IsRangeIter h it (lo + (i : Int) * 1) ((n : Int) - (i : Int)) 1) where
  obj := fun i h st b hb => by
    have e : b = it := by simpa using hb
    subst e
    exact ⟨_, st, fun v z => by
      have z' : Data.fields _ = Data.cell v := z
      cases z'⟩
  keep := fun i h h' st k => k it (by simp) _ st
  item := by
    intro i pins s σ H E I hf st hg
    obtain ⟨f0, f1, f2, f3, f4, f5⟩ := hf it (by simp)
    have hg : i < n := hg
    refine wpAny_pyNext_range_item st (by omega) fun h' st' kk => ?_
    have st2 : IsRangeIter h' it (lo + ((i + 1 : Nat) : Int) * 1) ((n : Int) - ((i + 1 : Nat) : Int)) 1 := by
      have e1 : lo + ((i + 1 : Nat) : Int) * 1 = lo + (i : Int) * 1 + 1 := by omega
      have e2 : (n : Int) - ((i + 1 : Nat) : Int) = (n : Int) - (i : Int) - 1 := by omega
      rw [e1, e2]; exact st'
    have I1 : Inv X pins σ H { s with heap := h', toks := s.toks + 1 } := I.turned (fun b o hb e => (kk.2 b hb).trans e) f0 f1 f3 f4 f5
    refine ⟨_, rfl, go_of (s := { s with heap := h', toks := s.toks + 1 }) (n := "range_iterator") st' rfl rfl (by decide) ⟨.int (lo + i), H, I1, ⟨s.toks, ?_⟩, ⟨rfl, rfl⟩, st2, fun b hb => (hf b hb).1⟩⟩
    rw [Int.mul_one]
  done := by
    intro i pins s σ H E I hf st hg
    obtain ⟨f0, f1, f2, f3, f4, f5⟩ := hf it (by simp)
    obtain ⟨a, oe, hd⟩ := (V.hdl I).at
    exact range_endV hd st (by have : n ≤ i := hg; omega) fun h' eb => ⟨rfl, I.kept (t' := s.toks) eb⟩
theorem range_itV (V : VC X) {pins : List (Addr × Obj)} {σ : St} {H : Hp} {s : Shared} {R : It → Hp → Prop} {E : Value → Shared → Prop} {lo hi : Int} {t u v : Tok} {tk : Nat} (I : Inv X pins σ H s) (h1 : -(2 ^ 62) ≤ lo) (h2 : lo < 2 ^ 62) (h3 : -(2 ^ 62) ≤ hi) (h4 : hi < 2 ^ 62)
    (q : R (Itr lo (hi - lo).toNat) H) : wpAny (model X.prog X.w) X.A (pyIter (.ref s.heap.objs.size)) (PIEV X pins σ tg R) E { s with heap := s.heap.push { cls := .type "range", data := .fields #[.int lo t, .int hi u, .int 1 v] }, toks := tk } := by
  refine wpAny_pyIter_range (IsRange.new ..) (small_one h1 h2 h3 h4) ?_
  have I1 : Inv X pins σ H { s with heap := s.heap.push { cls := .type "range", data := .fields #[.int lo t, .int hi u, .int 1 v] }, toks := tk } := I.kept fun b o e => Heap.get?_push_of_some _ e
  refine ⟨(s.heap.push { cls := .type "range", data := .fields #[.int lo t, .int hi u, .int 1 v] }).objs.size, [(s.heap.push { cls := .type "range", data := .fields #[.int lo t, .int hi u, .int 1 v] }).objs.size], _, _, H, rfl,
    I1.kept (t' := tk) fun b o e => Heap.get?_push_of_some _ e, turn_rangeV V _ lo (hi - lo).toNat, ?_, fun b hb => ?_, q⟩
  · have e1 : lo + ((0 : Nat) : Int) * 1 = lo := by simp
    have e2 : (((hi - lo).toNat : Nat) : Int) - ((0 : Nat) : Int) = Builtin.Range.rangeSize lo hi 1 := by rw [rangeSize_one]; split <;> omega
    show IsRangeIter _ _ (lo + ((0 : Nat) : Int) * 1) ((((hi - lo).toNat : Nat) : Int) - ((0 : Nat) : Int)) 1
    rw [e1, e2]
    exact Heap.get?_push_size _ rfl
  · have e : b = (s.heap.push { cls := .type "range", data := .fields #[.int lo t, .int hi u, .int 1 v] }).objs.size := by simpa using hb
    subst e
    exact I1.fpOk (Nat.le_refl _) (I1.hok.fresh (Nat.le_refl _))
theorem pi_range1V (V : VC X) {a : Expr} {ta : TA} {p pos : Pos} (hg : Gl X "range") (hm : X.mg "range" = none) (ha : PA X [a] ta) (hs : starEach [a] X.env = [(false, eval a X.env)] := by rfl) : PIV X tg (.Call (.Name "range" p) [a] [] pos) (iRng1 ta) := by
  intro pins s σ H R I h
  refine Call_ (ld_blt I hg hm boot_range (PyProof.Rows.callWith_type1 (thn (ha pos pins s σ H _ I h) fun us s1 ⟨vs, H1, I1, r1, q1⟩ => ?_) hs rfl))
  obtain ⟨j, e, q1, q2, q⟩ := q1
  subst e
  cases r1 with
  | cons r rr =>
    cases rr
    obtain ⟨t, rfl⟩ := r
    exact call_range_1 (range_itV V I1 (by omega) (by omega) q1 q2 (by simpa using q))
theorem ps_forV {iter : Expr} {body : List Stmt} {wi : TI} {g : TG} {tb : TS} {pos : Pos} (hp : PassesOwn (model X.prog X.w) X.A X.env X.xe) (hi : PIV X tg iter wi) (hg : PG X tg g) (hb : PSs X body tb)
    (hs : ∀ x, foldedSetIterable iter X.env x = pure x := by intro _; rfl) : PS X (.For tg iter body [] pos) (tFor wi g tb) := by
  intro pins s σ H D I h
  refine wpAny_For (thn (hi pins s σ H _ I h) fun v s1 h1 => thn h1 fun itv s2 h2 => ?_) hs
  obtain ⟨it, fp, tn, J, H2, e, I2, T, st2, f2, W, ⟨m0, w0⟩, turn⟩ := h2
  subst e
  -- what stays true of the iterator's objects through the loop
  have stat : ∀ {H' : Hp}, (∀ b ∈ fp, H' b = none) → ∀ b ∈ fp, FpOk X pins H' b := fun hn b hb => ⟨hn b hb, (f2 b hb).2⟩
  refine codeAny_forLoop_any (fun n s' => ∃ i σ' H', Inv X pins σ' H' s' ∧ tn i s'.heap ∧ (∀ b ∈ fp, H' b = none) ∧ W i n σ' H') ?_ m0 ⟨0, σ, H2, I2, st2, fun b hb => (f2 b hb).1, w0⟩
  rintro n s3 ⟨i, σ3, H3, I3, st3, fr3, w3⟩
  rcases turn i n σ3 H3 w3 with ⟨stop, qn⟩ | ⟨go, N, hN, step⟩
  · refine wpAny_passesOwn hp (thn (T.done i pins s3 σ3 H3 X.xe I3 (stat fr3) st3 stop) fun r s4 ⟨hr, I4⟩ => ?_)
    subst hr
    exact wpAny_execs_nil ⟨σ3, H3, I4, qn⟩
  · refine wpAny_passesOwn hp (thn (T.item i pins s3 σ3 H3 X.xe I3 (stat fr3) st3 go) fun r s4 ⟨u, hr, h4⟩ => ?_)
    subst hr
    refine wpAny_passesOwn hp (thn h4 fun _ s5 ⟨x, H5, I5, r5, y5, st5, fr5⟩ => ?_)
    have I5' := I5.pinned (stat fr5) (T.obj _ _ st5)
    refine wpAny_passesOwn hp (thn (hg _ s5 σ3 H5 x u _ I5' r5 (step x H5 y5)) fun _ s6 ⟨σ6, H6, I6, q6⟩ => ?_)
    refine wpAny_passesOwn hp (thn (hb _ s6 σ6 H6 _ I6 q6) fun f s7 q7 => ?_)
    have again : ∀ {σ7 : St} {H7 : Hp}, Inv X (pins ++ pinsAt fp s5.heap) σ7 H7 s7 → N σ7 H7 → ∃ m, m < n ∧ ∃ i σ' H', Inv X pins σ' H' s7 ∧ tn i s7.heap ∧ (∀ b ∈ fp, H' b = none) ∧ W i m σ' H' := fun {σ7 H7} I7 n7 => by
      obtain ⟨m', hm, w7⟩ := hN σ7 H7 n7
      refine ⟨m', hm, i + 1, σ7, H7, I7.unpinned, T.keep _ _ _ st5 fun b hb o e => (I7.pin (b, o) (List.mem_append_right _ (List.mem_append_right _ (mem_pinsAt hb e)))).1, fun b hb => ?_, w7⟩
      obtain ⟨o, e, d⟩ := T.obj _ _ st5 b hb
      exact (I7.pin (b, o) (List.mem_append_right _ (List.mem_append_right _ (mem_pinsAt hb e)))).2.1
    cases f with
    | next => obtain ⟨σ7, H7, I7, n7⟩ := q7; exact again I7 n7
    | cont => obtain ⟨σ7, H7, I7, n7⟩ := q7; exact again I7 n7
    | brk => obtain ⟨σ7, H7, I7, q7⟩ := q7; exact ⟨σ7, H7, I7.unpinned, q7⟩
    | ret v => obtain ⟨x7, σ7, H7, I7, r7, q7⟩ := q7; exact ⟨x7, σ7, H7, I7.unpinned, r7, q7⟩
end
section
variable {X : Cx} {pos : Pos} {e tg : Expr} {es : List Expr} {fe : FE} {fs : FA}
theorem pdi_range1V (V : VC X) {a : Expr} {p : Pos} (hg : Gl X "range") (hm : X.mg "range" = none) (ha : PDA X [a] fs) (hs : starEach [a] X.env = [(false, eval a X.env)] := by rfl) : PDIV X tg (.Call (.Name "range" p) [a] [] pos) (iRg1 fs) :=
  PIV.imp (pi_range1V V hg hm ha hs) fun σ H R ⟨F, τ, Rv, h⟩ => tAs.of Rv h.bind fun ds vs F1 H1 g x R1 r => by
    cases q1 : int1 ds with
    | none => rw [q1] at g; exact g.elim
    | some j =>
      rw [q1] at g
      have e := int1_eq q1
      subst e
      obtain ⟨v, rfl, q⟩ := r.one
      simp only [Rep] at q; subst q
      obtain ⟨z, g⟩ := ok_ite g
      exact ⟨j, rfl, z.1, z.2, g _ F1 H1 x it_rng⟩
theorem pds_forV {iter : Expr} {body : List Stmt} {fi : FA} {set : FG} {fb : FS} (hp : PassesOwn (model X.prog X.w) X.A X.env X.xe) (hi : PDIV X tg iter fi) (hg : PDG X tg set) (hb : PDSs X body fb)
    (hs : ∀ x, foldedSetIterable iter X.env x = pure x := by intro _; rfl) : PDS X (.For tg iter body [] pos) (sFor fi set fb) :=
  PS.imp (ps_forV hp hi hg hb hs) fun E σ H ⟨B, Z, F, τ, R, h⟩ => by
    refine ⟨F, τ, R.rv, h.of.imp fun ds g J F1 H1 x io => ?_⟩
    refine ⟨fun i m σ H => m = ds.length - i ∧ i ≤ ds.length ∧ ∃ F' τ', Same F1 F' ∧ RS X.K B Z F' τ' σ H ∧ Post X B Z F' E (loopD set fb (ds.drop i) τ'), ⟨ds.length, by simp, Nat.zero_le _, F1, τ, Same.refl _, R.ext x, g.same x.ff⟩, ?_⟩
    rintro i m σ2 H2 ⟨rfl, hi, F2, τ2, f2, R2, p2⟩
    obtain ⟨i1, i2⟩ := io i F2 H2 f2 R2.rv.fh
    by_cases hlt : i < ds.length
    · have hd : ds.drop i = ds[i] :: ds.drop (i + 1) := List.drop_eq_getElem_cons hlt
      rw [hd] at p2
      obtain ⟨go, yl⟩ := i2 ds[i] (by simp [hlt])
      refine .inr ⟨go, fun σ' H' => ∃ F' τ', Same F2 F' ∧ RS X.K B Z F' τ' σ' H' ∧ Post X B Z F' E (loopD set fb (ds.drop (i + 1)) τ'), fun σ' H' ⟨F', τ', a, b, c⟩ => ⟨ds.length - (i + 1), by omega, rfl, hlt, F', τ', f2.trans a, b, c⟩, fun y H' yy => ?_⟩
      obtain ⟨F3, x3, r3⟩ := yl y H' yy
      have R3 := R2.ext x3
      refine ⟨F3, τ2, ds[i], R3.rv, r3, (Post.of p2).imp fun τ4 p4 σ4 _ R4 _ => ⟨B, Z, F3, τ4, R4 B Z R3, ?_⟩⟩
      cases q : fb τ4 with
      | nx τ5 => rw [q] at p4; exact fun σ' F' H' ff RR => ⟨F', τ5, x3.ff.trans ff, RR, Post.same p4 (x3.ff.trans ff)⟩
      | ct τ5 => rw [q] at p4; exact fun σ' F' H' ff RR => ⟨F', τ5, x3.ff.trans ff, RR, Post.same p4 (x3.ff.trans ff)⟩
      | bk τ5 => rw [q] at p4; exact fun σ' F' H' ff RR => p4 σ' F' H' (x3.ff.trans ff) RR
      | rt d => rw [q] at p4; exact p4
      | ex c => rw [q] at p4; exact p4
      | no => rw [q] at p4; exact p4
      | rs c τ5 => rw [q] at p4; exact fun σ' F' H' ff RR => p4 σ' F' H' (x3.ff.trans ff) RR
    · have e : i = ds.length := by omega
      subst e
      rw [List.drop_length] at p2
      exact .inl ⟨i1 (Nat.le_refl _), p2 σ2 F2 H2 (Same.refl _) R2⟩
end
structure FnV (P : Program) (w : World) (K : PySem.W.Frag) (mg : Str → Option Value) (base : Heap) (k : Nat) (f : Addr) (fd : FuncData) (ps : List Str) (n : Nat) (g : List D → Rs D) : Prop where
  len : n = ps.length
  run : ∀ (A : Around) (outer : List Env) (s : Shared) (H : Hp) (args : Args) (us : List Value) (vs : List V) (Q : VK), RoomU k A → Hdl A s H → Env0 P w K mg base A outer s H → BindsTo s fd args (ps.zip us) → Vals vs us → spD K n g vs H Q E0 →
    codeAny (model P w) A (.call (.ref f) args) (CR CX0 outer P w H s Q E0) s
section
variable {P : Program} {w : World} {K : PySem.W.Frag} {mg : Str → Option Value} {base : Heap}
theorem fnV {x qual : Str} {st : Stmt} {f : Addr} {fd : FuncData} {N ps : List Str} {k n : Nat} {fb : FS} (F : Fun K x qual st f fd) (S : FnScope N ps (defScope st)) (hn : ps.length = n)
    (hbody : ∀ (cdv : Value) (A : Around) (outer : List Env) (s : Shared) (H : Hp), RoomU k (A.deeper (envOfC qual (defScope st) s.heap.objs.size f cdv)) → VC (cxU P w K mg base N qual (defScope st) f cdv A outer s H) →
      PDSs (cxU P w K mg base N qual (defScope st) f cdv A outer s H) (defBody st) fb) : FnV P w K mg base (k + 1) f fd ps n (runF N.length fb) := by
  obtain ⟨oc, od, kV, doc, pm, an, cdv, ct, osl, rfl, lk, hcd⟩ := F.ex
  refine ⟨hn.symm, fun A outer s H args us vs Q hr hv e0 hb r hsp => ?_⟩
  have hl : vs.length = ps.length := by rw [hn]; exact hsp.1
  have KX : K.In s.heap := e0.mod.kin.keeps fun b o e => (e0.bs b o e).1
  have lim : s.heap.NoLimit := e0.mod.nolimit.keeps fun b o e => (e0.bs b o e).1
  have hkind : ∀ y ∈ ps.zip us, (defScope st).names.lookup y.1 = some .local ∨ ((defScope st).names.lookup y.1 = some .cell ∧ ((cellsFrom (s.heap.objs.size + 1) (defScope st).names []).lookup y.1).isSome = true) := fun ⟨n, v⟩ hy => by
    rcases S.par n (List.of_mem_zip hy).1 with q | q
    · exact .inl q
    · exact .inr ⟨q, PySem.W.cellsFrom_some _ _ _ (.inl q)⟩
  refine codeAny_call_function hr.depth (KX _ _ lk) rfl S.co S.gen rfl (PySem.W.codeRec_of KX hcd) (hb _ _ _ _ ?_)
  refine wpAny_newFunctionEnv_cells S.kind hkind fun env he s1 x => ?_
  subst he
  refine ⟨lim.keeps x.toInCall.keep, codeAny_func ?_⟩
  have ht := hbody cdv A outer s H (hr.deeper _) (VC.entry hv)
  have e0' : Env0 P w K mg base { A with handled := none } outer s H := ⟨e0.frames, e0.mod, e0.bs, e0.bsz, e0.funs, e0.frf, e0.hok, e0.bare⟩
  have I0 := inv_start (CX := CX0) (N := N) (qual := qual) (f := f) (cd := cdv) (E := E0) S rfl e0' hl r x
  have I : Inv (cxU P w K mg base N qual (defScope st) f cdv A outer s H) [] (start N vs) H s1 :=
    ⟨⟨I0.ok.mod, I0.ok.kind, I0.ok.glob, I0.ok.blt, I0.ok.above, I0.ok.inj, I0.ok.has, I0.ok.cab, (fun z => nomatch z), Around.frames_deeper e0.frames, I0.ok.stk, I0.ok.exf, I0.ok.bs, I0.ok.bsz, I0.ok.noex, I0.ok.exfs, I0.ok.funs, I0.ok.frf⟩, I0.os, I0.bare, I0.base, I0.loc, I0.cell, I0.free, I0.freeC, I0.pin, I0.hok, I0.len⟩
  obtain ⟨_, ds, Fz, fh, rr, h⟩ := hsp
  refine wpAny_mono (ht [] s1 (start N vs) H { nx := fun _ H' => Q .non H', rt := Q } I ⟨H, Fz, Fz, startD N.length ds, rv_start fh rr, ?_⟩) (fun fl s' hs => ?_) fun e s' hs => hs.elim
  · unfold runF at h
    cases q : fb (startD N.length ds) with
    | nx τ => rw [q] at h; exact fun σ F' H' ff RR => h .non F' H' RR.out (by simp only [Rep])
    | rt d => rw [q] at h; exact fun v F' H' x rr => h v F' H' x rr
    | bk τ => rw [q] at h; exact h.elim
    | ct τ => rw [q] at h; exact h.elim
    | ex c => rw [q] at h; exact h.elim
    | no => rw [q] at h; exact h.elim
    | rs c τ => rw [q] at h; exact h.elim
  · cases fl with
    | ret u =>
      obtain ⟨v, σ', H', J, rv, q⟩ := hs
      exact ⟨v, H', J.os, J.bare, J.base, J.hok, rv, q⟩
    | next =>
      obtain ⟨σ', H', J, q⟩ := hs
      exact ⟨V.non, H', J.os, J.bare, J.base, J.hok, rfl, q⟩
    | brk =>
      obtain ⟨_, _, _, q⟩ := hs
      exact False.elim q
    | cont =>
      obtain ⟨_, _, _, q⟩ := hs
      exact False.elim q
def DefV (P : Program) (w : World) (K : PySem.W.Frag) (mg : Str → Option Value) (base : Heap) (x : Str) (k n : Nat) (ps : List Str) (g : List D → Rs D) : Prop :=
  ∃ f fd, FnV P w K mg base k f fd ps n g ∧ Binds K fd ps [] ∧ PySem.W.keepIn K (.ref f) = true ∧ mg x = some (.ref f)
theorem DefV.mk {x : Str} {st : Stmt} {f : Addr} {fd : FuncData} {N ps : List Str} {k n : Nat} {fb : FS} (D : DefAt K mg x st f fd) (S : FnScope N ps (defScope st)) (hn : ps.length = n)
    (hb : ∀ (kV doc pm : Value) (an : Option Addr) (cdv ct : Value) (us : List Value), us.length = ps.length → bindArgs (PySem.W.fnOf x x (defArgs st) (defBody st) (defScope st) .none kV doc pm an cdv ct) ⟨us, []⟩ = pure (ps.zip us))
    (hbody : ∀ (cdv : Value) (A : Around) (outer : List Env) (s : Shared) (H : Hp), RoomU k (A.deeper (envOfC x (defScope st) s.heap.objs.size f cdv)) → VC (cxU P w K mg base N x (defScope st) f cdv A outer s H) →
      PDSs (cxU P w K mg base N x (defScope st) f cdv A outer s H) (defBody st) fb) : DefV P w K mg base x (k + 1) n ps (runF N.length fb) :=
  ⟨f, fd, fnV D.fn S hn hbody, D.fn.binds hb, D.fn.kp, D.at_⟩
end
section
variable {X : Cx} {pos : Pos} {e : Expr} {es : List Expr} {fe : FE} {fs : FA}
theorem pde_defV (V : VC X) {k n : Nat} {ps : List Str} {g : List D → Rs D} {x : Str} {p : Pos} (D : DefV X.prog X.w X.K X.mg X.base x k n ps g) (hr : RoomU k X.A) (ha : PDA X (e :: es) fs) (hfs : ∀ τ ds, fs τ = .ok ds → ds.length = (e :: es).length) (hn : (e :: es).length = n := by rfl) (hg : Gl X x := by rfl) (hdb : (x == ("__debug__" : Str)) = false := by decide)
    (he : starEach (e :: es) X.env = (false, eval e X.env) :: starEach es X.env := by rfl) (hpl : (backTo pos (starEach es X.env)).any (·.1) = false := by rfl) : PDE X (.Call (.Name x p) (e :: es) [] pos) (eCall g fs) := by
  obtain ⟨f, fd, FF, hb, hk, hm⟩ := D
  intro pins s σ H Q I ⟨F, τ, R, h⟩
  refine wpAny_Call_Name_kw (ld_glob I hg hm ?_ hdb)
  refine PySem.W.callWith_K (h₀ := X.base) I.ok.mod.kin hk (thn (ha pos pins s σ H (fun vs H1 => vs.length = n ∧ ∃ ds F1, Ext F H F1 H1 ∧ Reps X.K F1 ds vs ∧ Ok X (noEx (g ds)) (Ev X.K F H Q)) I ⟨F, τ, R, ?_⟩) fun us s1 ⟨vs, H1, I1, r, hl, ds, F1, x1, rr, q⟩ => ⟨I1.kIn, ?_⟩) he hpl
  · have h := h.bind
    cases z : fs τ with
    | ok ds => rw [z] at h; exact fun vs F1 H1 x1 rr => ⟨by rw [← rr.length, hfs τ ds z, hn], ds, F1, x1, rr, h⟩
    | ex c => rw [z] at h; exact h
    | no => rw [z] at h; exact h
  · have hl2 : us.length = ps.length := by rw [← r.length, hl, FF.len]
    have hsp : spD X.K n g vs H1 Q E0 := ⟨hl, ds, F1, x1.fh, rr, by
      cases z : g ds with
      | ok d => rw [z] at q; exact Ev.ext q x1
      | ex c => rw [z] at q; exact q
      | no => rw [z] at q; exact q⟩
    have bt := hb s1 us I1.kIn (by rw [List.append_nil]; exact hl2)
    rw [List.append_nil] at bt
    refine wpAny_call (codeAny_mono (FF.run X.A X.stack s1 H1 ⟨us, []⟩ us vs Q hr (V.hdl I1) I1.env0 bt r hsp) fun r s' hq => ?_)
    cases r with
    | error e => exact (pass0 (X := X) pins σ H1 s1 e s' I1 hq)
    | ok fl =>
      cases fl with
      | ret u => exact I1.after hq
      | next => exact False.elim hq
      | brk => exact False.elim hq
      | cont => exact False.elim hq
end
end FD

set_option Elab.async false
set_option linter.all false
set_option maxRecDepth 100000
namespace FD
open PySem PySem.Spec PyProof.Rows L2
theorem room128U {k : Nat} {A : Around} (r : RoomU k A) : A.units + 128 < cLine := by have := r.un; omega
section
variable {X : Cx} {pins : List (Addr × Obj)} {σ : St} {H : Hp} {s : Shared} {a : Addr} {cls : Value}
/-! ### try: .. except C: .. -/
abbrev suiteP (X : Cx) (a : Addr) (oe : Obj) : Cx := { X with A := X.A.mark (some (.ref a)), calm := false, xe := fun _ _ => False, pn := X.pn ++ [(a, oe)] }
theorem Inv.toSuiteP {oe : Obj} {vs : Array Value} (D : Fst X) (I : Inv X pins σ H s) (n : Nw X H a) (hp : ∀ p ∈ pins, p.1 ≠ a) (e : s.heap.get? a = some oe) (d : oe.data = .fields vs) : Inv (suiteP X a oe) pins σ H s :=
  ⟨⟨I.ok.mod, I.ok.kind, I.ok.glob, I.ok.blt, I.ok.above, I.ok.inj, I.ok.has, I.ok.cab, (fun z => nomatch z), I.ok.frames, I.ok.stk, I.ok.exf, I.ok.bs, I.ok.bsz, I.ok.noex, I.ok.exfs, I.ok.funs, I.ok.frf⟩, I.os, I.bare, I.base, I.loc, I.cell, I.free, I.freeC, fun p hp' => by
    rcases List.mem_append.mp hp' with q | q
    · rcases List.mem_append.mp (show p ∈ X.pn ++ [(a, oe)] from q) with q | q
      · exact I.pin p (List.mem_append_left _ q)
      · have : p = (a, oe) := by simpa using q
        subst this
        have c := ch_ok D I n hp e d
        exact ⟨e, n.1, c.2.2.1, c.2.2.2.1, fun v z => by rw [d] at z; cases z⟩
    · exact I.pin p (List.mem_append_right _ q), I.hok, I.len⟩
theorem Inv.fromSuiteP {oe : Obj} (ok : X.Ok) (I : Inv (suiteP X a oe) pins σ H s) : Inv X pins σ H s := ⟨ok, I.os, I.bare, I.base, I.loc, I.cell, I.free, I.freeC, fun p hp => I.pin p (by
  rcases List.mem_append.mp hp with q | q
  · exact List.mem_append_left _ (List.mem_append_left _ q)
  · exact List.mem_append_right _ q), I.hok, I.len⟩
theorem VC.suite {oe : Obj} {vs : Array Value} (d : oe.data = .fields vs) (v2 : vs[2]? = some .none) : VC (suiteP X a oe) :=
  ⟨a, oe, vs, rfl, d, v2, fun pins σ H s I => let ⟨h1, h2, _⟩ := I.pin (a, oe) (List.mem_append_left _ (List.mem_append_right _ (by simp))); ⟨h1, h2⟩⟩
def sTryE (fb : FS) (ok : Str → Bool) (fe : FS) : FS := fun τ => if noOwnB τ = true then (match fb τ with
  | .rs c τ' => if ok c = true then (match fe τ' with
    | .rt d => .rt d
    | _ => .no) else .no
  | .ex _ => .no
  | r => r) else .no
theorem pds_tryE {body suite : List Stmt} {b₀ : Stmt} {fb fe : FS} {ok : Str → Bool} {hc : Str} {Ch : Addr} {np hpos pos : Pos} (D : Fst X) (TH : EC X.K X.mg hc Ch)
    (hb : ∀ pins E, PDSs (tryX X pins E) body fb) (hs : ∀ a oe, VC (suiteP X a oe) → PDSs (suiteP X a oe) (b₀ :: suite) fe)
    (hok : ∀ c cls, ok c = true → PySem.W.nsIn X.K mainGlobals c = some (some cls) → PySem.W.exmOne X.K cls (.ref Ch) = some true)
    (hg : Gl X hc := by rfl) (hd : (hc == ("__debug__" : Str)) = false := by decide) : PDS X (.Try body [.ExceptHandler (some (.Name hc np)) none (b₀ :: suite) hpos] [] [] pos) (sTryE fb ok fe) := by
  intro pins s σ H E I ⟨B, Z, F, τ, R, h⟩
  unfold sTryE at h
  by_cases hno : noOwnB τ = true
  rotate_left
  · rw [if_neg hno] at h; exact h.elim
  rw [if_pos hno] at h
  refine wpAny_Try_except ?_
  have R0 : RS X.K H F F τ σ H := ⟨R.rv, Same.refl H, Same.refl F, fun a o e => .inl e, fun j ds a h1 _ => (noOwnB_get hno h1).elim⟩
  have lift : ∀ {σ' : St} {F' H' : Hp} {τ' : DS}, RS X.K H F F' τ' σ' H' → RS X.K B Z F' τ' σ' H' := fun RR => ⟨RR.rv, R.bh.trans RR.bh, R.zf.trans RR.zf, fun a o e => (RR.nb a o e).elim (fun q => R.nb a o q) (fun q => .inr (none_of_same R.bh q)), fun j ds a h1 h2 => none_of_same R.bh (RR.ob j ds a h1 h2)⟩
  refine wpAny_mono (Q := SP (tryX X pins _) [] E) (hb pins _ [] s σ H E (Inv.tryI I _) ⟨H, F, F, τ, R0, ?_⟩) (fun f s' sp => ?_) (fun _ _ q => q)
  · cases q : fb τ with
    | nx τ' => rw [q] at h; exact fun σ' F' H' ff RR => h σ' F' H' ff (lift RR)
    | bk τ' => rw [q] at h; exact fun σ' F' H' ff RR => h σ' F' H' ff (lift RR)
    | ct τ' => rw [q] at h; exact fun σ' F' H' ff RR => h σ' F' H' ff (lift RR)
    | rt d => rw [q] at h; exact fun v F' H' x r => h v F' H' (R.out.trans x) r
    | ex c => rw [q] at h; exact h.elim
    | no => rw [q] at h; exact h
    | rs c τ' =>
      rw [q] at h
      intro σ' F' H' ff RR s1 a cls hcn J x
      have RR : RS X.K H F F' τ' σ' H' := RR
      by_cases hoc : ok c = true
      rotate_left
      · simp only [if_neg hoc] at h; exact h.elim
      simp only [if_pos hoc] at h
      have D1 : ∀ E', Fst (tryX X pins E') := fun _ => ⟨D.ex, D.stk, D.fr⟩
      refine note_ok (X := tryX X pins _) I.ok.frames (D1 _) J x fun h1 J1 x1 => ?_
      refine flight_ok (X := tryX X pins _) (s := { s1 with heap := h1 }) (D1 _) J1 x1 fun h2 J2 x2 => ?_
      refine wpAny_handleBy_cons ?_ (by intro z; cases z)
      refine codeAny_handlers_test ?_
      have JS := Inv.suite J2 a
      refine ld_glob JS hg TH.mgl ?_ hd
      obtain ⟨na, oe, vs, T, oT, ts, g1, g2, g0, g3, g4, g5, g6, g7, g8, g9⟩ := id x2
      have lk : PySem.W.Looks (model X.prog X.w) h2 (excMatches (.ref a) (.ref Ch)) true := PySem.W.exm_one J2.kIn (looks_cls g1) (by rw [g2]; exact hok c cls hoc hcn)
      refine PySem.W.Looks.at lk ?_
      refine codeAny_handlers_suite ?_
      refine flight_ok (X := tryX X pins _) (s := { s1 with heap := h2 }) (D1 _) J2 x2 fun h3 J3 x3 => ?_
      obtain ⟨na, oe, vs, T, oT, ts, g1, g2, g0, g3, g4, g5, g6, g7, g8, g9⟩ := id x3
      have J3' : Inv X pins σ' H' { s1 with heap := h3 } := Inv.untry I.ok J3
      have na' : Nw X H' a := ⟨na.1, na.2.1, fun p hp => na.2.2 p (List.mem_append_left _ hp)⟩
      have np' : ∀ p ∈ pins, p.1 ≠ a := fun p hp => na.2.2 p (List.mem_append_right _ hp)
      have J4 := Inv.toSuiteP D J3' na' np' g1 g3
      refine wpAny_mono (hs a oe (VC.suite g3 g9.2) pins { s1 with heap := h3 } σ' H' { nx := fun _ _ => False, rt := E.rt } J4 ⟨B, Z, _, _, lift RR, ?_⟩) (fun f s5 sp => ?_) (fun _ _ z => False.elim z)
      · cases q2 : fe τ' with
        | rt d => rw [q2] at h; exact h
        | nx _ => rw [q2] at h; exact h.elim
        | bk _ => rw [q2] at h; exact h.elim
        | ct _ => rw [q2] at h; exact h.elim
        | ex _ => rw [q2] at h; exact h.elim
        | no => rw [q2] at h; exact h.elim
        | rs _ _ => rw [q2] at h; exact h.elim
      · cases f with
        | next => obtain ⟨_, _, _, z⟩ := sp; exact z.elim
        | brk => obtain ⟨_, _, _, z⟩ := sp; exact z.elim
        | cont => obtain ⟨_, _, _, z⟩ := sp; exact z.elim
        | ret u =>
          obtain ⟨v, σ5, H5, I5, r5, q5⟩ := sp
          exact ⟨v, σ5, H5, Inv.fromSuiteP I.ok I5, r5, q5⟩
  · cases f with
    | next => obtain ⟨σ', H', I', q'⟩ := sp; exact wpAny_execs_nil ⟨σ', H', Inv.untry I.ok I', q'⟩
    | brk => obtain ⟨σ', H', I', q'⟩ := sp; exact ⟨σ', H', Inv.untry I.ok I', q'⟩
    | cont => obtain ⟨σ', H', I', q'⟩ := sp; exact ⟨σ', H', Inv.untry I.ok I', q'⟩
    | ret u => obtain ⟨v, σ', H', I', r', q'⟩ := sp; exact ⟨v, σ', H', Inv.untry I.ok I', r', q'⟩
end
end FD

set_option Elab.async false
set_option linter.all false
namespace FD
open PySem PySem.Spec PyProof.Rows L2
/-! ### readings, run: equations for simp -/
section
variable {τ : DS} {fa fb fc fe fi : FE} {fs : FA} {op : D → D → Rs D} {d x y : D} {i j k : Int} {n m : Nat}
def getV : Option (Option Sl) → Rs D
  | some (some (.val d)) => .ok d
  | _ => .no
def getO : Option (Option Sl) → Rs (List D)
  | some (some (.own d)) => .ok d
  | _ => .no
@[simp] theorem getV_val : getV (some (some (.val d))) = .ok d := rfl
@[simp] theorem getO_own {ds : List D} : getO (some (some (.own ds))) = .ok ds := rfl
theorem eVar_ap : eVar n τ = getV τ[n]? := rfl
theorem ownAt_ap : ownAt τ n = getO τ[n]? := rfl
theorem eC_ap : eC d τ = .ok d := rfl
theorem eOp_ap : eOp op fa fb τ = (fa τ).bind fun x => (fb τ).bind fun y => op x y := rfl
theorem aNil_ap : aNil τ = .ok [] := rfl
theorem aCons_ap : aCons fa fs τ = (fa τ).bind fun x => (fs τ).bind fun r => .ok (x :: r) := rfl
theorem eLst_ap : eLst fs τ = (fs τ).bind fun ds => if ds.length ≤ sizeLine then .ok (.lst ds) else .no := rfl
theorem eCall_ap {g : List D → Rs D} : eCall g fs τ = (fs τ).bind fun ds => noEx (g ds) := rfl
theorem eBlt_ap {g : List D → Rs D} : eBlt g fs τ = (fs τ).bind g := rfl
theorem eIf_ap {g : FT} : eIf g fa fb τ = (g τ).bind fun b => if b = true then fa τ else fb τ := rfl
theorem eAnd_ap : eAnd fa fb τ = (fa τ).bind fun x => (truD x).bind fun b => if b = true then fb τ else .ok x := rfl
theorem eOr_ap : eOr fa fb τ = (fa τ).bind fun x => (truD x).bind fun b => if b = true then .ok x else fb τ := rfl
theorem eNot_ap : eNot fa τ = (fa τ).bind fun x => (truD x).bind fun b => .ok (.bl (!b)) := rfl
def boolOf : D → Rs Bool
  | .bl b => .ok b
  | _ => .no
@[simp] theorem boolOf_bl {b : Bool} : boolOf (.bl b) = .ok b := rfl
theorem tB_ap : FD.tB fe τ = (fe τ).bind boolOf := rfl
theorem tTru_ap : tTru fe τ = (fe τ).bind truD := rfl
theorem tAnd_ap {f g : FT} : tAndD f g τ = (f τ).bind fun b => if b = true then g τ else .ok false := rfl
theorem tOr_ap {f g : FT} : tOrD f g τ = (f τ).bind fun b => if b = true then .ok true else g τ := rfl
theorem tNot_ap {f : FT} : tNotD f τ = (f τ).bind fun b => .ok (!b) := rfl
theorem eMt0_ap {T : String} {g : D → List D → Rs D} : eMt0 T g fa τ = (fa τ).bind fun d => if isTy T d = true then g d [] else .no := rfl
theorem eMt_ap {T : String} {g : D → List D → Rs D} : eMt T g fa fs τ = (fa τ).bind fun d => if isTy T d = true then (fs τ).bind fun ds => g d ds else .no := rfl
theorem eSl_ap {fl fh : FO} : eSl fe fl fh τ = (fe τ).bind fun d => (fl τ).bind fun l => (fh τ).bind fun u => slD d l u := rfl
theorem oNone_ap : oNone τ = .ok none := rfl
def someInt : D → Rs (Option Int)
  | .int i => .ok (some i)
  | _ => .no
@[simp] theorem someInt_int : someInt (.int i) = .ok (some i) := rfl
theorem oSome_ap : oSome fe τ = (fe τ).bind someInt := rfl
/-! statements -/
def Fl.thn (r : Fl) (g : FS) : Fl := match r with
  | .nx τ => g τ
  | r => r
@[simp] theorem thn_nx {g : FS} : (Fl.nx τ).thn g = g τ := rfl
@[simp] theorem thn_rt {g : FS} : (Fl.rt d).thn g = .rt d := rfl
theorem sSeq_ap {f g : FS} : sSeq f g τ = (f τ).thn g := rfl
theorem sSet_ap : sSet n fe τ = Fl.of (fe τ) fun d => .nx (τ.set n (some (.val d))) := rfl
theorem sSetO_ap : sSetO n fs τ = Fl.of (fs τ) fun ds => .nx (τ.set n (some (.own ds))) := rfl
theorem sIf_ap {g : FT} {f h : FS} : sIf g f h τ = Fl.of (g τ) fun b => if b = true then f τ else h τ := rfl
theorem sRet_ap : sRet fe τ = Fl.of (fe τ) fun d => .rt d := rfl
theorem sRetO_ap : sRetO n τ = Fl.of (ownAt τ n) fun ds => .rt (.lst ds) := rfl
theorem sNext_ap : sNext τ = .nx τ := rfl
theorem sFor_ap {set : FG} {body : FS} : sFor fs set body τ = Fl.of (fs τ) fun ds => loopD set body ds τ := rfl
@[simp] theorem flRes_rt : flRes (.rt d) = .ok d := rfl
@[simp] theorem noEx_ok : noEx (.ok d) = .ok d := rfl
/-! operations on data -/
@[simp] theorem addD_i : addD (.int i) (.int j) = .ok (.int (i + j)) := rfl
theorem addD_s {a b : Str} (h : a.length + b.length ≤ sizeLine) : addD (.str a) (.str b) = .ok (.str (a ++ b)) := if_pos h
@[simp] theorem subD_i : subD (.int i) (.int j) = .ok (.int (i - j)) := rfl
theorem mulD_i (h : (-(18446744073709551616) < i ∧ i < 18446744073709551616) ∨ (-(18446744073709551616) < j ∧ j < 18446744073709551616)) : mulD (.int i) (.int j) = .ok (.int (i * j)) := if_pos h
theorem modD_i (h : 0 < j) : modD (.int i) (.int j) = .ok (.int (i % j)) := by
  show (if decide (0 < j) = true then _ else _) = _
  rw [if_pos (by simpa using h)]
theorem fdivD_i (h : 0 < j ∧ j < 1073741824) : fdivD (.int i) (.int j) = .ok (.int (i / j)) := by
  show (if decide (0 < j ∧ j < 1073741824) = true then _ else _) = _
  rw [if_pos (by simpa using h)]
@[simp] theorem ltI_i : ltI (.int i) (.int j) = .ok (.bl (decide (i < j))) := rfl
@[simp] theorem leD_i : leD (.int i) (.int j) = .ok (.bl (decide (i ≤ j))) := rfl
@[simp] theorem gtD_i : gtD (.int i) (.int j) = .ok (.bl (decide (j < i))) := rfl
@[simp] theorem geD_i : geD (.int i) (.int j) = .ok (.bl (decide (j ≤ i))) := rfl
@[simp] theorem eqD_i : eqD (.int i) (.int j) = .ok (.bl (i == j)) := rfl
@[simp] theorem eqD_s {a b : Str} : eqD (.str a) (.str b) = .ok (.bl (a == b)) := rfl
@[simp] theorem neD_i : neD (.int i) (.int j) = .ok (.bl (!(i == j))) := rfl
@[simp] theorem neD_s {a b : Str} : neD (.str a) (.str b) = .ok (.bl (!(a == b))) := rfl
@[simp] theorem inD_s {a b : Str} : inD (.str a) (.str b) = .ok (.bl (strIn a b)) := rfl
theorem strIn_one (c : Nat) (x : Str) : strIn ⟨#[c]⟩ x = decide (c ∈ x.cps.toList) := StrLaws.found_one x c
@[simp] theorem lenD_scr {ns : List Int} : lenD [.scr ns] = .ok (.int ns.length) := rfl
@[simp] theorem lenD_lst {ds : List D} : lenD [.lst ds] = .ok (.int ds.length) := rfl
theorem lenD_str {a : Str} (h : a.length ≤ sizeLine) : lenD [.str a] = .ok (.int a.length) := if_pos h
theorem ixD_scr {ns : List Int} {a : Int} (h : atI ns k = some a) : ixD (.scr ns) (.int k) = .ok (.int a) := by
  show (match atI ns k with | some d => Rs.ok (D.int d) | none => .no) = _
  rw [h]
theorem ixD_lst {ds : List D} {a : D} (h : atI ds k = some a) : ixD (.lst ds) (.int k) = .ok a := by
  show (match atI ds k with | some d => Rs.ok d | none => .no) = _
  rw [h]
theorem ixD_str {a : Str} {c : Nat} (h : atI a.cps.toList k = some c) (hz : a.length ≤ sizeLine) : ixD (.str a) (.int k) = .ok (signD c) := by
  show (match atI a.cps.toList k with | some c => if a.length ≤ sizeLine then Rs.ok (D.str ⟨#[c]⟩) else .no | none => .no) = _
  rw [h]
  exact if_pos hz
theorem atI_of {α : Type} {xs : List α} {a : α} (h0 : 0 ≤ k) (h : xs[k.toNat]? = some a) : atI xs k = some a := by
  have := atI_nat (j := k.toNat) h
  rwa [Int.toNat_of_nonneg h0] at this
@[simp] theorem truD_bl {b : Bool} : truD (.bl b) = .ok b := rfl
theorem truD_str {a : Str} (h : a.length ≤ sizeLine) : truD (.str a) = .ok ((a.length : Int) != 0) := if_pos h
theorem runF_ap {b : FS} {ds : List D} : runF n b ds = flRes (b (startD n ds)) := rfl
end
theorem eqvAll_nil (l : List PyData) : PyData.eqvAll l [] = l.isEmpty := by cases l <;> simp [PyData.eqvAll]
theorem okD_scr (ns : List Int) : okD (.scr ns) = true := by
  have c : ∀ l : List Int, PyData.canLayAll0 (l.map PyData.int) = true := fun l => by
    induction l with
    | nil => rfl
    | cons a r ih => simp [PyData.canLayAll0, PyData.canLay0, ih]
  have d : ∀ l : List Int, PyData.depthAll (l.map PyData.int) = 0 := fun l => by
    induction l with
    | nil => rfl
    | cons a r ih => simp [PyData.depthAll, PyData.depth, ih]
  simp [okD, plainD, toPy, PyData.canLay0, PyData.depth, c, d]
theorem eqD_scr_nil (ns : List Int) : eqD (.scr ns) (.lst []) = .ok (.bl ns.isEmpty) := by
  have o2 : okD (.lst []) = true := by decide
  have : eqvD (.scr ns) (.lst []) = ns.isEmpty := by
    simp only [eqvD, toPy, toPys, PyData.eqv, eqvAll_nil]
    cases ns <;> rfl
  simp only [eqD, okD_scr, o2, this, and_self, if_true]
end FD

set_option Elab.async false
set_option linter.all false
set_option maxRecDepth 100000
namespace Law
open PySem PySem.Spec PyProof.Rows L2 FD
def b__law_cell : FS := (sSeq (sIf (tB (eOp eqD (eVar 0) (eLst aNil))) (sRet (eOp mulD (eC (.int 7)) (eVar 1))) sNext)
      (sRet (eOp addD (eOp ixD (eVar 0) (eOp modD (eVar 1) (eBlt lenD (aCons (eVar 0) aNil)))) (eOp mulD (eC (.int 6553)) (eOp fdivD (eVar 1) (eBlt lenD (aCons (eVar 0) aNil)))))))
def m__law_cell (ds : List D) : Rs D := runF 2 b__law_cell ds
def b__law_drawn : FS := (sSeq (sSet 3 (eOp modD (eOp addD (eOp mulD (eOp modD (eCall m__law_cell (aCons (eVar 0) (aCons (eVar 1) aNil))) (eC (.int 2147483563))) (eC (.int 69069))) (eOp mulD (eC (.int 104723)) (eOp addD (eVar 1) (eC (.int 1))))) (eC (.int 2147483563))))
      (sSeq (sSet 3 (eOp modD (eOp addD (eOp mulD (eVar 3) (eVar 3)) (eOp fdivD (eVar 3) (eC (.int 3)))) (eC (.int 2147483399))))
      (sRet (eOp modD (eOp fdivD (eOp modD (eOp addD (eOp mulD (eVar 3) (eVar 3)) (eOp fdivD (eVar 3) (eC (.int 7)))) (eC (.int 2147483647))) (eC (.int 11))) (eVar 2)))))
def m__law_drawn (ds : List D) : Rs D := runF 4 b__law_drawn ds
def b__law_name : FS := (sSeq (sSet 2 (eC (.str "")))
      (sSeq (sFor (iRg1 (aCons (eOp addD (eC (.int 1)) (eCall m__law_drawn (aCons (eVar 0) (aCons (eVar 1) (aCons (eC (.int 10)) aNil))))) aNil)) (gNm 3) (sSet 2 (eOp addD (eVar 2) (eOp ixD (eC (.str "abcabABCab1_-./xyz")) (eCall m__law_drawn (aCons (eVar 0) (aCons (eOp addD (eOp addD (eVar 1) (eC (.int 1))) (eVar 3)) (aCons (eC (.int 18)) aNil))))))))
      (sRet (eVar 2))))
def m__law_name (ds : List D) : Rs D := runF 4 b__law_name ds
def b__law_mark : FS := (sRet (eOp inD (eVar 0) (eC (.str "_-./"))))
def m__law_mark (ds : List D) : Rs D := runF 1 b__law_mark ds
def b__law_query : FS := (sSeq (sSet 4 (eC (.str "")))
      (sSeq (sSet 5 (eC (.int 0)))
      (sSeq (sFor (iRg1 (aCons (eCall m__law_drawn (aCons (eVar 0) (aCons (eVar 1) (aCons (eOp addD (eVar 3) (eC (.int 1))) aNil)))) aNil)) (gNm 6) (sSeq (sSet 5 (eBlt min2D (aCons (eOp subD (eBlt lenD (aCons (eVar 2) aNil)) (eC (.int 1))) (aCons (eOp addD (eVar 5) (eCall m__law_drawn (aCons (eVar 0) (aCons (eOp addD (eOp addD (eVar 1) (eC (.int 1))) (eOp mulD (eC (.int 3)) (eVar 6))) (aCons (eC (.int 3)) aNil))))) aNil))))
      (sSeq (sSet 7 (eMt0 "str" loD (eOr (eSl (eVar 2) (oSome (eVar 5)) (oSome (eOp addD (eVar 5) (eC (.int 1))))) (eC (.str "a")))))
      (sSeq (sSet 5 (eOp addD (eVar 5) (eC (.int 1))))
      (sSeq (sIf (tB (eOp eqD (eCall m__law_drawn (aCons (eVar 0) (aCons (eOp addD (eOp addD (eVar 1) (eC (.int 2))) (eOp mulD (eC (.int 3)) (eVar 6))) (aCons (eC (.int 5)) aNil)))) (eC (.int 0)))) (sSet 7 (eOp ixD (eC (.str "abAB1c")) (eCall m__law_drawn (aCons (eVar 0) (aCons (eOp addD (eOp addD (eVar 1) (eC (.int 3))) (eOp mulD (eC (.int 3)) (eVar 6))) (aCons (eC (.int 6)) aNil)))))) sNext)
      (sIf (tNotD (tTru (eCall m__law_mark (aCons (eVar 7) aNil)))) (sSet 4 (eOp addD (eVar 4) (eVar 7))) sNext))))))
      (sRet (eVar 4)))))
def m__law_query (ds : List D) : Rs D := runF 8 b__law_query ds
def b_meets : FS := (sRet (eOr (eOp eqD (eVar 0) (eVar 1)) (eAnd (eOp inD (eVar 0) (eC (.str "abcdefghijklmnopqrstuvwxyz"))) (eOp eqD (eMt0 "str" upD (eVar 0)) (eVar 1)))))
def m_meets (ds : List D) : Rs D := runF 2 b_meets ds
def b_how_many : FS := (sSeq (sSetO 2 (eCat (eLst (aCons (eC (.int 1)) aNil)) (eOp mulD (eLst (aCons (eC (.int 0)) aNil)) (eBlt lenD (aCons (eVar 0) aNil)))))
      (sSeq (sFor (iAny (eVar 1)) (gNm 3) (sFor (iRg3 (aCons (eBlt lenD (aCons (eVar 0) aNil)) (aCons (eC (.int 0)) (aCons (eNeg (eC (.int 1))) aNil)))) (gNm 4) (sIf (tTru (eCall m_meets (aCons (eOp ixD (eVar 0) (eOp subD (eVar 4) (eC (.int 1)))) (aCons (eVar 3) aNil)))) (sPut 2 (eVar 4) (eOp addD (eIxO 2 (eVar 4)) (eIxO 2 (eOp subD (eVar 4) (eC (.int 1)))))) sNext)))
      (sRet (eIxO 2 (eBlt lenD (aCons (eVar 0) aNil))))))
def m_how_many (ds : List D) : Rs D := runF 5 b_how_many ds
def b_earliest_places : FS := (sSeq (sSetO 2 (fun τ => (aNil τ).bind fun ds => if ds.length ≤ sizeLine then .ok ds else .no))
      (sSeq (sFor (iRg1 (aCons (eBlt lenD (aCons (eVar 1) aNil)) aNil)) (gNm 3) (sIf (tAndD (tB (eOp ltI (eLenO 2) (eBlt lenD (aCons (eVar 0) aNil)))) (tTru (eCall m_meets (aCons (eOp ixD (eVar 0) (eLenO 2)) (aCons (eOp ixD (eVar 1) (eVar 3)) aNil))))) (sApp 2 (eVar 3)) sNext))
      (sRetO 2)))
def m_earliest_places (ds : List D) : Rs D := runF 4 b_earliest_places ds
def b_first_laying : FS := (sSeq (sQuiet (sSet 2 (eCall m_earliest_places (aCons (eVar 0) (aCons (eVar 1) aNil)))))
      (sSeq (sIf (tB (eOp ltI (eBlt lenD (aCons (eVar 2) aNil)) (eBlt lenD (aCons (eVar 0) aNil)))) (sRaise "NoFit") sNext)
      (sQuiet (sRet (eVar 2)))))
def m_first_laying (ds : List D) : Rs D := runF 3 b_first_laying ds
def b_last_laying : FS := (sSeq (sSetX 2 m_first_laying (aCons (eRev (eVar 0)) (aCons (eRev (eVar 1)) aNil)))
      (sQuiet (sRet (fun τ => ((eComp 1 [1] (iRv (aCons (eVar 2) aNil)) (gNm 0) (fun _ => .ok true) (eOp subD (eOp subD (eBlt lenD (aCons (eVar 1) aNil)) (eC (.int 1))) (eVar 0))) τ).bind fun ds => .ok (.lst ds)))))
def m_last_laying (ds : List D) : Rs D := runF 3 b_last_laying ds
def b_fits : FS := (sRet (eOp eqD (eBlt lenD (aCons (eCall m_earliest_places (aCons (eVar 0) (aCons (eVar 1) aNil))) aNil)) (eBlt lenD (aCons (eVar 0) aNil))))
def m_fits (ds : List D) : Rs D := runF 2 b_fits ds
def b_is_whole : FS := (sRet (eAnd (eBlt isiD (aCons (eVar 0) (aCons (eC (.raw (.ty "int"))) aNil))) (eNot (eBlt isiD (aCons (eVar 0) (aCons (eC (.raw (.ty "bool"))) aNil))))))
def m_is_whole (ds : List D) : Rs D := runF 1 b_is_whole ds
def b_are_rising_places : FS := (sSeq (sSet 2 (eC (.int 0)))
      (sSeq (sFor (iAny (eVar 1)) (gNm 3) (sSeq (sIf (tNotD (tTru (eCall m_is_whole (aCons (eVar 3) aNil)))) (sRet (eC (.bl false))) sNext)
      (sSeq (sIf (tOrD (tB (eOp ltI (eVar 3) (eVar 2))) (tB (eOp geD (eVar 3) (eBlt lenD (aCons (eVar 0) aNil))))) (sRet (eC (.bl false))) sNext)
      (sSet 2 (eOp addD (eVar 3) (eC (.int 1)))))))
      (sRet (eC (.bl true)))))
def m_are_rising_places (ds : List D) : Rs D := runF 4 b_are_rising_places ds
def b_is_laying : FS := (sSeq (sIf (tOrD (tNotD (tTru (eBlt isiD (aCons (eVar 2) (aCons (eC (.raw (.ty "list"))) aNil))))) (tB (eOp neD (eBlt lenD (aCons (eVar 2) aNil)) (eBlt lenD (aCons (eVar 0) aNil))))) (sRet (eC (.bl false))) sNext)
      (sSeq (sIf (tNotD (tTru (eCall m_are_rising_places (aCons (eVar 1) (aCons (eVar 2) aNil))))) (sRet (eC (.bl false))) sNext)
      (sRet (eBlt allD (aCons (fun τ => ((eComp 2 [1] (iZp (aCons (eVar 0) (aCons (eVar 2) aNil))) (gPr 0 1) (fun _ => .ok true) (eCall m_meets (aCons (eVar 0) (aCons (eOp ixD (eVar 2) (eVar 1)) aNil)))) τ).bind fun ds => .ok (.lst ds)) aNil)))))
def m_is_laying (ds : List D) : Rs D := runF 3 b_is_laying ds
def b_law : FS := (sSeq (sSet 1 (eCall m__law_name (aCons (eVar 0) (aCons (eC (.int 0)) aNil))))
      (sSeq (sSet 2 (eCall m__law_name (aCons (eVar 0) (aCons (eC (.int 12)) aNil))))
      (sSeq (sSet 3 (eCall m__law_query (aCons (eVar 0) (aCons (eC (.int 30)) (aCons (eVar 1) (aCons (eC (.int 6)) aNil))))))
      (sSeq (sSet 4 (eOp addD (eVar 3) (eOp ixD (eC (.str "abc1xB")) (eCall m__law_drawn (aCons (eVar 0) (aCons (eC (.int 55)) (aCons (eC (.int 6)) aNil)))))))
      (sSeq (sSet 5 (eCall m_how_many (aCons (eVar 3) (aCons (eVar 1) aNil))))
      (sSeq (sIf (tOrD (tB (eOp neD (eCall m_fits (aCons (eVar 3) (aCons (eVar 1) aNil))) (eOp gtD (eVar 5) (eC (.int 0))))) (tB (eOp neD (eCall m_how_many (aCons (eRev (eVar 3)) (aCons (eRev (eVar 1)) aNil))) (eVar 5)))) (sRet (eC (.bl false))) sNext)
      (sSeq (sIf (tOrD (tB (eOp ltI (eCall m_how_many (aCons (eVar 3) (aCons (eOp addD (eVar 1) (eVar 2)) aNil))) (eVar 5))) (tOrD (tB (eOp ltI (eCall m_how_many (aCons (eVar 3) (aCons (eOp addD (eVar 2) (eVar 1)) aNil))) (eVar 5))) (tB (eOp neD (eCall m_how_many (aCons (eC (.str "")) (aCons (eVar 1) aNil))) (eC (.int 1)))))) (sRet (eC (.bl false))) sNext)
      (sSeq (sIf (tAndD (tB (eOp gtD (eCall m_how_many (aCons (eVar 4) (aCons (eVar 1) aNil))) (eC (.int 0)))) (tNotD (tTru (eCall m_fits (aCons (eVar 3) (aCons (eVar 1) aNil)))))) (sRet (eC (.bl false))) sNext)
      (sSeq (sIf (tB (eOp eqD (eVar 5) (eC (.int 0)))) (sSeq (sTryE (sExprX m_first_laying (aCons (eVar 3) (aCons (eVar 1) aNil))) (fun c => c == "NoFit") (sRet (eNot (eCall m_fits (aCons (eVar 4) (aCons (eVar 1) aNil))))))
      (sRet (eC (.bl false)))) sNext)
      (sSeq (sSet 6 (eCall m_first_laying (aCons (eVar 3) (aCons (eVar 1) aNil))))
      (sSeq (sSet 7 (eCall m_last_laying (aCons (eVar 3) (aCons (eVar 1) aNil))))
      (sSeq (sIf (tOrD (tNotD (tTru (eCall m_is_laying (aCons (eVar 3) (aCons (eVar 1) (aCons (eVar 6) aNil)))))) (tNotD (tTru (eCall m_is_laying (aCons (eVar 3) (aCons (eVar 1) (aCons (eVar 7) aNil))))))) (sRet (eC (.bl false))) sNext)
      (sSeq (sIf (tOrD (tB (eOp neD (fun τ => ((eComp 1 [6, 7] (iRg1 (aCons (eBlt lenD (aCons (eVar 3) aNil)) aNil)) (gNm 0) (tB (eOp gtD (eOp ixD (eVar 1) (eVar 0)) (eOp ixD (eVar 2) (eVar 0)))) (eVar 0)) τ).bind fun ds => .ok (.lst ds)) (eLst aNil))) (tB (eOp neD (eOp eqD (eVar 5) (eC (.int 1))) (eOp eqD (eVar 6) (eVar 7))))) (sRet (eC (.bl false))) sNext)
      (sSeq (sIf (tB (eOp neD (eCall m_last_laying (aCons (eRev (eVar 3)) (aCons (eRev (eVar 1)) aNil))) (fun τ => ((eComp 1 [1] (iAny (eRev (eVar 6))) (gNm 0) (fun _ => .ok true) (eOp subD (eOp subD (eBlt lenD (aCons (eVar 1) aNil)) (eC (.int 1))) (eVar 0))) τ).bind fun ds => .ok (.lst ds)))) (sRet (eC (.bl false))) sNext)
      (sRet (eOr (eNot (eCall m_fits (aCons (eVar 4) (aCons (eVar 1) aNil)))) (eOp eqD (eSl (eCall m_first_laying (aCons (eVar 4) (aCons (eVar 1) aNil))) oNone (oSome (eNeg (eC (.int 1))))) (eVar 6))))))))))))))))))
def m_law (ds : List D) : Rs D := runF 8 b_law ds
end Law

set_option Elab.async false
set_option linter.all false
namespace Law
open PySem PySem.Spec PyProof.Rows L2 FD
def cellZ (ns : List Int) (k : Int) : Int := if ns = [] then 7 * k else ns.getD (k % ns.length).toNat 0 + 6553 * (k / ns.length)
theorem sizeLine_v : sizeLine = 16777216 := sizeLine_eq
theorem cell_ok (ns : List Int) (k : Int) (h63 : ns.length ≤ 63) (h0 : 0 ≤ k) : m__law_cell [.scr ns, .int k] = .ok (.int (cellZ ns k)) := by
  have st : startD 2 [D.scr ns, .int k] = [some (.val (.scr ns)), some (.val (.int k))] := rfl
  unfold m__law_cell b__law_cell
  rw [runF_ap, st]
  simp only [sSeq_ap, sIf_ap, tB_ap, eOp_ap, eVar_ap, eLst_ap, aNil_ap, List.getElem?_cons_zero, List.getElem?_cons_succ, getV_val, Rs.bind_ok, List.length_nil, Nat.zero_le, if_true, eqD_scr_nil, boolOf_bl, Fl.of_ok]
  cases ns with
  | nil =>
    simp only [List.isEmpty_nil, if_true, sRet_ap, eOp_ap, eC_ap, eVar_ap, List.getElem?_cons_zero, List.getElem?_cons_succ, getV_val, Rs.bind_ok, mulD_i (i := 7) (j := k) (.inl ⟨by decide, by decide⟩), Fl.of_ok, thn_rt, flRes_rt, cellZ]
  | cons a r =>
    have hl : (0 : Int) < ((a :: r).length : Int) := by simp only [List.length_cons]; omega
    have hm0 := Int.emod_nonneg k (show ((a :: r).length : Int) ≠ 0 by omega)
    have hm1 := Int.emod_lt_of_pos k hl
    have hat : atI (a :: r) (k % ((a :: r).length : Int)) = some ((a :: r).getD (k % ((a :: r).length : Int)).toNat 0) := by
      refine atI_of hm0 ?_
      have : (k % ((a :: r).length : Int)).toNat < (a :: r).length := by omega
      rw [List.getD_eq_getElem?_getD, List.getElem?_eq_getElem this]; rfl
    have hdv : fdivD (.int k) (.int ((a :: r).length : Int)) = .ok (.int (k / ((a :: r).length : Int))) := fdivD_i ⟨hl, by omega⟩
    have hmd : modD (.int k) (.int ((a :: r).length : Int)) = .ok (.int (k % ((a :: r).length : Int))) := modD_i hl
    have hml := mulD_i (i := 6553) (j := k / ((a :: r).length : Int)) (.inl ⟨by decide, by decide⟩)
    simp only [List.isEmpty_cons, Bool.false_eq_true, if_false, sNext_ap, thn_nx, sRet_ap, eOp_ap, eC_ap, eVar_ap, eBlt_ap, aCons_ap, aNil_ap, List.getElem?_cons_zero, List.getElem?_cons_succ, getV_val, Rs.bind_ok, lenD_scr, hmd, hdv, hml, ixD_scr hat, addD_i, Fl.of_ok, flRes_rt]
    simp [cellZ]
def d1 (ns : List Int) (k : Int) : Int := (cellZ ns k % 2147483563 * 69069 + 104723 * (k + 1)) % 2147483563
def d2 (ns : List Int) (k : Int) : Int := (d1 ns k * d1 ns k + d1 ns k / 3) % 2147483399
def drawZ (ns : List Int) (k m : Int) : Int := (d2 ns k * d2 ns k + d2 ns k / 7) % 2147483647 / 11 % m
theorem draw_ok (ns : List Int) (k m : Int) (h63 : ns.length ≤ 63) (h0 : 0 ≤ k) (hk : k < 1000000) (hm : 0 < m) : m__law_drawn [.scr ns, .int k, .int m] = .ok (.int (drawZ ns k m)) := by
  have st : startD 4 [D.scr ns, .int k, .int m] = [some (.val (.scr ns)), some (.val (.int k)), some (.val (.int m)), none] := rfl
  have b1 : 0 ≤ d1 ns k ∧ d1 ns k < 2147483563 := ⟨Int.emod_nonneg _ (by decide), Int.emod_lt_of_pos _ (by decide)⟩
  have b2 : 0 ≤ d2 ns k ∧ d2 ns k < 2147483399 := ⟨Int.emod_nonneg _ (by decide), Int.emod_lt_of_pos _ (by decide)⟩
  have c0 := Int.emod_lt_of_pos (cellZ ns k) (show (0 : Int) < 2147483563 by decide)
  have c1 := Int.emod_nonneg (cellZ ns k) (show (2147483563 : Int) ≠ 0 by decide)
  have q1 := mulD_i (i := cellZ ns k % 2147483563) (j := 69069) (.inr ⟨by decide, by decide⟩)
  have q2 := mulD_i (i := 104723) (j := k + 1) (.inl ⟨by decide, by decide⟩)
  have q3 := mulD_i (i := d1 ns k) (j := d1 ns k) (.inl ⟨by omega, by omega⟩)
  have q4 := mulD_i (i := d2 ns k) (j := d2 ns k) (.inl ⟨by omega, by omega⟩)
  have e1 : (cellZ ns k % 2147483563 * 69069 + 104723 * (k + 1)) % 2147483563 = d1 ns k := rfl
  have e2 : (d1 ns k * d1 ns k + d1 ns k / 3) % 2147483399 = d2 ns k := rfl
  have m1 := fun i => modD_i (i := i) (j := 2147483563) (by decide)
  have m2 := fun i => modD_i (i := i) (j := 2147483399) (by decide)
  have m3 := fun i => modD_i (i := i) (j := 2147483647) (by decide)
  have m4 := fun i => modD_i (i := i) (j := m) hm
  have f3 := fun i => fdivD_i (i := i) (j := 3) ⟨by decide, by decide⟩
  have f7 := fun i => fdivD_i (i := i) (j := 7) ⟨by decide, by decide⟩
  have f11 := fun i => fdivD_i (i := i) (j := 11) ⟨by decide, by decide⟩
  unfold m__law_drawn b__law_drawn
  rw [runF_ap, st]
  simp only [sSeq_ap, sSet_ap, sRet_ap, eOp_ap, eVar_ap, eC_ap, eCall_ap, aCons_ap, aNil_ap, List.getElem?_cons_zero, List.getElem?_cons_succ, getV_val, Rs.bind_ok, cell_ok ns k h63 h0, noEx_ok, m1, q1, addD_i, q2, e1, Fl.of_ok, thn_nx, List.set_cons_succ, List.set_cons_zero, q3, f3, m2, e2, q4, f7, m3, f11, m4, flRes_rt]
  rfl
theorem draw_lt (ns : List Int) (k : Int) {m : Int} (hm : 0 < m) : 0 ≤ drawZ ns k m ∧ drawZ ns k m < m := ⟨Int.emod_nonneg _ (by omega), Int.emod_lt_of_pos _ hm⟩
end Law

set_option Elab.async false
set_option linter.all false
namespace FD
open PySem PySem.Spec PyProof.Rows L2
theorem loop_from {set : FG} {body : FS} (f : Nat → D) (S : Nat → DS) : ∀ (m j : Nat), (∀ k, j ≤ k → k < j + m → ∃ τ1, set (f k) (S k) = .ok τ1 ∧ body τ1 = .nx (S (k + 1))) → loopD set body ((List.range' j m).map f) (S j) = .nx (S (j + m))
  | 0, j, _ => rfl
  | m + 1, j, h => by
    obtain ⟨τ1, h1, h2⟩ := h j (Nat.le_refl _) (by omega)
    rw [List.range'_succ, List.map_cons, loopD, h1, Fl.of_ok]
    simp only [h2]
    rw [loop_from f S m (j + 1) fun k hk hk2 => h k (by omega) (by omega)]
    congr 2; omega
theorem loop_range {set : FG} {body : FS} (f : Nat → D) (S : Nat → DS) (n : Nat) (h : ∀ k, k < n → ∃ τ1, set (f k) (S k) = .ok τ1 ∧ body τ1 = .nx (S (k + 1))) : loopD set body ((List.range n).map f) (S 0) = .nx (S n) := by
  have := loop_from f S n 0 fun k _ hk => h k (by omega)
  rw [Nat.zero_add] at this
  rwa [List.range_eq_range']
theorem rg1_ok {fs : FA} {τ : DS} {j : Int} (h : fs τ = .ok [.int j]) (h1 : -(2 ^ 62) ≤ j) (h2 : j < 2 ^ 62) : iRg1 fs τ = .ok (rngD 0 j.toNat) := by
  unfold iRg1
  rw [h]
  simp only [Rs.bind_ok, int1]
  rw [if_pos ⟨h1, h2⟩]
theorem str_app (a : List Nat) (c : Nat) : (⟨a.toArray⟩ : Str) ++ (⟨#[c]⟩ : Str) = ⟨(a ++ [c]).toArray⟩ := by
  show Str.mk _ = _
  simp
theorem gNm_ap {n : Nat} {d : D} {τ : DS} : gNm n d τ = .ok (τ.set n (some (.val d))) := rfl
end FD
namespace Law
open PySem PySem.Spec PyProof.Rows L2 FD
def A18 : List Nat := [97, 98, 99, 97, 98, 65, 66, 67, 97, 98, 49, 95, 45, 46, 47, 120, 121, 122]
def nameN (ns : List Int) (a : Int) : Nat := (1 + drawZ ns a 10).toNat
def nameC (ns : List Int) (a : Int) (k : Nat) : Nat := A18.getD (drawZ ns (a + 1 + k) 18).toNat 0
def nameL (ns : List Int) (a : Int) (n : Nat) : List Nat := (List.range n).map (nameC ns a)
theorem a18 : ("abcabABCab1_-./xyz" : Str).cps.toList = A18 := by decide +kernel
theorem name_ok (ns : List Int) (a : Int) (h63 : ns.length ≤ 63) (h0 : 0 ≤ a) (ha : a < 900000) : m__law_name [.scr ns, .int a] = .ok (.str ⟨(nameL ns a (nameN ns a)).toArray⟩) := by
  have st : startD 4 [D.scr ns, .int a] = [some (.val (.scr ns)), some (.val (.int a)), none, none] := rfl
  have dl := draw_lt ns a (m := 10) (by decide)
  unfold m__law_name b__law_name
  rw [runF_ap, st, sSeq_ap, sSet_ap, eC_ap, Fl.of_ok, thn_nx, sSeq_ap, sFor_ap]
  have r1 := rg1_ok (fs := aCons (eOp addD (eC (.int 1)) (eCall m__law_drawn (aCons (eVar 0) (aCons (eVar 1) (aCons (eC (.int 10)) aNil))))) aNil) (τ := [some (.val (.scr ns)), some (.val (.int a)), some (.val (.str "")), none]) (j := 1 + drawZ ns a 10)
    (by simp only [aCons_ap, aNil_ap, eOp_ap, eC_ap, eCall_ap, eVar_ap, List.getElem?_cons_zero, List.getElem?_cons_succ, getV_val, Rs.bind_ok, draw_ok ns a 10 h63 h0 (by omega) (by decide), noEx_ok, addD_i]) (by omega) (by omega)
  simp only [List.set_cons_succ, List.set_cons_zero]
  rw [r1, Fl.of_ok]
  let S : Nat → DS := fun k => [some (.val (.scr ns)), some (.val (.int a)), some (.val (.str ⟨(nameL ns a k).toArray⟩)), if k = 0 then none else some (.val (.int ((k : Int) - 1)))]
  have s0 : S 0 = [some (.val (.scr ns)), some (.val (.int a)), some (.val (.str "")), none] := by
    simp only [S, nameL, List.range_zero, List.map_nil, if_true]
    rfl
  rw [← s0]
  have lp := loop_range (set := gNm 3) (body := (sSet 2 (eOp addD (eVar 2) (eOp ixD (eC (.str "abcabABCab1_-./xyz")) (eCall m__law_drawn (aCons (eVar 0) (aCons (eOp addD (eOp addD (eVar 1) (eC (.int 1))) (eVar 3)) (aCons (eC (.int 18)) aNil)))))))) (fun (k : Nat) => D.int (0 + k)) S (1 + drawZ ns a 10).toNat fun k hk => by
    refine ⟨_, gNm_ap, ?_⟩
    have hk' : (k : Int) < 20 := by omega
    have dk := draw_lt ns (a + 1 + (0 + (k : Int))) (m := 18) (by decide)
    have hd := draw_ok ns (a + 1 + (0 + (k : Int))) 18 h63 (by omega) (by omega) (by decide)
    have hix := ixD_str (a := "abcabABCab1_-./xyz") (k := drawZ ns (a + 1 + (0 + (k : Int))) 18) (c := A18.getD (drawZ ns (a + 1 + (0 + (k : Int))) 18).toNat 0) (atI_of dk.1 (by
      rw [a18]
      have : (drawZ ns (a + 1 + (0 + (k : Int))) 18).toNat < A18.length := by
        have : A18.length = 18 := rfl
        omega
      rw [List.getD_eq_getElem?_getD, List.getElem?_eq_getElem this]; rfl)) (by decide +kernel)
    have hadd := addD_s (a := ⟨(nameL ns a k).toArray⟩) (b := ⟨#[A18.getD (drawZ ns (a + 1 + (0 + (k : Int))) 18).toNat 0]⟩) (by
      show (nameL ns a k).toArray.size + 1 ≤ sizeLine
      rw [sizeLine_v, List.size_toArray]
      simp only [nameL, List.length_map, List.length_range]; omega)
    simp only [S, List.set_cons_succ, List.set_cons_zero, sSet_ap, eOp_ap, eC_ap, eCall_ap, aCons_ap, aNil_ap, eVar_ap, List.getElem?_cons_zero, List.getElem?_cons_succ, getV_val, Rs.bind_ok, addD_i, hd, noEx_ok, hix, signD, hadd, Fl.of_ok, str_app]
    have e1 : nameL ns a k ++ [A18.getD (drawZ ns (a + 1 + (0 + (k : Int))) 18).toNat 0] = nameL ns a (k + 1) := by
      simp only [nameL, List.range_succ, List.map_append, List.map_cons, List.map_nil, nameC, Int.zero_add]
    rw [e1]
    simp
  unfold rngD
  rw [lp, thn_nx]
  simp only [S, sRet_ap, eVar_ap, List.getElem?_cons_zero, List.getElem?_cons_succ, getV_val, Fl.of_ok, flRes_rt]
  rfl
end Law

set_option Elab.async false
set_option linter.all false
namespace FD
open PySem PySem.Spec PyProof.Rows L2
theorem loop_inv {set : FG} {body : FS} (f : Nat → D) (I : Nat → DS → Prop) : ∀ (m j : Nat) (τ : DS), I j τ → (∀ k τ, j ≤ k → k < j + m → I k τ → ∃ τ1 τ2, set (f k) τ = .ok τ1 ∧ body τ1 = .nx τ2 ∧ I (k + 1) τ2) → ∃ τ', loopD set body ((List.range' j m).map f) τ = .nx τ' ∧ I (j + m) τ'
  | 0, j, τ, h, _ => ⟨τ, rfl, h⟩
  | m + 1, j, τ, h, hs => by
    obtain ⟨τ1, τ2, h1, h2, h3⟩ := hs j τ (Nat.le_refl _) (by omega) h
    obtain ⟨τ', h4, h5⟩ := loop_inv f I m (j + 1) τ2 h3 fun k τ hk hk2 => hs k τ (by omega) (by omega)
    refine ⟨τ', ?_, by rw [show j + (m + 1) = j + 1 + m by omega]; exact h5⟩
    rw [List.range'_succ, List.map_cons, loopD, h1, Fl.of_ok]
    simp only [h2, h4]
theorem loop_inv0 {set : FG} {body : FS} (f : Nat → D) (I : Nat → DS → Prop) (n : Nat) (τ : DS) (h0 : I 0 τ) (h : ∀ k τ, k < n → I k τ → ∃ τ1 τ2, set (f k) τ = .ok τ1 ∧ body τ1 = .nx τ2 ∧ I (k + 1) τ2) : ∃ τ', loopD set body ((List.range n).map f) τ = .nx τ' ∧ I n τ' := by
  obtain ⟨τ', h1, h2⟩ := loop_inv f I n 0 τ h0 fun k τ _ hk hi => h k τ (by omega) hi
  rw [Nat.zero_add] at h2
  exact ⟨τ', by rw [List.range_eq_range']; exact h1, h2⟩
end FD
namespace Law
open PySem PySem.Spec PyProof.Rows L2 FD
/-- a sign of a query that is drawn -/
def QS : List Nat := [97, 98, 99, 120, 121, 122, 65, 66, 49]
def MK : List Nat := [95, 45, 46, 47]
theorem mk_l : ("_-./" : Str).cps.toList = MK := by decide +kernel
theorem mark_ok (c : Nat) : m__law_mark [signD c] = .ok (.bl (decide (c ∈ MK))) := by
  have st : startD 1 [signD c] = [some (.val (signD c))] := rfl
  unfold m__law_mark b__law_mark
  rw [runF_ap, st]
  simp only [sRet_ap, eOp_ap, eVar_ap, eC_ap, List.getElem?_cons_zero, getV_val, Rs.bind_ok, signD, inD_s, strIn_one, mk_l, Fl.of_ok, flRes_rt]
theorem slice_ss (x : List Nat) {i j : Int} (h0 : 0 ≤ i) (h1 : i ≤ j) (h2 : j ≤ x.length) : Txt.slice (⟨x.toArray⟩ : Str) (some i) (some j) = ⟨((x.drop i.toNat).take (j - i).toNat).toArray⟩ := by
  have := slice_closesL (x := ⟨x.toArray⟩) (i := i) (j := j) h0 h1 (by show j ≤ ((x.toArray.size : Nat) : Int); simpa using h2)
  exact eq_of_beq this
theorem slice_one (x : List Nat) (p : Nat) (hp : p < x.length) : Txt.slice (⟨x.toArray⟩ : Str) (some (p : Int)) (some ((p : Int) + 1)) = ⟨#[x[p]]⟩ := by
  rw [slice_ss x (by omega) (by omega) (by omega)]
  have e1 : ((p : Int) + 1 - (p : Int)).toNat = 1 := by omega
  have e2 : ((p : Int)).toNat = p := by omega
  rw [e1, e2, List.drop_eq_getElem_cons hp]
  rfl
theorem lower_one (c : Nat) (h : c < 128) : Txt.lower (⟨#[c]⟩ : Str) = ⟨#[lo1 c]⟩ := by
  rw [lower_ascii (x := ⟨#[c]⟩) (by intro d hd; have e : d = c := (by simpa using hd); omega)]
  simp
def NS : List Nat := [97, 98, 99, 65, 66, 67, 49, 95, 45, 46, 47, 120, 121, 122]
theorem name_sign (ns : List Int) (a : Int) (k : Nat) (h : 0 ≤ a + 1 + k) : nameC ns a k ∈ NS := by
  have d := draw_lt ns (a + 1 + k) (m := 18) (by decide)
  have hall : ∀ n, n < 18 → A18.getD n 0 ∈ NS := by decide
  exact hall _ (by omega)
def S6 : List Nat := [97, 98, 65, 66, 49, 99]
theorem s6_l : ("abAB1c" : Str).cps.toList = S6 := by decide +kernel
theorem lo_sign : ∀ c ∈ NS, c < 128 ∧ (lo1 c ∈ QS ∨ lo1 c ∈ MK) := by decide
theorem s6_sign : ∀ n, n < 6 → S6.getD n 0 ∈ QS := by decide
end Law

set_option Elab.async false
set_option linter.all false
set_option maxHeartbeats 1000000
namespace Law
open PySem PySem.Spec PyProof.Rows L2 FD
def qBody : FS := (sSeq (sSet 5 (eBlt min2D (aCons (eOp subD (eBlt lenD (aCons (eVar 2) aNil)) (eC (.int 1))) (aCons (eOp addD (eVar 5) (eCall m__law_drawn (aCons (eVar 0) (aCons (eOp addD (eOp addD (eVar 1) (eC (.int 1))) (eOp mulD (eC (.int 3)) (eVar 6))) (aCons (eC (.int 3)) aNil))))) aNil))))
      (sSeq (sSet 7 (eMt0 "str" loD (eOr (eSl (eVar 2) (oSome (eVar 5)) (oSome (eOp addD (eVar 5) (eC (.int 1))))) (eC (.str "a")))))
      (sSeq (sSet 5 (eOp addD (eVar 5) (eC (.int 1))))
      (sSeq (sIf (FD.tB (eOp eqD (eCall m__law_drawn (aCons (eVar 0) (aCons (eOp addD (eOp addD (eVar 1) (eC (.int 2))) (eOp mulD (eC (.int 3)) (eVar 6))) (aCons (eC (.int 5)) aNil)))) (eC (.int 0)))) (sSet 7 (eOp ixD (eC (.str "abAB1c")) (eCall m__law_drawn (aCons (eVar 0) (aCons (eOp addD (eOp addD (eVar 1) (eC (.int 3))) (eOp mulD (eC (.int 3)) (eVar 6))) (aCons (eC (.int 6)) aNil)))))) sNext)
      (sIf (tNotD (tTru (eCall m__law_mark (aCons (eVar 7) aNil)))) (sSet 4 (eOp addD (eVar 4) (eVar 7))) sNext)))))
def qSt (ns : List Int) (a : Int) (x : List Nat) (most : Int) (q : List Nat) (p : Int) (s1 s2 : Option Sl) : DS :=
  [some (.val (.scr ns)), some (.val (.int a)), some (.val (.str ⟨x.toArray⟩)), some (.val (.int most)), some (.val (.str ⟨q.toArray⟩)), some (.val (.int p)), s1, s2]
theorem query_step (ns : List Int) (a : Int) (x : List Nat) (most : Int) (q : List Nat) (p : Int) (k : Nat) (s2 : Option Sl) (h63 : ns.length ≤ 63) (h0 : 0 ≤ a) (ha : a < 900000) (hk : k < 100) (hx0 : 0 < x.length) (hx1 : x.length ≤ 100) (hx : ∀ c ∈ x, c ∈ NS) (hq : q.length ≤ 100) (hqs : ∀ c ∈ q, c ∈ QS) (hp : 0 ≤ p) :
    ∃ q' p' s', qBody (qSt ns a x most q p (some (.val (.int (0 + k)))) s2) = .nx (qSt ns a x most q' p' (some (.val (.int (0 + k)))) s') ∧ q'.length ≤ q.length + 1 ∧ (∀ c ∈ q', c ∈ QS) ∧ 0 ≤ p' := by
  have hl : ((⟨x.toArray⟩ : Str).length : Int) = x.length := by show ((x.toArray.size : Nat) : Int) = _; simp
  have hsz : (⟨x.toArray⟩ : Str).length ≤ sizeLine := by rw [sizeLine_v]; show x.toArray.size ≤ _; simp; omega
  have m3 := mulD_i (i := 3) (j := 0 + (k : Int)) (.inl ⟨by decide, by decide⟩)
  have g1 := draw_ok ns (a + 1 + 3 * (0 + (k : Int))) 3 h63 (by omega) (by omega) (by decide)
  have g2 := draw_ok ns (a + 2 + 3 * (0 + (k : Int))) 5 h63 (by omega) (by omega) (by decide)
  have g3 := draw_ok ns (a + 3 + 3 * (0 + (k : Int))) 6 h63 (by omega) (by omega) (by decide)
  have b1 := draw_lt ns (a + 1 + 3 * (0 + (k : Int))) (m := 3) (by decide)
  have b3 := draw_lt ns (a + 3 + 3 * (0 + (k : Int))) (m := 6) (by decide)
  generalize drawZ ns (a + 1 + 3 * (0 + (k : Int))) 3 = e1 at *
  generalize drawZ ns (a + 2 + 3 * (0 + (k : Int))) 5 = e2 at *
  generalize drawZ ns (a + 3 + 3 * (0 + (k : Int))) 6 = e3 at *
  -- the place
  obtain ⟨n, hn, hmin⟩ : ∃ n : Nat, n < x.length ∧ (if p + e1 < (x.length : Int) - 1 then p + e1 else (x.length : Int) - 1) = (n : Int) := by
    by_cases h : p + e1 < (x.length : Int) - 1
    · exact ⟨(p + e1).toNat, by omega, by rw [if_pos h]; omega⟩
    · exact ⟨x.length - 1, by omega, by rw [if_neg h]; omega⟩
  have hmn : min2D [.int ((x.length : Int) - 1), .int (p + e1)] = .ok (.int n) := by
    simp only [min2D, int2]; rw [hmin]
  have hsl : slD (.str ⟨x.toArray⟩) (some (n : Int)) (some ((n : Int) + 1)) = .ok (.str ⟨#[x[n]]⟩) := by
    simp only [slD]
    rw [if_pos hsz, slice_one x n hn]
  have hxn := hx x[n] (List.getElem_mem hn)
  have hlo : loD (.str ⟨#[x[n]]⟩) [] = .ok (.str ⟨#[lo1 x[n]]⟩) := by
    simp only [loD]
    rw [if_pos (by show 1 ≤ 5000000; decide), lower_one _ (lo_sign _ hxn).1]
  have htr : truD (.str ⟨#[x[n]]⟩) = .ok true := by
    rw [truD_str (by rw [sizeLine_v]; show 1 ≤ _; decide)]; rfl
  have hix : ixD (.str "abAB1c") (.int e3) = .ok (signD (S6.getD e3.toNat 0)) := ixD_str (atI_of b3.1 (by
      rw [s6_l]
      have : e3.toNat < S6.length := by show e3.toNat < 6; omega
      rw [List.getD_eq_getElem?_getD, List.getElem?_eq_getElem this]; rfl)) (by decide +kernel)
  -- the sign
  have key : ∀ c : Nat, (c ∈ QS ∨ c ∈ MK) → ∃ q' s', (sIf (tNotD (tTru (eCall m__law_mark (aCons (eVar 7) aNil)))) (sSet 4 (eOp addD (eVar 4) (eVar 7))) sNext) (qSt ns a x most q ((n : Int) + 1) (some (.val (.int (0 + k)))) (some (.val (signD c)))) = .nx (qSt ns a x most q' ((n : Int) + 1) (some (.val (.int (0 + k)))) s') ∧ q'.length ≤ q.length + 1 ∧ ∀ c ∈ q', c ∈ QS := fun c hc => by
    have hadd := addD_s (a := ⟨q.toArray⟩) (b := ⟨#[c]⟩) (by
      show q.toArray.size + 1 ≤ sizeLine
      rw [sizeLine_v, List.size_toArray]; omega)
    simp only [qSt, sIf_ap, tNot_ap, tTru_ap, eCall_ap, aCons_ap, aNil_ap, eVar_ap, List.getElem?_cons_zero, List.getElem?_cons_succ, getV_val, Rs.bind_ok, mark_ok, noEx_ok, truD_bl, Fl.of_ok]
    by_cases hm : c ∈ MK
    · exact ⟨q, some (.val (signD c)), by simp only [hm, decide_true, Bool.not_true, Bool.false_eq_true, if_false, sNext_ap], by omega, hqs⟩
    · refine ⟨q ++ [c], some (.val (signD c)), by simp only [hm, decide_false, Bool.not_false, if_true, sSet_ap, eOp_ap, eVar_ap, List.getElem?_cons_zero, List.getElem?_cons_succ, getV_val, Rs.bind_ok, signD, hadd, Fl.of_ok, List.set_cons_succ, List.set_cons_zero, str_app], by simp, fun d hd => ?_⟩
      rcases List.mem_append.mp hd with h | h
      · exact hqs d h
      · have : d = c := by simpa using h
        subst this
        exact hc.resolve_right hm
  unfold qBody
  simp only [qSt, sSeq_ap, sSet_ap, eBlt_ap, aCons_ap, aNil_ap, eOp_ap, eVar_ap, eC_ap, eCall_ap, List.getElem?_cons_zero, List.getElem?_cons_succ, getV_val, Rs.bind_ok, lenD_str hsz, hl, subD_i, addD_i, m3, g1, noEx_ok, hmn, Fl.of_ok, List.set_cons_succ, List.set_cons_zero, thn_nx,
    eMt0_ap, eOr_ap, eSl_ap, oSome_ap, someInt_int, hsl, htr, if_true, isTy, decide_true, hlo, sIf_ap, tB_ap, g2, eqD_i, boolOf_bl]
  by_cases hz : e2 = 0
  · subst hz
    obtain ⟨q', s', h1, h2, h3⟩ := key (S6.getD e3.toNat 0) (.inl (s6_sign _ (by omega)))
    simp only [qSt] at h1
    refine ⟨q', (n : Int) + 1, s', ?_, h2, h3, by omega⟩
    simp only [beq_self_eq_true, if_true, g3, noEx_ok, Rs.bind_ok, hix, Fl.of_ok, List.set_cons_succ, List.set_cons_zero, thn_nx]
    exact h1
  · obtain ⟨q', s', h1, h2, h3⟩ := key (lo1 x[n]) (lo_sign _ hxn).2
    simp only [qSt] at h1
    refine ⟨q', (n : Int) + 1, s', ?_, h2, h3, by omega⟩
    have hb : (e2 == 0) = false := by simpa using hz
    simp only [hb, Bool.false_eq_true, if_false, sNext_ap, thn_nx]
    exact h1
theorem query_ok (ns : List Int) (a : Int) (x : List Nat) (most : Int) (h63 : ns.length ≤ 63) (h0 : 0 ≤ a) (ha : a < 900000) (hm0 : 0 ≤ most) (hm1 : most < 50) (hx0 : 0 < x.length) (hx1 : x.length ≤ 100) (hx : ∀ c ∈ x, c ∈ NS) :
    ∃ q : List Nat, (q.length : Int) ≤ most ∧ (∀ c ∈ q, c ∈ QS) ∧ m__law_query [.scr ns, .int a, .str ⟨x.toArray⟩, .int most] = .ok (.str ⟨q.toArray⟩) := by
  have st : startD 8 [D.scr ns, .int a, .str ⟨x.toArray⟩, .int most] = [some (.val (.scr ns)), some (.val (.int a)), some (.val (.str ⟨x.toArray⟩)), some (.val (.int most)), none, none, none, none] := rfl
  have dl := draw_lt ns a (m := most + 1) (by omega)
  have dk := draw_ok ns a (most + 1) h63 h0 (by omega) (by omega)
  generalize hN : drawZ ns a (most + 1) = N at *
  have r1 := rg1_ok (fs := aCons (eCall m__law_drawn (aCons (eVar 0) (aCons (eVar 1) (aCons (eOp addD (eVar 3) (eC (.int 1))) aNil)))) aNil) (τ := qSt ns a x most [] 0 none none) (j := N)
    (by simp only [qSt, aCons_ap, aNil_ap, eOp_ap, eC_ap, eCall_ap, eVar_ap, List.getElem?_cons_zero, List.getElem?_cons_succ, getV_val, Rs.bind_ok, addD_i, dk, noEx_ok]) (by omega) (by omega)
  obtain ⟨τ', l1, q, p, s1, s2, rfl, l2, l3, l4⟩ := loop_inv0 (set := gNm 6) (body := qBody) (fun (k : Nat) => D.int (0 + k)) (fun k τ => ∃ q p s1 s2, τ = qSt ns a x most q p s1 s2 ∧ q.length ≤ k ∧ (∀ c ∈ q, c ∈ QS) ∧ 0 ≤ p) N.toNat (qSt ns a x most [] 0 none none)
    ⟨[], 0, none, none, rfl, Nat.le_refl _, (fun _ h => nomatch h), Int.le_refl _⟩ fun k τ hk ⟨q, p, s1, s2, e, h1, h2, h3⟩ => by
      subst e
      obtain ⟨q', p', s', g1, g2, g3, g4⟩ := query_step ns a x most q p k s2 h63 h0 ha (by omega) hx0 hx1 hx (by omega) h2 h3
      exact ⟨_, _, gNm_ap, g1, q', p', _, s', rfl, by omega, g3, g4⟩
  refine ⟨q, by omega, l3, ?_⟩
  have s0 : qSt ns a x most [] 0 none none = [some (.val (.scr ns)), some (.val (.int a)), some (.val (.str ⟨x.toArray⟩)), some (.val (.int most)), some (.val (.str "")), some (.val (.int 0)), none, none] := rfl
  unfold m__law_query b__law_query
  rw [runF_ap, st, sSeq_ap, sSet_ap, eC_ap, Fl.of_ok, thn_nx, sSeq_ap, sSet_ap, eC_ap, Fl.of_ok, thn_nx, sSeq_ap, sFor_ap]
  simp only [List.set_cons_succ, List.set_cons_zero]
  rw [← s0, r1, Fl.of_ok]
  unfold rngD
  have l1' : loopD (gNm 6) qBody ((List.range N.toNat).map fun (k : Nat) => D.int (0 + k)) (qSt ns a x most [] 0 none none) = .nx (qSt ns a x most q p s1 s2) := l1
  unfold qBody at l1'
  rw [l1', thn_nx]
  simp only [qSt, sRet_ap, eVar_ap, List.getElem?_cons_zero, List.getElem?_cons_succ, getV_val, Fl.of_ok, flRes_rt]
end Law

set_option Elab.async false
set_option linter.all false
set_option maxHeartbeats 1000000
namespace Law
open PySem PySem.Spec PyProof.Rows L2 FD
/-- a sign of a query meets one of a name -/
def meetC (c d : Nat) : Bool := c == d || (decide (97 ≤ c ∧ c ≤ 122) && up1 c == d)
theorem small_l : ("abcdefghijklmnopqrstuvwxyz" : Str).cps.toList = (List.range 26).map (· + 97) := by decide +kernel
theorem small_mem (c : Nat) : decide (c ∈ ("abcdefghijklmnopqrstuvwxyz" : Str).cps.toList) = decide (97 ≤ c ∧ c ≤ 122) := by
  rw [small_l]
  apply decide_eq_decide.mpr
  rw [List.mem_map]
  constructor
  · rintro ⟨i, hi, rfl⟩
    have := List.mem_range.mp hi
    omega
  · intro h
    exact ⟨c - 97, List.mem_range.mpr (by omega), by omega⟩
theorem upper_one (c : Nat) (h : c < 128) : Txt.upper (⟨#[c]⟩ : Str) = ⟨#[up1 c]⟩ := by
  rw [upper_ascii (x := ⟨#[c]⟩) (by intro d hd; have e : d = c := (by simpa using hd); omega)]
  simp
theorem one_eq (c d : Nat) : ((⟨#[c]⟩ : Str) == ⟨#[d]⟩) = (c == d) := by
  rw [Bool.eq_iff_iff]
  simp
theorem meets_ok (c d : Nat) (hc : c < 128) : m_meets [signD c, signD d] = .ok (.bl (meetC c d)) := by
  have st : startD 2 [signD c, signD d] = [some (.val (signD c)), some (.val (signD d))] := rfl
  have hup : upD (.str ⟨#[c]⟩) [] = .ok (.str ⟨#[up1 c]⟩) := by
    simp only [upD]
    rw [if_pos (by show 1 ≤ 5000000; decide), upper_one _ hc]
  unfold m_meets b_meets
  rw [runF_ap, st]
  simp only [sRet_ap, eOr_ap, eAnd_ap, eOp_ap, eVar_ap, eC_ap, eMt0_ap, List.getElem?_cons_zero, List.getElem?_cons_succ, getV_val, Rs.bind_ok, signD, eqD_s, one_eq, truD_bl, inD_s, strIn_one, small_mem, isTy, decide_true, if_true, hup]
  unfold meetC
  by_cases h : c = d
  · subst h; simp
  · have hb : (c == d) = false := by simpa using h
    simp only [hb, Bool.false_eq_true, if_false, Bool.false_or]
    by_cases h2 : 97 ≤ c ∧ c ≤ 122
    · simp [h2]
    · simp [h2]
end Law

set_option Elab.async false
set_option linter.all false
set_option maxHeartbeats 1000000
namespace FD
open PySem PySem.Spec PyProof.Rows L2
section
variable {τ : DS} {fa fb fe fi : FE} {fs : FA} {n : Nat} {i : Int}
theorem eLenO_ap : eLenO n τ = (getO τ[n]?).bind fun ds => .ok (.int ds.length) := rfl
theorem sApp_ap : sApp n fe τ = Fl.of (getO τ[n]?) fun ds => Fl.of (fe τ) fun d => if ds.length < sizeLine then .nx (τ.set n (some (.own (ds ++ [d])))) else .no := rfl
theorem iAny_ap : iAny fe τ = (fe τ).bind iterD := rfl
@[simp] theorem iter_str {x : Str} : iterD (.str x) = .ok (signsD x) := rfl
@[simp] theorem iter_lst {ds : List D} : iterD (.lst ds) = .ok ds := rfl
def putAt (n : Nat) (ds : List D) (d : D) (τ : DS) : D → Fl
  | .int k => match ixN ds.length k with
    | some j => .nx (τ.set n (some (.own (ds.set j d))))
    | none => .no
  | _ => .no
theorem sPut_ap : sPut n fi fe τ = Fl.of (fe τ) fun d => Fl.of (getO τ[n]?) fun ds => Fl.of (fi τ) (putAt n ds d τ) := by
  unfold sPut ownAt
  cases fe τ <;> rfl
theorem putAt_ok {ds : List D} {d : D} {j : Nat} (h : j < ds.length) : putAt n ds d τ (.int j) = .nx (τ.set n (some (.own (ds.set j d)))) := by
  have : ixN ds.length (j : Int) = some j := by
    unfold ixN
    rw [if_pos (by omega), if_pos (by omega)]
    simp
  simp only [putAt, this]
def ixO (ds : List D) : D → Rs D
  | .int k => match atI ds k with
    | some d => .ok d
    | none => .no
  | _ => .no
theorem eIxO_ap : eIxO n fi τ = (getO τ[n]?).bind fun ds => (fi τ).bind (ixO ds) := by
  unfold eIxO
  show (getO τ[n]?).bind _ = _
  cases getO τ[n]? <;> rfl
theorem ixO_ok {ds : List D} {d : D} {j : Nat} (h : ds[j]? = some d) : ixO ds (.int j) = .ok d := by
  simp only [ixO, atI_of (k := (j : Int)) (by omega) (show ds[((j : Int)).toNat]? = some d by simpa using h)]
def catD (x y : D) : Rs (List D) := match lst2 x y with
  | some (i, j) => if i.length + j.length ≤ sizeLine then .ok (i ++ j) else .no
  | none => .no
theorem eCat_ap : eCat fa fb τ = (fa τ).bind fun x => (fb τ).bind fun y => catD x y := rfl
end
theorem loop_rel {α β : Type} {set : FG} {body : FS} (f : α → D) (R : β → DS → Prop) (step : β → α → β) : ∀ (xs : List α) (b : β) (τ : DS), R b τ → (∀ a ∈ xs, ∀ b τ, R b τ → ∃ τ1 τ2, set (f a) τ = .ok τ1 ∧ body τ1 = .nx τ2 ∧ R (step b a) τ2) → ∃ τ', loopD set body (xs.map f) τ = .nx τ' ∧ R (xs.foldl step b) τ'
  | [], b, τ, h, _ => ⟨τ, rfl, h⟩
  | x :: xs, b, τ, h, hs => by
    obtain ⟨τ1, τ2, h1, h2, h3⟩ := hs x (List.mem_cons_self ..) b τ h
    obtain ⟨τ', h4, h5⟩ := loop_rel f R step xs (step b x) τ2 h3 fun a ha => hs a (List.mem_cons_of_mem _ ha)
    refine ⟨τ', ?_, h5⟩
    rw [List.map_cons, loopD, h1, Fl.of_ok]
    simp only [h2, h4]
end FD
namespace Law
open PySem PySem.Spec PyProof.Rows L2 FD
abbrev tx (x : List Nat) : D := .str ⟨x.toArray⟩
abbrev nts (x : List Nat) : D := .lst (x.map fun (k : Nat) => D.int k)
theorem tx_len (x : List Nat) (h : x.length ≤ 1000) : lenD [tx x] = .ok (.int x.length) := by
  rw [lenD_str (by rw [sizeLine_v]; show x.toArray.size ≤ _; simp; omega)]
  show Rs.ok (D.int ((x.toArray.size : Nat) : Int)) = _
  simp
theorem tx_ix (x : List Nat) (j : Nat) (c : Nat) (h : x[j]? = some c) (hl : x.length ≤ 1000) : ixD (tx x) (.int j) = .ok (signD c) := by
  refine ixD_str (atI_of (by omega) (by simpa using h)) (by rw [sizeLine_v]; show x.toArray.size ≤ _; simp; omega)
theorem tx_signs (x : List Nat) : signsD ⟨x.toArray⟩ = x.map signD := by simp [signsD]
/-- earliest places, from a place on -/
def epR : List Nat → List Nat → Nat → List Nat
  | [], _, _ => []
  | _ :: _, [], _ => []
  | a :: q, c :: x, k => if meetC a c = true then k :: epR q x (k + 1) else epR (a :: q) x (k + 1)
def epBody : FS := (sIf (tAndD (FD.tB (eOp ltI (eLenO 2) (eBlt lenD (aCons (eVar 0) aNil)))) (tTru (eCall m_meets (aCons (eOp ixD (eVar 0) (eLenO 2)) (aCons (eOp ixD (eVar 1) (eVar 3)) aNil))))) (sApp 2 (eVar 3)) sNext)
theorem ep_loop (q x : List Nat) (hq : q.length ≤ 1000) (hx : x.length ≤ 1000) (ha : ∀ c ∈ q, c < 128) : ∀ (m k : Nat) (b : List Nat) (s : Option Sl), k + m = x.length → b.length ≤ k →
    ∃ s', loopD (gNm 3) epBody ((List.range' k m).map fun (k : Nat) => D.int (0 + k)) [some (.val (tx q)), some (.val (tx x)), some (.own (b.map fun (k : Nat) => D.int k)), s]
      = .nx [some (.val (tx q)), some (.val (tx x)), some (.own ((b ++ epR (q.drop b.length) (x.drop k) k).map fun (k : Nat) => D.int k)), s']
  | 0, k, b, s, h, hb => by
    have : x.drop k = [] := List.drop_eq_nil_of_le (by omega)
    rw [this]
    have e : epR (q.drop b.length) [] k = [] := by cases q.drop b.length <;> rfl
    rw [e, List.append_nil]
    exact ⟨s, rfl⟩
  | m + 1, k, b, s, h, hb => by
    have hk : k < x.length := by omega
    have hxk := tx_ix x k x[k] (List.getElem?_eq_getElem hk) hx
    rw [List.range'_succ, List.map_cons, loopD, gNm_ap, Fl.of_ok, List.drop_eq_getElem_cons hk]
    simp only [List.set_cons_succ, List.set_cons_zero, Int.zero_add]
    have ih := fun b' s' h' => ep_loop q x hq hx ha m (k + 1) b' s' (by omega) h'
    simp only [Int.zero_add] at ih
    by_cases hl : b.length < q.length
    · have hqb := tx_ix q b.length q[b.length] (List.getElem?_eq_getElem hl) hq
      have hbz : b.length < sizeLine := by rw [sizeLine_v]; omega
      have hmt := meets_ok q[b.length] x[k] (ha _ (List.getElem_mem hl))
      rw [List.drop_eq_getElem_cons hl]
      by_cases hm : meetC q[b.length] x[k] = true
      · obtain ⟨s', e⟩ := ih (b ++ [k]) (some (.val (.int k))) (by simp; omega)
        refine ⟨s', ?_⟩
        have : epBody [some (.val (tx q)), some (.val (tx x)), some (.own (b.map fun (k : Nat) => D.int k)), some (.val (.int k))] = .nx [some (.val (tx q)), some (.val (tx x)), some (.own ((b ++ [k]).map fun (k : Nat) => D.int k)), some (.val (.int k))] := by
          unfold epBody
          simp only [sSeq_ap, sSet_ap, sSetO_ap, sIf_ap, sRet_ap, sRetO_ap, ownAt_ap, sNext_ap, sFor_ap, sApp_ap, sPut_ap, eIxO_ap, eCat_ap, eLenO_ap, iAny_ap, iter_str, iter_lst, tB_ap, tTru_ap, tAnd_ap, tOr_ap, tNot_ap, eOp_ap, eVar_ap, eC_ap, aNil_ap, aCons_ap, eCall_ap, eBlt_ap, eIf_ap, eAnd_ap, eOr_ap, eNot_ap, eMt0_ap, eMt_ap, eSl_ap, oNone_ap, oSome_ap, someInt_int, List.getElem?_cons_zero, List.getElem?_cons_succ, List.set_cons_succ, List.set_cons_zero, getV_val, getO_own, Rs.bind_ok, Fl.of_ok, thn_nx, thn_rt, flRes_rt, noEx_ok, boolOf_bl, truD_bl, addD_i, subD_i, ltI_i, leD_i, gtD_i, geD_i, eqD_i, eqD_s, neD_i, neD_s, lenD_lst, gNm_ap, if_true, Bool.false_eq_true, if_false, Bool.not_true, Bool.not_false, List.length_map, tx_len q hq, Int.ofNat_lt, hl, decide_true, hqb, hxk, hmt, hm, hbz, List.map_append, List.map_cons, List.map_nil]
        simp only [this]
        rw [e]
        simp only [epR, hm, if_true, List.append_assoc, List.cons_append, List.nil_append, List.length_append, List.length_cons, List.length_nil, Nat.zero_add]
      · obtain ⟨s', e⟩ := ih b (some (.val (.int k))) (by omega)
        refine ⟨s', ?_⟩
        have hm' : meetC q[b.length] x[k] = false := by simpa using hm
        have : epBody [some (.val (tx q)), some (.val (tx x)), some (.own (b.map fun (k : Nat) => D.int k)), some (.val (.int k))] = .nx [some (.val (tx q)), some (.val (tx x)), some (.own (b.map fun (k : Nat) => D.int k)), some (.val (.int k))] := by
          unfold epBody
          simp only [sSeq_ap, sSet_ap, sSetO_ap, sIf_ap, sRet_ap, sRetO_ap, ownAt_ap, sNext_ap, sFor_ap, sApp_ap, sPut_ap, eIxO_ap, eCat_ap, eLenO_ap, iAny_ap, iter_str, iter_lst, tB_ap, tTru_ap, tAnd_ap, tOr_ap, tNot_ap, eOp_ap, eVar_ap, eC_ap, aNil_ap, aCons_ap, eCall_ap, eBlt_ap, eIf_ap, eAnd_ap, eOr_ap, eNot_ap, eMt0_ap, eMt_ap, eSl_ap, oNone_ap, oSome_ap, someInt_int, List.getElem?_cons_zero, List.getElem?_cons_succ, List.set_cons_succ, List.set_cons_zero, getV_val, getO_own, Rs.bind_ok, Fl.of_ok, thn_nx, thn_rt, flRes_rt, noEx_ok, boolOf_bl, truD_bl, addD_i, subD_i, ltI_i, leD_i, gtD_i, geD_i, eqD_i, eqD_s, neD_i, neD_s, lenD_lst, gNm_ap, if_true, Bool.false_eq_true, if_false, Bool.not_true, Bool.not_false, List.length_map, tx_len q hq, Int.ofNat_lt, hl, decide_true, hqb, hxk, hmt, hm']
        simp only [this]
        rw [e, List.drop_eq_getElem_cons hl]
        simp only [epR, hm', Bool.false_eq_true, if_false]
    · obtain ⟨s', e⟩ := ih b (some (.val (.int k))) (by omega)
      refine ⟨s', ?_⟩
      have : epBody [some (.val (tx q)), some (.val (tx x)), some (.own (b.map fun (k : Nat) => D.int k)), some (.val (.int k))] = .nx [some (.val (tx q)), some (.val (tx x)), some (.own (b.map fun (k : Nat) => D.int k)), some (.val (.int k))] := by
        unfold epBody
        simp only [sSeq_ap, sSet_ap, sSetO_ap, sIf_ap, sRet_ap, sRetO_ap, ownAt_ap, sNext_ap, sFor_ap, sApp_ap, sPut_ap, eIxO_ap, eCat_ap, eLenO_ap, iAny_ap, iter_str, iter_lst, tB_ap, tTru_ap, tAnd_ap, tOr_ap, tNot_ap, eOp_ap, eVar_ap, eC_ap, aNil_ap, aCons_ap, eCall_ap, eBlt_ap, eIf_ap, eAnd_ap, eOr_ap, eNot_ap, eMt0_ap, eMt_ap, eSl_ap, oNone_ap, oSome_ap, someInt_int, List.getElem?_cons_zero, List.getElem?_cons_succ, List.set_cons_succ, List.set_cons_zero, getV_val, getO_own, Rs.bind_ok, Fl.of_ok, thn_nx, thn_rt, flRes_rt, noEx_ok, boolOf_bl, truD_bl, addD_i, subD_i, ltI_i, leD_i, gtD_i, geD_i, eqD_i, eqD_s, neD_i, neD_s, lenD_lst, gNm_ap, if_true, Bool.false_eq_true, if_false, Bool.not_true, Bool.not_false, List.length_map, tx_len q hq, Int.ofNat_lt, hl, decide_false]
      simp only [this]
      rw [e, List.drop_eq_nil_of_le (by omega : q.length ≤ b.length)]
      simp only [epR]
theorem ep_ok (q x : List Nat) (hq : q.length ≤ 1000) (hx : x.length ≤ 1000) (ha : ∀ c ∈ q, c < 128) : m_earliest_places [tx q, tx x] = .ok (nts (epR q x 0)) := by
  have st : startD 4 [tx q, tx x] = [some (.val (tx q)), some (.val (tx x)), none, none] := rfl
  obtain ⟨s', e⟩ := ep_loop q x hq hx ha x.length 0 [] none (by omega) (Nat.le_refl _)
  unfold epBody at e
  have r1 := rg1_ok (fs := aCons (eBlt lenD (aCons (eVar 1) aNil)) aNil) (τ := [some (.val (tx q)), some (.val (tx x)), some (.own []), none]) (j := x.length) (by simp only [sSeq_ap, sSet_ap, sSetO_ap, sIf_ap, sRet_ap, sRetO_ap, ownAt_ap, sNext_ap, sFor_ap, sApp_ap, sPut_ap, eIxO_ap, eCat_ap, eLenO_ap, iAny_ap, iter_str, iter_lst, tB_ap, tTru_ap, tAnd_ap, tOr_ap, tNot_ap, eOp_ap, eVar_ap, eC_ap, aNil_ap, aCons_ap, eCall_ap, eBlt_ap, eIf_ap, eAnd_ap, eOr_ap, eNot_ap, eMt0_ap, eMt_ap, eSl_ap, oNone_ap, oSome_ap, someInt_int, List.getElem?_cons_zero, List.getElem?_cons_succ, List.set_cons_succ, List.set_cons_zero, getV_val, getO_own, Rs.bind_ok, Fl.of_ok, thn_nx, thn_rt, flRes_rt, noEx_ok, boolOf_bl, truD_bl, addD_i, subD_i, ltI_i, leD_i, gtD_i, geD_i, eqD_i, eqD_s, neD_i, neD_s, lenD_lst, gNm_ap, if_true, Bool.false_eq_true, if_false, Bool.not_true, Bool.not_false, tx_len x hx]) (by omega) (by omega)
  unfold m_earliest_places b_earliest_places
  rw [runF_ap, st]
  simp only [sSeq_ap, sSet_ap, sSetO_ap, sIf_ap, sRet_ap, sRetO_ap, ownAt_ap, sNext_ap, sFor_ap, sApp_ap, sPut_ap, eIxO_ap, eCat_ap, eLenO_ap, iAny_ap, iter_str, iter_lst, tB_ap, tTru_ap, tAnd_ap, tOr_ap, tNot_ap, eOp_ap, eVar_ap, eC_ap, aNil_ap, aCons_ap, eCall_ap, eBlt_ap, eIf_ap, eAnd_ap, eOr_ap, eNot_ap, eMt0_ap, eMt_ap, eSl_ap, oNone_ap, oSome_ap, someInt_int, List.getElem?_cons_zero, List.getElem?_cons_succ, List.set_cons_succ, List.set_cons_zero, getV_val, getO_own, Rs.bind_ok, Fl.of_ok, thn_nx, thn_rt, flRes_rt, noEx_ok, boolOf_bl, truD_bl, addD_i, subD_i, ltI_i, leD_i, gtD_i, geD_i, eqD_i, eqD_s, neD_i, neD_s, lenD_lst, gNm_ap, if_true, Bool.false_eq_true, if_false, Bool.not_true, Bool.not_false, List.length_nil, Nat.zero_le, r1, rngD, Int.toNat_natCast]
  rw [List.range_eq_range']
  rw [show ([] : List D) = ([] : List Nat).map fun (k : Nat) => D.int k from rfl, e]
  simp only [sSeq_ap, sSet_ap, sSetO_ap, sIf_ap, sRet_ap, sRetO_ap, ownAt_ap, sNext_ap, sFor_ap, sApp_ap, sPut_ap, eIxO_ap, eCat_ap, eLenO_ap, iAny_ap, iter_str, iter_lst, tB_ap, tTru_ap, tAnd_ap, tOr_ap, tNot_ap, eOp_ap, eVar_ap, eC_ap, aNil_ap, aCons_ap, eCall_ap, eBlt_ap, eIf_ap, eAnd_ap, eOr_ap, eNot_ap, eMt0_ap, eMt_ap, eSl_ap, oNone_ap, oSome_ap, someInt_int, List.getElem?_cons_zero, List.getElem?_cons_succ, List.set_cons_succ, List.set_cons_zero, getV_val, getO_own, Rs.bind_ok, Fl.of_ok, thn_nx, thn_rt, flRes_rt, noEx_ok, boolOf_bl, truD_bl, addD_i, subD_i, ltI_i, leD_i, gtD_i, geD_i, eqD_i, eqD_s, neD_i, neD_s, lenD_lst, gNm_ap, if_true, Bool.false_eq_true, if_false, Bool.not_true, Bool.not_false, List.nil_append, List.length_nil, List.drop_zero]
theorem epR_len : ∀ (q x : List Nat) (k : Nat), (epR q x k).length ≤ q.length
  | [], x, k => by simp [epR]
  | a :: q, [], k => by simp [epR]
  | a :: q, c :: x, k => by
    simp only [epR]
    split
    · have := epR_len q x (k + 1); simp; omega
    · exact epR_len (a :: q) x (k + 1)
def subs : List Nat → List Nat → Bool
  | [], _ => true
  | _ :: _, [] => false
  | a :: q, c :: x => if meetC a c = true then subs q x else subs (a :: q) x
theorem epR_subs : ∀ (q x : List Nat) (k : Nat), ((epR q x k).length = q.length) ↔ subs q x = true
  | [], x, k => by simp [epR, subs]
  | a :: q, [], k => by simp [epR, subs]
  | a :: q, c :: x, k => by
    simp only [epR, subs]
    split
    · simpa using epR_subs q x (k + 1)
    · exact epR_subs (a :: q) x (k + 1)
theorem fits_ok (q x : List Nat) (hq : q.length ≤ 1000) (hx : x.length ≤ 1000) (ha : ∀ c ∈ q, c < 128) : m_fits [tx q, tx x] = .ok (.bl (subs q x)) := by
  have st : startD 2 [tx q, tx x] = [some (.val (tx q)), some (.val (tx x))] := rfl
  unfold m_fits b_fits
  rw [runF_ap, st]
  simp only [sSeq_ap, sSet_ap, sSetO_ap, sIf_ap, sRet_ap, sRetO_ap, ownAt_ap, sNext_ap, sFor_ap, sApp_ap, sPut_ap, eIxO_ap, eCat_ap, eLenO_ap, iAny_ap, iter_str, iter_lst, tB_ap, tTru_ap, tAnd_ap, tOr_ap, tNot_ap, eOp_ap, eVar_ap, eC_ap, aNil_ap, aCons_ap, eCall_ap, eBlt_ap, eIf_ap, eAnd_ap, eOr_ap, eNot_ap, eMt0_ap, eMt_ap, eSl_ap, oNone_ap, oSome_ap, someInt_int, List.getElem?_cons_zero, List.getElem?_cons_succ, List.set_cons_succ, List.set_cons_zero, getV_val, getO_own, Rs.bind_ok, Fl.of_ok, thn_nx, thn_rt, flRes_rt, noEx_ok, boolOf_bl, truD_bl, addD_i, subD_i, ltI_i, leD_i, gtD_i, geD_i, eqD_i, eqD_s, neD_i, neD_s, lenD_lst, gNm_ap, if_true, Bool.false_eq_true, if_false, Bool.not_true, Bool.not_false, ep_ok q x hq hx ha, tx_len q hq, List.length_map]
  congr 2
  rw [Bool.eq_iff_iff, ← epR_subs q x 0, beq_iff_eq]
  omega
end Law

set_option Elab.async false
set_option linter.all false
set_option maxHeartbeats 1000000
namespace Law
open PySem PySem.Spec PyProof.Rows L2 FD
abbrev its (x : List Int) : D := .lst (x.map D.int)
theorem nts_its (x : List Nat) : nts x = its (x.map fun (k : Nat) => (k : Int)) := by simp [nts, its]
theorem whole_ok (i : Int) : m_is_whole [.int i] = .ok (.bl true) := by
  have st : startD 1 [D.int i] = [some (.val (.int i))] := rfl
  unfold m_is_whole b_is_whole
  rw [runF_ap, st]
  simp only [sSeq_ap, sSet_ap, sSetO_ap, sIf_ap, sRet_ap, sRetO_ap, ownAt_ap, sNext_ap, sFor_ap, sApp_ap, sPut_ap, eIxO_ap, eCat_ap, eLenO_ap, iAny_ap, iter_str, iter_lst, tB_ap, tTru_ap, tAnd_ap, tOr_ap, tNot_ap, eOp_ap, eVar_ap, eC_ap, aNil_ap, aCons_ap, eCall_ap, eBlt_ap, eIf_ap, eAnd_ap, eOr_ap, eNot_ap, eMt0_ap, eMt_ap, eSl_ap, oNone_ap, oSome_ap, someInt_int, List.getElem?_cons_zero, List.getElem?_cons_succ, List.set_cons_succ, List.set_cons_zero, getV_val, getO_own, Rs.bind_ok, Fl.of_ok, thn_nx, thn_rt, flRes_rt, noEx_ok, boolOf_bl, truD_bl, addD_i, subD_i, ltI_i, leD_i, gtD_i, geD_i, eqD_i, eqD_s, neD_i, neD_s, lenD_lst, gNm_ap, if_true, Bool.false_eq_true, if_false, Bool.not_true, Bool.not_false, show isiD [.int i, .raw (.ty "int")] = .ok (.bl true) from rfl, show isiD [.int i, .raw (.ty "bool")] = .ok (.bl false) from rfl]
def risI (n : Int) : Int → List Int → Bool
  | _, [] => true
  | a, t :: r => if t < a ∨ n ≤ t then false else risI n (t + 1) r
def riBody : FS := (sSeq (sIf (tNotD (tTru (eCall m_is_whole (aCons (eVar 3) aNil)))) (sRet (eC (.bl false))) sNext)
      (sSeq (sIf (tOrD (FD.tB (eOp ltI (eVar 3) (eVar 2))) (FD.tB (eOp geD (eVar 3) (eBlt lenD (aCons (eVar 0) aNil))))) (sRet (eC (.bl false))) sNext)
      (sSet 2 (eOp addD (eVar 3) (eC (.int 1))))))
theorem ri_loop (x : List Nat) (hx : x.length ≤ 1000) (z : D) : ∀ (l : List Int) (a : Int) (s : Option Sl),
    (risI x.length a l = false ∧ loopD (gNm 3) riBody (l.map D.int) [some (.val (tx x)), some (.val z), some (.val (.int a)), s] = .rt (.bl false)) ∨
    (risI x.length a l = true ∧ ∃ τ', loopD (gNm 3) riBody (l.map D.int) [some (.val (tx x)), some (.val z), some (.val (.int a)), s] = .nx τ')
  | [], a, s => .inr ⟨rfl, _, rfl⟩
  | t :: r, a, s => by
    by_cases h : t < a ∨ (x.length : Int) ≤ t
    · refine .inl ⟨by simp [risI, h], ?_⟩
      rw [List.map_cons, loopD, gNm_ap, Fl.of_ok]
      have : riBody [some (.val (tx x)), some (.val z), some (.val (.int a)), some (.val (.int t))] = .rt (.bl false) := by
        unfold riBody
        simp only [sSeq_ap, sSet_ap, sSetO_ap, sIf_ap, sRet_ap, sRetO_ap, ownAt_ap, sNext_ap, sFor_ap, sApp_ap, sPut_ap, eIxO_ap, eCat_ap, eLenO_ap, iAny_ap, iter_str, iter_lst, tB_ap, tTru_ap, tAnd_ap, tOr_ap, tNot_ap, eOp_ap, eVar_ap, eC_ap, aNil_ap, aCons_ap, eCall_ap, eBlt_ap, eIf_ap, eAnd_ap, eOr_ap, eNot_ap, eMt0_ap, eMt_ap, eSl_ap, oNone_ap, oSome_ap, someInt_int, List.getElem?_cons_zero, List.getElem?_cons_succ, List.set_cons_succ, List.set_cons_zero, getV_val, getO_own, Rs.bind_ok, Fl.of_ok, thn_nx, thn_rt, flRes_rt, noEx_ok, boolOf_bl, truD_bl, addD_i, subD_i, ltI_i, leD_i, gtD_i, geD_i, eqD_i, eqD_s, neD_i, neD_s, lenD_lst, gNm_ap, if_true, Bool.false_eq_true, if_false, Bool.not_true, Bool.not_false, whole_ok, tx_len x hx]
        by_cases h1 : t < a
        · simp only [sSeq_ap, sSet_ap, sSetO_ap, sIf_ap, sRet_ap, sRetO_ap, ownAt_ap, sNext_ap, sFor_ap, sApp_ap, sPut_ap, eIxO_ap, eCat_ap, eLenO_ap, iAny_ap, iter_str, iter_lst, tB_ap, tTru_ap, tAnd_ap, tOr_ap, tNot_ap, eOp_ap, eVar_ap, eC_ap, aNil_ap, aCons_ap, eCall_ap, eBlt_ap, eIf_ap, eAnd_ap, eOr_ap, eNot_ap, eMt0_ap, eMt_ap, eSl_ap, oNone_ap, oSome_ap, someInt_int, List.getElem?_cons_zero, List.getElem?_cons_succ, List.set_cons_succ, List.set_cons_zero, getV_val, getO_own, Rs.bind_ok, Fl.of_ok, thn_nx, thn_rt, flRes_rt, noEx_ok, boolOf_bl, truD_bl, addD_i, subD_i, ltI_i, leD_i, gtD_i, geD_i, eqD_i, eqD_s, neD_i, neD_s, lenD_lst, gNm_ap, if_true, Bool.false_eq_true, if_false, Bool.not_true, Bool.not_false, h1, decide_true]
        · have h2 := h.resolve_left h1
          simp only [sSeq_ap, sSet_ap, sSetO_ap, sIf_ap, sRet_ap, sRetO_ap, ownAt_ap, sNext_ap, sFor_ap, sApp_ap, sPut_ap, eIxO_ap, eCat_ap, eLenO_ap, iAny_ap, iter_str, iter_lst, tB_ap, tTru_ap, tAnd_ap, tOr_ap, tNot_ap, eOp_ap, eVar_ap, eC_ap, aNil_ap, aCons_ap, eCall_ap, eBlt_ap, eIf_ap, eAnd_ap, eOr_ap, eNot_ap, eMt0_ap, eMt_ap, eSl_ap, oNone_ap, oSome_ap, someInt_int, List.getElem?_cons_zero, List.getElem?_cons_succ, List.set_cons_succ, List.set_cons_zero, getV_val, getO_own, Rs.bind_ok, Fl.of_ok, thn_nx, thn_rt, flRes_rt, noEx_ok, boolOf_bl, truD_bl, addD_i, subD_i, ltI_i, leD_i, gtD_i, geD_i, eqD_i, eqD_s, neD_i, neD_s, lenD_lst, gNm_ap, if_true, Bool.false_eq_true, if_false, Bool.not_true, Bool.not_false, h1, decide_false, h2, decide_true]
      simp only [List.set_cons_succ, List.set_cons_zero, this]
    · have : riBody [some (.val (tx x)), some (.val z), some (.val (.int a)), some (.val (.int t))] = .nx [some (.val (tx x)), some (.val z), some (.val (.int (t + 1))), some (.val (.int t))] := by
        unfold riBody
        have h1 : ¬ t < a := fun h1 => h (.inl h1)
        have h2 : ¬ (x.length : Int) ≤ t := fun h2 => h (.inr h2)
        simp only [sSeq_ap, sSet_ap, sSetO_ap, sIf_ap, sRet_ap, sRetO_ap, ownAt_ap, sNext_ap, sFor_ap, sApp_ap, sPut_ap, eIxO_ap, eCat_ap, eLenO_ap, iAny_ap, iter_str, iter_lst, tB_ap, tTru_ap, tAnd_ap, tOr_ap, tNot_ap, eOp_ap, eVar_ap, eC_ap, aNil_ap, aCons_ap, eCall_ap, eBlt_ap, eIf_ap, eAnd_ap, eOr_ap, eNot_ap, eMt0_ap, eMt_ap, eSl_ap, oNone_ap, oSome_ap, someInt_int, List.getElem?_cons_zero, List.getElem?_cons_succ, List.set_cons_succ, List.set_cons_zero, getV_val, getO_own, Rs.bind_ok, Fl.of_ok, thn_nx, thn_rt, flRes_rt, noEx_ok, boolOf_bl, truD_bl, addD_i, subD_i, ltI_i, leD_i, gtD_i, geD_i, eqD_i, eqD_s, neD_i, neD_s, lenD_lst, gNm_ap, if_true, Bool.false_eq_true, if_false, Bool.not_true, Bool.not_false, whole_ok, tx_len x hx, h1, h2, decide_false]
      have e : risI x.length a (t :: r) = risI x.length (t + 1) r := by simp [risI, h]
      rw [List.map_cons, loopD, gNm_ap, Fl.of_ok, e]
      simp only [List.set_cons_succ, List.set_cons_zero, this]
      exact ri_loop x hx z r (t + 1) _
theorem rising_ok (x : List Nat) (l : List Int) (hx : x.length ≤ 1000) : m_are_rising_places [tx x, its l] = .ok (.bl (risI x.length 0 l)) := by
  have st : startD 4 [tx x, its l] = [some (.val (tx x)), some (.val (its l)), none, none] := rfl
  have := ri_loop x hx (its l) l 0 none
  unfold riBody at this
  unfold m_are_rising_places b_are_rising_places
  rw [runF_ap, st]
  simp only [sSeq_ap, sSet_ap, sSetO_ap, sIf_ap, sRet_ap, sRetO_ap, ownAt_ap, sNext_ap, sFor_ap, sApp_ap, sPut_ap, eIxO_ap, eCat_ap, eLenO_ap, iAny_ap, iter_str, iter_lst, tB_ap, tTru_ap, tAnd_ap, tOr_ap, tNot_ap, eOp_ap, eVar_ap, eC_ap, aNil_ap, aCons_ap, eCall_ap, eBlt_ap, eIf_ap, eAnd_ap, eOr_ap, eNot_ap, eMt0_ap, eMt_ap, eSl_ap, oNone_ap, oSome_ap, someInt_int, List.getElem?_cons_zero, List.getElem?_cons_succ, List.set_cons_succ, List.set_cons_zero, getV_val, getO_own, Rs.bind_ok, Fl.of_ok, thn_nx, thn_rt, flRes_rt, noEx_ok, boolOf_bl, truD_bl, addD_i, subD_i, ltI_i, leD_i, gtD_i, geD_i, eqD_i, eqD_s, neD_i, neD_s, lenD_lst, gNm_ap, if_true, Bool.false_eq_true, if_false, Bool.not_true, Bool.not_false]
  rcases this with ⟨h1, h2⟩ | ⟨h1, τ', h2⟩
  · rw [h2, h1]; rfl
  · rw [h2, h1]; rfl
theorem ris_in (n : Int) : ∀ (l : List Int) (a : Int), 0 ≤ a → risI n a l = true → ∀ t ∈ l, 0 ≤ t ∧ t < n
  | [], a, h0, _, t, h => nomatch h
  | u :: r, a, h0, h, t, ht => by
    unfold risI at h
    split at h
    · cases h
    · rename_i g
      rcases List.mem_cons.mp ht with e | e
      · subst e; omega
      · exact ris_in n r (u + 1) (by omega) h t e
def mt2 (x : List Nat) : List Nat → List Int → List Bool
  | a :: q, t :: l => meetC a (x.getD t.toNat 0) :: mt2 x q l
  | _, _ => []
theorem bools_bl : ∀ bs : List Bool, boolsOf (bs.map D.bl) = some bs
  | [] => rfl
  | b :: r => by simp only [List.map_cons, boolsOf, bools_bl r]; rfl
theorem mt2_len (x : List Nat) : ∀ (q : List Nat) (l : List Int), (mt2 x q l).length ≤ q.length
  | [], l => by simp [mt2]
  | a :: q, [] => by simp [mt2]
  | a :: q, t :: l => by have := mt2_len x q l; simp [mt2]; omega
theorem comp_mt (x : List Nat) (hx : x.length ≤ 1000) : ∀ (q : List Nat) (l : List Int), (∀ c ∈ q, c < 128) → (∀ t ∈ l, 0 ≤ t ∧ t < (x.length : Int)) →
    compL (gPr 0 1) (fun _ => .ok true) (eCall m_meets (aCons (eVar 0) (aCons (eOp ixD (eVar 2) (eVar 1)) aNil))) [none, none, some (.val (tx x))] (zipPairs q (l.map D.int)) = .ok ((mt2 x q l).map D.bl)
  | [], l, _, _ => by cases l <;> rfl
  | a :: q, [], _, _ => rfl
  | a :: q, t :: l, hc, ht => by
    have ih := comp_mt x hx q l (fun c h => hc c (List.mem_cons_of_mem _ h)) fun t h => ht t (List.mem_cons_of_mem _ h)
    have h1 := ht t (List.mem_cons_self ..)
    have hxt : ixD (tx x) (.int t) = .ok (signD (x.getD t.toNat 0)) := by
      have := tx_ix x t.toNat (x.getD t.toNat 0) (by rw [List.getD_eq_getElem?_getD, List.getElem?_eq_getElem (by omega)]; rfl) hx
      rwa [Int.toNat_of_nonneg h1.1] at this
    have hm := meets_ok a (x.getD t.toNat 0) (hc a (List.mem_cons_self ..))
    rw [List.map_cons, zipPairs, compL]
    simp only [gPr, pair2, List.set_cons_succ, List.set_cons_zero]
    simp only [sSeq_ap, sSet_ap, sSetO_ap, sIf_ap, sRet_ap, sRetO_ap, ownAt_ap, sNext_ap, sFor_ap, sApp_ap, sPut_ap, eIxO_ap, eCat_ap, eLenO_ap, iAny_ap, iter_str, iter_lst, tB_ap, tTru_ap, tAnd_ap, tOr_ap, tNot_ap, eOp_ap, eVar_ap, eC_ap, aNil_ap, aCons_ap, eCall_ap, eBlt_ap, eIf_ap, eAnd_ap, eOr_ap, eNot_ap, eMt0_ap, eMt_ap, eSl_ap, oNone_ap, oSome_ap, someInt_int, List.getElem?_cons_zero, List.getElem?_cons_succ, List.set_cons_succ, List.set_cons_zero, getV_val, getO_own, Rs.bind_ok, Fl.of_ok, thn_nx, thn_rt, flRes_rt, noEx_ok, boolOf_bl, truD_bl, addD_i, subD_i, ltI_i, leD_i, gtD_i, geD_i, eqD_i, eqD_s, neD_i, neD_s, lenD_lst, gNm_ap, if_true, Bool.false_eq_true, if_false, Bool.not_true, Bool.not_false, hxt, hm, ih, mt2, List.map_cons]
def layI (q x : List Nat) (l : List Int) : Bool := (l.length == q.length) && (risI x.length 0 l && (mt2 x q l).all id)
theorem isLst (l : List D) : isiD [.lst l, .raw (.ty "list")] = .ok (.bl true) := rfl
theorem laying_ok (q x : List Nat) (l : List Int) (hq : q.length ≤ 1000) (hx : x.length ≤ 1000) (ha : ∀ c ∈ q, c < 128) : m_is_laying [tx q, tx x, its l] = .ok (.bl (layI q x l)) := by
  have st : startD 3 [tx q, tx x, its l] = [some (.val (tx q)), some (.val (tx x)), some (.val (its l))] := rfl
  unfold m_is_laying b_is_laying
  rw [runF_ap, st]
  simp only [sSeq_ap, sSet_ap, sSetO_ap, sIf_ap, sRet_ap, sRetO_ap, ownAt_ap, sNext_ap, sFor_ap, sApp_ap, sPut_ap, eIxO_ap, eCat_ap, eLenO_ap, iAny_ap, iter_str, iter_lst, tB_ap, tTru_ap, tAnd_ap, tOr_ap, tNot_ap, eOp_ap, eVar_ap, eC_ap, aNil_ap, aCons_ap, eCall_ap, eBlt_ap, eIf_ap, eAnd_ap, eOr_ap, eNot_ap, eMt0_ap, eMt_ap, eSl_ap, oNone_ap, oSome_ap, someInt_int, List.getElem?_cons_zero, List.getElem?_cons_succ, List.set_cons_succ, List.set_cons_zero, getV_val, getO_own, Rs.bind_ok, Fl.of_ok, thn_nx, thn_rt, flRes_rt, noEx_ok, boolOf_bl, truD_bl, addD_i, subD_i, ltI_i, leD_i, gtD_i, geD_i, eqD_i, eqD_s, neD_i, neD_s, lenD_lst, gNm_ap, if_true, Bool.false_eq_true, if_false, Bool.not_true, Bool.not_false, isLst, tx_len q hq, List.length_map]
  by_cases h : l.length = q.length
  · have h1 : ((l.length : Int) == (q.length : Int)) = true := by rw [h]; simp
    by_cases hr : risI x.length 0 l = true
    · have cm := comp_mt x hx q l ha (ris_in x.length l 0 (Int.le_refl _) hr)
      have tz : tau0 2 [1] [some (.val (tx q)), some (.val (tx x)), some (.val (its l))] = [none, none, some (.val (tx x))] := rfl
      have hz : ((mt2 x q l).map D.bl).length ≤ sizeLine := by have := mt2_len x q l; rw [sizeLine_v, List.length_map]; omega
      have zp : zip2 [tx q, its l] = some (⟨q.toArray⟩, l.map D.int) := rfl
      have hlay : layI q x l = (mt2 x q l).all id := by simp [layI, h, hr]
      simp only [sSeq_ap, sSet_ap, sSetO_ap, sIf_ap, sRet_ap, sRetO_ap, ownAt_ap, sNext_ap, sFor_ap, sApp_ap, sPut_ap, eIxO_ap, eCat_ap, eLenO_ap, iAny_ap, iter_str, iter_lst, tB_ap, tTru_ap, tAnd_ap, tOr_ap, tNot_ap, eOp_ap, eVar_ap, eC_ap, aNil_ap, aCons_ap, eCall_ap, eBlt_ap, eIf_ap, eAnd_ap, eOr_ap, eNot_ap, eMt0_ap, eMt_ap, eSl_ap, oNone_ap, oSome_ap, someInt_int, List.getElem?_cons_zero, List.getElem?_cons_succ, List.set_cons_succ, List.set_cons_zero, getV_val, getO_own, Rs.bind_ok, Fl.of_ok, thn_nx, thn_rt, flRes_rt, noEx_ok, boolOf_bl, truD_bl, addD_i, subD_i, ltI_i, leD_i, gtD_i, geD_i, eqD_i, eqD_s, neD_i, neD_s, lenD_lst, gNm_ap, if_true, Bool.false_eq_true, if_false, Bool.not_true, Bool.not_false, h1, rising_ok x l hx, hr, eComp, iZp, zp, tz, cm, hz, allD, bools_bl, hlay]
    · have hr' : risI x.length 0 l = false := by simpa using hr
      have hlay : layI q x l = false := by simp [layI, h, hr']
      simp only [sSeq_ap, sSet_ap, sSetO_ap, sIf_ap, sRet_ap, sRetO_ap, ownAt_ap, sNext_ap, sFor_ap, sApp_ap, sPut_ap, eIxO_ap, eCat_ap, eLenO_ap, iAny_ap, iter_str, iter_lst, tB_ap, tTru_ap, tAnd_ap, tOr_ap, tNot_ap, eOp_ap, eVar_ap, eC_ap, aNil_ap, aCons_ap, eCall_ap, eBlt_ap, eIf_ap, eAnd_ap, eOr_ap, eNot_ap, eMt0_ap, eMt_ap, eSl_ap, oNone_ap, oSome_ap, someInt_int, List.getElem?_cons_zero, List.getElem?_cons_succ, List.set_cons_succ, List.set_cons_zero, getV_val, getO_own, Rs.bind_ok, Fl.of_ok, thn_nx, thn_rt, flRes_rt, noEx_ok, boolOf_bl, truD_bl, addD_i, subD_i, ltI_i, leD_i, gtD_i, geD_i, eqD_i, eqD_s, neD_i, neD_s, lenD_lst, gNm_ap, if_true, Bool.false_eq_true, if_false, Bool.not_true, Bool.not_false, h1, rising_ok x l hx, hr', hlay]
  · have h1 : ((l.length : Int) == (q.length : Int)) = false := by simp; omega
    have hlay : layI q x l = false := by simp [layI, h]
    simp only [sSeq_ap, sSet_ap, sSetO_ap, sIf_ap, sRet_ap, sRetO_ap, ownAt_ap, sNext_ap, sFor_ap, sApp_ap, sPut_ap, eIxO_ap, eCat_ap, eLenO_ap, iAny_ap, iter_str, iter_lst, tB_ap, tTru_ap, tAnd_ap, tOr_ap, tNot_ap, eOp_ap, eVar_ap, eC_ap, aNil_ap, aCons_ap, eCall_ap, eBlt_ap, eIf_ap, eAnd_ap, eOr_ap, eNot_ap, eMt0_ap, eMt_ap, eSl_ap, oNone_ap, oSome_ap, someInt_int, List.getElem?_cons_zero, List.getElem?_cons_succ, List.set_cons_succ, List.set_cons_zero, getV_val, getO_own, Rs.bind_ok, Fl.of_ok, thn_nx, thn_rt, flRes_rt, noEx_ok, boolOf_bl, truD_bl, addD_i, subD_i, ltI_i, leD_i, gtD_i, geD_i, eqD_i, eqD_s, neD_i, neD_s, lenD_lst, gNm_ap, if_true, Bool.false_eq_true, if_false, Bool.not_true, Bool.not_false, h1, hlay]
theorem comp_map {set : FG} {fe : FE} {τ : DS} {α β : Type} (f : α → D) (g : β → D) (h : α → β) : ∀ (xs : List α), (∀ a ∈ xs, ∃ τ1, set (f a) τ = .ok τ1 ∧ fe τ1 = .ok (g (h a))) → compL set (fun _ => .ok true) fe τ (xs.map f) = .ok ((xs.map h).map g)
  | [], _ => rfl
  | a :: xs, hs => by
    obtain ⟨τ1, h1, h2⟩ := hs a (List.mem_cons_self ..)
    rw [List.map_cons, compL, h1]
    simp only [h2, comp_map f g h xs fun b hb => hs b (List.mem_cons_of_mem _ hb), Rs.bind_ok, List.map_cons]
end Law

set_option Elab.async false
set_option linter.all false
set_option maxHeartbeats 1000000
namespace FD
open PySem PySem.Spec PyProof.Rows L2
theorem mk_len (x : List Nat) : (⟨x.toArray⟩ : Str).length = x.length := by show x.toArray.size = _; simp
theorem str_cat (a b : List Nat) : (⟨a.toArray⟩ : Str) ++ (⟨b.toArray⟩ : Str) = ⟨(a ++ b).toArray⟩ := by
  show Str.mk _ = _
  simp
theorem comp_filter {set : FG} {ft : FT} {fe : FE} {τ : DS} {α : Type} (f g : α → D) (p : α → Bool) : ∀ (xs : List α), (∀ a ∈ xs, ∃ τ1, set (f a) τ = .ok τ1 ∧ ft τ1 = .ok (p a) ∧ fe τ1 = .ok (g a)) → compL set ft fe τ (xs.map f) = .ok ((xs.filter p).map g)
  | [], _ => rfl
  | a :: xs, hs => by
    obtain ⟨τ1, h1, h2, h3⟩ := hs a (List.mem_cons_self ..)
    have ih := comp_filter f g p xs fun b hb => hs b (List.mem_cons_of_mem _ hb)
    rw [List.map_cons, compL, h1]
    cases hp : p a
    · rw [hp] at h2
      simp only [h2, ih, List.filter_cons, hp, Bool.false_eq_true, if_false]
    · rw [hp] at h2
      simp only [h2, h3, ih, List.filter_cons, hp, if_true, Rs.bind_ok, List.map_cons]
end FD
namespace Law
open PySem PySem.Spec PyProof.Rows L2 FD
def low (x : List Nat) : List Nat := x.map lo1
theorem f1 : ∀ a ∈ QS, ∀ c ∈ NS, meetC (lo1 a) c = meetC (lo1 a) (lo1 c) := by decide
theorem f2 : ∀ a ∈ QS, ∀ c ∈ NS, meetC a c = true → meetC (lo1 a) c = true := by decide
theorem f3 : ∀ a ∈ QS, ∀ c ∈ NS, meetC a c = true → lo1 c = lo1 a := by decide
theorem f5 : ∀ c ∈ NS, c < 128 ∧ lo1 c < 128 := by decide
theorem f6 : ∀ c ∈ QS, c < 128 ∧ lo1 c < 128 := by decide
theorem ep_ris (n : Int) : ∀ (q x : List Nat) (k : Nat) (a : Int), a ≤ k → (k : Int) + x.length ≤ n → risI n a ((epR q x k).map fun (t : Nat) => (t : Int)) = true
  | [], x, k, a, _, _ => by simp [epR, risI]
  | _ :: _, [], k, a, _, _ => by simp [epR, risI]
  | b :: q, c :: x, k, a, h1, h2 => by
    simp only [List.length_cons] at h2
    simp only [epR]
    split
    · simp only [List.map_cons, risI]
      rw [if_neg (by omega)]
      exact ep_ris n q x (k + 1) _ (by omega) (by omega)
    · exact ep_ris n (b :: q) x (k + 1) a (by omega) (by omega)
theorem drop_next {x0 x : List Nat} {c k : Nat} (h : x0.drop k = c :: x) : x0.drop (k + 1) = x ∧ x0.getD k 0 = c := by
  have h1 : x0[k]? = some c := by
    have := congrArg (fun l => l[0]?) h
    simpa using this
  constructor
  · rw [← List.drop_drop, h]; rfl
  · rw [List.getD_eq_getElem?_getD, h1]; rfl
theorem ep_mt (x0 : List Nat) (f : Nat → Nat) : ∀ (q x : List Nat) (k : Nat), x0.drop k = x → (∀ a ∈ q, ∀ c ∈ x, meetC a c = true → meetC (f a) c = true) → (mt2 x0 (q.map f) ((epR q x k).map fun (t : Nat) => (t : Int))).all id = true
  | [], x, k, _, _ => by simp [epR, mt2]
  | _ :: _, [], k, _, _ => by simp [epR, mt2]
  | b :: q, c :: x, k, h1, h2 => by
    obtain ⟨h3, h4⟩ := drop_next h1
    simp only [epR]
    split
    · rename_i hm
      simp only [List.map_cons, mt2, Int.toNat_natCast, h4, h2 b (List.mem_cons_self ..) c (List.mem_cons_self ..) hm, List.all_cons, id, Bool.true_and]
      exact ep_mt x0 f q x (k + 1) h3 fun a ha d hd => h2 a (List.mem_cons_of_mem _ ha) d (List.mem_cons_of_mem _ hd)
    · exact ep_mt x0 f (b :: q) x (k + 1) h3 fun a ha d hd => h2 a ha d (List.mem_cons_of_mem _ hd)
theorem ep_lt : ∀ (q x : List Nat) (k : Nat), ∀ t ∈ epR q x k, t < k + x.length
  | [], x, k, t, h => by simp [epR] at h
  | _ :: _, [], k, t, h => by simp [epR] at h
  | b :: q, c :: x, k, t, h => by
    simp only [epR] at h
    split at h
    · rcases List.mem_cons.mp h with e | e
      · subst e; simp
      · have := ep_lt q x (k + 1) t e; simp only [List.length_cons]; omega
    · have := ep_lt (b :: q) x (k + 1) t h; simp only [List.length_cons]; omega
/-! layings by index -/
structure Lay (q x l : List Nat) : Prop where
  len : l.length = q.length
  ris : ∀ j, j + 1 < l.length → l.getD j 0 < l.getD (j + 1) 0
  inn : ∀ j, j < l.length → l.getD j 0 < x.length
  met : ∀ j, j < l.length → meetC (q.getD j 0) (x.getD (l.getD j 0) 0) = true
abbrev toI (l : List Nat) : List Int := l.map fun (t : Nat) => (t : Int)
theorem ris_iff (n : Nat) : ∀ (l : List Nat) (a : Nat), risI n a (toI l) = true ↔ ((∀ j, j + 1 < l.length → l.getD j 0 < l.getD (j + 1) 0) ∧ (∀ j, j < l.length → l.getD j 0 < n) ∧ (0 < l.length → a ≤ l.getD 0 0))
  | [], a => by simp [risI]
  | t :: r, a => by
    have ih := ris_iff n r (t + 1)
    simp only [List.map_cons, risI]
    constructor
    · intro h
      split at h
      · cases h
      · rename_i g
        have e : ((t : Int) + 1) = ((t + 1 : Nat) : Int) := by omega
        rw [e] at h
        obtain ⟨h1, h2, h3⟩ := ih.mp h
        refine ⟨fun j hj => ?_, fun j hj => ?_, fun _ => ?_⟩
        · cases j with
          | zero => have := h3 (by simpa using hj); exact Nat.lt_of_succ_le (by simpa using this)
          | succ j => simpa using h1 j (by simpa using hj)
        · cases j with
          | zero => simp; omega
          | succ j => simpa using h2 j (by simpa using hj)
        · simp; omega
    · rintro ⟨h1, h2, h3⟩
      have a1 := h2 0 (by simp)
      have a2 := h3 (by simp)
      simp only [List.getD_cons_zero] at a1 a2
      rw [if_neg (by omega)]
      have e : ((t : Int) + 1) = ((t + 1 : Nat) : Int) := by omega
      rw [e]
      refine ih.mpr ⟨fun j hj => ?_, fun j hj => ?_, fun h0 => ?_⟩
      · simpa using h1 (j + 1) (by simpa using hj)
      · simpa using h2 (j + 1) (by simpa using hj)
      · exact Nat.succ_le_of_lt (by simpa using h1 0 (by simpa using h0))
theorem mt2_iff (x : List Nat) : ∀ (q l : List Nat), l.length = q.length → ((mt2 x q (toI l)).all id = true ↔ ∀ j, j < l.length → meetC (q.getD j 0) (x.getD (l.getD j 0) 0) = true)
  | [], [], _ => by simp [mt2]
  | [], _ :: _, h => by simp at h
  | _ :: _, [], h => by simp at h
  | a :: q, t :: l, h => by
    have ih := mt2_iff x q l (by simpa using h)
    simp only [List.map_cons, mt2, List.all_cons, id, Bool.and_eq_true, Int.toNat_natCast]
    rw [ih]
    constructor
    · rintro ⟨h1, h2⟩ j hj
      cases j with
      | zero => simpa using h1
      | succ j => simpa using h2 j (by simpa using hj)
    · intro h1
      exact ⟨by simpa using h1 0 (by simp), fun j hj => by simpa using h1 (j + 1) (by simpa using hj)⟩
theorem lay_iff (q x l : List Nat) : layI q x (toI l) = true ↔ Lay q x l := by
  unfold layI
  simp only [Bool.and_eq_true, beq_iff_eq, List.length_map]
  constructor
  · rintro ⟨h1, h2, h3⟩
    obtain ⟨a, b, _⟩ := (ris_iff x.length l 0).mp h2
    exact ⟨h1, a, b, (mt2_iff x q l h1).mp h3⟩
  · intro h
    exact ⟨h.len, (ris_iff x.length l 0).mpr ⟨h.ris, h.inn, fun _ => Nat.zero_le _⟩, (mt2_iff x q l h.len).mpr h.met⟩
theorem getD_take (l : List Nat) (m j : Nat) (h : j < m) : (l.take m).getD j 0 = l.getD j 0 := by
  simp [List.getD_eq_getElem?_getD, List.getElem?_take, h]
theorem Lay.take {q x l : List Nat} (h : Lay q x l) (m : Nat) : Lay (q.take m) x (l.take m) := by
  refine ⟨by simp [h.len], fun j hj => ?_, fun j hj => ?_, fun j hj => ?_⟩
  · rw [List.length_take] at hj
    rw [getD_take _ _ _ (by omega), getD_take _ _ _ (by omega)]
    exact h.ris j (by omega)
  · rw [List.length_take] at hj
    rw [getD_take _ _ _ (by omega)]
    exact h.inn j (by omega)
  · rw [List.length_take] at hj
    rw [getD_take _ _ _ (by omega), getD_take _ _ _ (by omega)]
    exact h.met j (by omega)
/-! points -/
def begP (x : List Nat) (p : Nat) : Int := if p = 0 then 8 else if x.getD (p - 1) 0 ∈ MK then 6 else if (65 ≤ x.getD p 0 ∧ x.getD p 0 ≤ 90) ∧ ((97 ≤ x.getD (p - 1) 0 ∧ x.getD (p - 1) 0 ≤ 122) ∨ (48 ≤ x.getD (p - 1) 0 ∧ x.getD (p - 1) 0 ≤ 57)) then 5 else 0
def ownP (a : Nat) (x : List Nat) (p : Nat) : Int := 10 + begP x p + (if x.getD p 0 = a then 1 else 0)
def linkP (r p : Nat) : Int := if (p : Int) - r - 1 = 0 then 7 else -(if (p : Int) - r - 1 < 5 then (p : Int) - r - 1 else 5)
/-! the best laying -/
def trk (x : List Nat) (r : Nat) (q l : List Nat) (j : Nat) : Int := ownP (q.getD j 0) x (l.getD j 0) + linkP (if j = 0 then r else l.getD (j - 1) 0) (l.getD j 0)
theorem Lay.one {a p : Nat} {x : List Nat} (h1 : p < x.length) (h2 : meetC a (x.getD p 0) = true) : Lay [a] x [p] :=
  ⟨rfl, fun j hj => by simp at hj, fun j hj => by have : j = 0 := by simpa using hj
                                                  subst this; exact h1, fun j hj => by have : j = 0 := by simpa using hj
                                                                                       subst this; exact h2⟩
theorem Lay.cons {a p : Nat} {q x l : List Nat} (h : Lay q x l) (h1 : p < x.length) (h2 : meetC a (x.getD p 0) = true) (h3 : 0 < l.length → p < l.getD 0 0) : Lay (a :: q) x (p :: l) := by
  refine ⟨by simp [h.len], fun j hj => ?_, fun j hj => ?_, fun j hj => ?_⟩
  · cases j with
    | zero => simpa using h3 (by simpa using hj)
    | succ j => simpa using h.ris j (by simpa using hj)
  · cases j with
    | zero => simpa using h1
    | succ j => simpa using h.inn j (by simpa using hj)
  · cases j with
    | zero => exact h2
    | succ j => simpa using h.met j (by simpa using hj)
theorem Lay.tail {a p : Nat} {q x l : List Nat} (h : Lay (a :: q) x (p :: l)) : Lay q x l ∧ p < x.length ∧ meetC a (x.getD p 0) = true ∧ (0 < l.length → p < l.getD 0 0) := by
  refine ⟨⟨by simpa using h.len, fun j hj => ?_, fun j hj => ?_, fun j hj => ?_⟩, by simpa using h.inn 0 (by simp), by simpa using h.met 0 (by simp), fun h0 => by simpa using h.ris 0 (by simpa using h0)⟩
  · simpa using h.ris (j + 1) (by simpa using hj)
  · simpa using h.inn (j + 1) (by simpa using hj)
  · simpa using h.met (j + 1) (by simpa using hj)
/-! a small query behind a mark -/
/-! first and last layings -/
theorem lay_first (q x : List Nat) (h : subs q x = true) : Lay q x (epR q x 0) := by
  have h1 := (epR_subs q x 0).mpr h
  have h2 := ep_ris x.length q x 0 0 (Int.le_refl _) (by omega)
  have h3 := ep_mt x id q x 0 rfl fun a _ c _ hm => hm
  rw [List.map_id] at h3
  refine (lay_iff q x _).mp ?_
  unfold layI
  rw [h2, h3]
  simp [h1]
theorem getD_pred (l : List Nat) (j : Nat) (h : j < l.length) : (l.map (· - 1)).getD j 0 = l.getD j 0 - 1 := by
  simp [List.getD_eq_getElem?_getD, List.getElem?_map, List.getElem?_eq_getElem h]
theorem Lay.back {q x l : List Nat} {c : Nat} (h : Lay q (c :: x) l) (h0 : ∀ j, j < l.length → 0 < l.getD j 0) : Lay q x (l.map (· - 1)) := by
  refine ⟨by simp [h.len], fun j hj => ?_, fun j hj => ?_, fun j hj => ?_⟩ <;> rw [List.length_map] at hj
  · rw [getD_pred _ _ (by omega), getD_pred _ _ hj]
    have := h.ris j hj; have := h0 j (by omega); omega
  · rw [getD_pred _ _ hj]
    have := h.inn j hj; have := h0 j hj; simp only [List.length_cons] at *; omega
  · rw [getD_pred _ _ hj]
    have a := h.met j hj; have b := h0 j hj
    obtain ⟨k, hk⟩ : ∃ k, l.getD j 0 = k + 1 := ⟨l.getD j 0 - 1, by omega⟩
    rw [hk, List.getD_cons_succ] at a
    rw [hk]; exact a
theorem Lay.low {q x l : List Nat} (h : Lay q x l) (h0 : 0 < l.getD 0 0) : ∀ j, j < l.length → 0 < l.getD j 0 := fun j => by
  induction j with
  | zero => exact fun _ => h0
  | succ j ih => intro hj; have := h.ris j hj; omega
theorem lay_subs : ∀ (x q l : List Nat), Lay q x l → subs q x = true
  | [], q, l, h => by
    cases q with
    | nil => rfl
    | cons a q =>
      have := h.inn 0 (by rw [h.len]; simp)
      simp at this
  | c :: x, q, l, h => by
    cases q with
    | nil => rfl
    | cons a q =>
      cases l with
      | nil => have := h.len; simp at this
      | cons p l =>
        simp only [subs]
        split
        · obtain ⟨h1, _, _, h3⟩ := h.tail
          refine lay_subs x q (l.map (· - 1)) (h1.back fun j hj => ?_)
          have h4 := h3 (by omega)
          exact h1.low (by omega) j hj
        · rename_i hm
          refine lay_subs x (a :: q) ((p :: l).map (· - 1)) (h.back (h.low ?_))
          rcases Nat.eq_zero_or_pos p with z | z
          · subst z
            have := h.met 0 (by simp)
            simp only [List.getD_cons_zero] at this
            exact absurd this hm
          · simpa using z
theorem getD_rev (l : List Nat) (j : Nat) (h : j < l.length) : l.reverse.getD j 0 = l.getD (l.length - 1 - j) 0 := by
  rw [List.getD_eq_getElem?_getD, List.getElem?_reverse h, List.getD_eq_getElem?_getD]
theorem getD_map (f : Nat → Nat) (l : List Nat) (j : Nat) (h : j < l.length) : (l.map f).getD j 0 = f (l.getD j 0) := by
  simp [List.getD_eq_getElem?_getD, List.getElem?_map, List.getElem?_eq_getElem h]
theorem Lay.rev {q x l : List Nat} (h : Lay q x l) : Lay q.reverse x.reverse (l.map fun p => x.length - 1 - p).reverse := by
  have hl := h.len
  have e : ∀ j, j < l.length → ((l.map fun p => x.length - 1 - p).reverse).getD j 0 = x.length - 1 - l.getD (l.length - 1 - j) 0 := fun j hj => by
    rw [getD_rev _ _ (by simpa using hj), List.length_map, getD_map _ _ _ (by omega)]
  refine ⟨by simp [hl], fun j hj => ?_, fun j hj => ?_, fun j hj => ?_⟩ <;> rw [List.length_reverse, List.length_map] at hj
  · rw [e j (by omega), e (j + 1) hj]
    have a := h.ris (l.length - 1 - (j + 1)) (by omega)
    rw [show l.length - 1 - (j + 1) + 1 = l.length - 1 - j by omega] at a
    have b := h.inn (l.length - 1 - j) (by omega)
    omega
  · rw [e j hj, List.length_reverse]
    have b := h.inn (l.length - 1 - j) (by omega)
    omega
  · rw [e j hj]
    have b := h.inn (l.length - 1 - j) (by omega)
    rw [getD_rev _ _ (by omega), getD_rev _ _ (by omega), ← hl, show x.length - 1 - (x.length - 1 - l.getD (l.length - 1 - j) 0) = l.getD (l.length - 1 - j) 0 by omega]
    exact h.met _ (by omega)
theorem subs_rev (q x : List Nat) (h : subs q x = true) : subs q.reverse x.reverse = true := lay_subs _ _ _ (lay_first q x h).rev
def lastR (q x : List Nat) : List Nat := (epR q.reverse x.reverse 0).reverse.map fun p => x.length - 1 - p
theorem lay_last (q x : List Nat) (h : subs q x = true) : Lay q x (lastR q x) := by
  have := (lay_first q.reverse x.reverse (subs_rev q x h)).rev
  rw [List.reverse_reverse, List.reverse_reverse, List.length_reverse, ← List.map_reverse] at this
  exact this
end Law

set_option Elab.async false
set_option linter.all false
set_option maxHeartbeats 1000000
namespace FD
open PySem PySem.Spec PyProof.Rows L2
theorem eRev_ap {fe : FE} {τ : DS} : eRev fe τ = (fe τ).bind revD := rfl
end FD
namespace Law
open PySem PySem.Spec PyProof.Rows L2 FD
theorem nts_ix (l : List Nat) (j : Nat) (h : j < l.length) : ixD (nts l) (.int (j : Int)) = .ok (.int (l.getD j 0 : Nat)) := by
  refine ixD_lst (atI_of (by omega) ?_)
  simp [List.getD_eq_getElem?_getD, List.getElem?_eq_getElem h]
theorem get_some (x : List Nat) (j : Nat) (h : j < x.length) : x[j]? = some (x.getD j 0) := by
  rw [List.getD_eq_getElem?_getD, List.getElem?_eq_getElem h]; rfl
theorem tx_at (x : List Nat) (j : Nat) (h : j < x.length) (hx : x.length ≤ 1000) : ixD (tx x) (.int (j : Int)) = .ok (signD (x.getD j 0)) := tx_ix x j _ (get_some x j h) hx
/-! points -/
theorem sQuiet_rt {f : FS} {τ : DS} {d : D} (h : f τ = .rt d) : sQuiet f τ = .rt d := by unfold sQuiet; rw [h]
end Law

set_option Elab.async false
set_option linter.all false
set_option maxHeartbeats 1000000
namespace FD
open PySem PySem.Spec PyProof.Rows L2
theorem rg3_ok {fs : FA} {τ : DS} {i j : Int} (h : fs τ = .ok [.int i, .int j, .int (-1)]) (h1 : -(2 ^ 62) ≤ i) (h2 : i < 2 ^ 62) (h3 : -(2 ^ 62) ≤ j) (h4 : j < 2 ^ 62) : iRg3 fs τ = .ok (rngDn i (i - j).toNat) := by
  unfold iRg3
  rw [h]
  simp only [Rs.bind_ok, int3d]
  rw [if_pos ⟨⟨h1, h2⟩, h3, h4⟩]
end FD
namespace Law
open PySem PySem.Spec PyProof.Rows L2 FD
/-! the best laying, evaluated -/
theorem call2 {f : List D → Rs D} {fa fb : FE} {τ : DS} {a b d : D} (h1 : fa τ = .ok a) (h2 : fb τ = .ok b) (h : f [a, b] = .ok d) : eCall f (aCons fa (aCons fb aNil)) τ = .ok d := by
  rw [eCall_ap, aCons_ap, h1, Rs.bind_ok, aCons_ap, h2, Rs.bind_ok, aNil_ap, Rs.bind_ok, Rs.bind_ok, Rs.bind_ok, h]; rfl
theorem call3 {f : List D → Rs D} {fa fb fc : FE} {τ : DS} {a b c d : D} (h1 : fa τ = .ok a) (h2 : fb τ = .ok b) (h3 : fc τ = .ok c) (h : f [a, b, c] = .ok d) : eCall f (aCons fa (aCons fb (aCons fc aNil))) τ = .ok d := by
  rw [eCall_ap, aCons_ap, h1, Rs.bind_ok, aCons_ap, h2, Rs.bind_ok, aCons_ap, h3, Rs.bind_ok, aNil_ap, Rs.bind_ok, Rs.bind_ok, Rs.bind_ok, Rs.bind_ok, h]; rfl
theorem op2 {op : D → D → Rs D} {fa fb : FE} {τ : DS} {a b : D} {r : Rs D} (h1 : fa τ = .ok a) (h2 : fb τ = .ok b) (h : op a b = r) : eOp op fa fb τ = r := by
  rw [eOp_ap, h1, Rs.bind_ok, h2, Rs.bind_ok, h]
theorem var_ok {n : Nat} {τ : DS} {d : D} (h : τ[n]? = some (some (.val d))) : eVar n τ = .ok d := by rw [eVar_ap, h]; rfl
theorem comp_ok {k : Nat} {idx : List Nat} {fi : FA} {set : FG} {ft : FT} {fe : FE} {τ : DS} {ds xs : List D} (h1 : fi τ = .ok ds) (h2 : compL set ft fe (tau0 k idx τ) ds = .ok xs) (h3 : xs.length ≤ 1000) : eComp k idx fi set ft fe τ = .ok xs := by
  unfold eComp
  rw [h1, Rs.bind_ok, h2]
  exact if_pos (by rw [sizeLine_v]; omega)
theorem tru_ok {fe : FE} {τ : DS} {b : Bool} (h : fe τ = .ok (.bl b)) : tTru fe τ = .ok b := by rw [tTru_ap, h]; rfl
theorem tB_ok {fe : FE} {τ : DS} {b : Bool} (h : fe τ = .ok (.bl b)) : FD.tB fe τ = .ok b := by rw [tB_ap, h]; rfl
theorem rng_ok {fa : FE} {τ : DS} {n : Nat} (h : fa τ = .ok (.int (n : Int))) (hn : n ≤ 1000) : iRg1 (aCons fa aNil) τ = .ok ((List.range n).map fun (k : Nat) => D.int (0 + k)) := by
  rw [rg1_ok (j := (n : Int)) (by rw [aCons_ap, h, Rs.bind_ok, aNil_ap, Rs.bind_ok]) (by omega) (by omega), Int.toNat_natCast]; rfl
theorem blt1 {g : List D → Rs D} {fa : FE} {τ : DS} {a d : D} (h1 : fa τ = .ok a) (h : g [a] = .ok d) : eBlt g (aCons fa aNil) τ = .ok d := by
  rw [eBlt_ap, aCons_ap, h1, Rs.bind_ok, aNil_ap, Rs.bind_ok, Rs.bind_ok, h]
/-! the last laying -/
theorem rev_tx (q : List Nat) (hq : q.length ≤ 1000) : revD (tx q) = .ok (tx q.reverse) := by
  simp only [revD]
  rw [if_pos (by rw [mk_len, sizeLine_v]; omega)]
end Law

set_option Elab.async false
set_option linter.all false
set_option maxHeartbeats 1000000
namespace FD
open PySem PySem.Spec PyProof.Rows L2
theorem tn_ok {g : FT} {τ : DS} {b : Bool} (h : g τ = .ok b) : tNotD g τ = .ok (!b) := by rw [tNot_ap, h]; rfl
theorem sl_ok {fe : FE} {fl fh : FO} {τ : DS} {d r : D} {l u : Option Int} (h1 : fe τ = .ok d) (h2 : fl τ = .ok l) (h3 : fh τ = .ok u) (h : slD d l u = .ok r) : eSl fe fl fh τ = .ok r := by
  rw [eSl_ap, h1, Rs.bind_ok, h2, Rs.bind_ok, h3, Rs.bind_ok, h]
theorem os_ok {fe : FE} {τ : DS} {i : Int} (h : fe τ = .ok (.int i)) : oSome fe τ = .ok (some i) := by rw [oSome_ap, h]; rfl
theorem or_l {fa fb : FE} {τ : DS} (h1 : fa τ = .ok (.bl true)) : eOr fa fb τ = .ok (.bl true) := by
  rw [eOr_ap, h1, Rs.bind_ok, truD_bl, Rs.bind_ok, if_pos rfl]
theorem or_r {fa fb : FE} {τ : DS} {d : D} (h1 : fa τ = .ok (.bl false)) (h2 : fb τ = .ok d) : eOr fa fb τ = .ok d := by
  rw [eOr_ap, h1, Rs.bind_ok, truD_bl, Rs.bind_ok, if_neg (by simp), h2]
theorem or_tr {f g : FT} {τ : DS} {b : Bool} (h1 : f τ = .ok false) (h2 : g τ = .ok b) : tOrD f g τ = .ok b := by rw [tOr_ap, h1, Rs.bind_ok, if_neg (by simp), h2]
theorem ne_bl (a b : Bool) : neD (.bl a) (.bl b) = .ok (.bl (!(a == b))) := by
  cases a <;> cases b <;> rfl
end FD
namespace Law
open PySem PySem.Spec PyProof.Rows L2 FD
/-! layings by index -/
theorem add_tx (a b : List Nat) (ha : a.length ≤ 1000) (hb : b.length ≤ 1000) : addD (tx a) (tx b) = .ok (tx (a ++ b)) := by
  rw [addD_s (by rw [mk_len, mk_len, sizeLine_v]; omega), str_cat]

end Law

set_option Elab.async false
set_option linter.all false
set_option maxHeartbeats 1000000
namespace FD
open PySem PySem.Spec PyProof.Rows L2
theorem comp_okB {k : Nat} {idx : List Nat} {fi : FA} {set : FG} {ft : FT} {fe : FE} {τ : DS} {ds xs : List D} (h1 : fi τ = .ok ds) (h2 : compL set ft fe (tau0 k idx τ) ds = .ok xs) (h3 : xs.length ≤ 1000000) : eComp k idx fi set ft fe τ = .ok xs := by
  unfold eComp
  rw [h1, Rs.bind_ok, h2]
  exact if_pos (by rw [Law.sizeLine_v]; omega)
theorem nilE {τ : DS} : eLst aNil τ = .ok (.lst []) := by
  rw [eLst_ap, aNil_ap, Rs.bind_ok]; exact if_pos (Nat.zero_le _)
end FD
namespace Law
open PySem PySem.Spec PyProof.Rows L2 FD
/-! the law's meets -/
theorem lay_nil' (x : List Nat) : Lay [] x [] := ⟨rfl, fun j hj => by simp at hj, fun j hj => by simp at hj, fun j hj => by simp at hj⟩
/-! the law's own layings -/
def stt (l : List Nat) : Nat := match l.getLast? with
  | some p => p + 1
  | none => 0
def ext (a : Nat) (x l : List Nat) : List (List Nat) := (((List.range (x.length - stt l)).map (stt l + ·)).filter fun k => meetC a (x.getD k 0)).map fun k => l ++ [k]
def laysR (q x : List Nat) : List (List Nat) := q.foldl (fun found a => found.flatMap (ext a x)) [[]]
theorem getD_snoc (l : List Nat) (p j : Nat) : (l ++ [p]).getD j 0 = if j < l.length then l.getD j 0 else if j = l.length then p else 0 := by
  by_cases h : j < l.length
  · rw [if_pos h]; simp [List.getD_eq_getElem?_getD, List.getElem?_append_left h]
  · rw [if_neg h]
    by_cases e : j = l.length
    · subst e; simp [List.getD_eq_getElem?_getD]
    · rw [if_neg e, List.getD_eq_getElem?_getD, List.getElem?_eq_none (by simp; omega)]; rfl
theorem stt_eq (l : List Nat) : stt l = if l = [] then 0 else l.getD (l.length - 1) 0 + 1 := by
  unfold stt
  cases l with
  | nil => rfl
  | cons a r =>
    rw [List.getLast?_eq_getElem?, if_neg (by simp), List.getD_eq_getElem?_getD, List.getElem?_eq_getElem (by simp : (a :: r).length - 1 < (a :: r).length)]
    rfl
theorem lay_snoc (q x l : List Nat) (a p : Nat) : Lay (q ++ [a]) x (l ++ [p]) ↔ Lay q x l ∧ stt l ≤ p ∧ p < x.length ∧ meetC a (x.getD p 0) = true := by
  constructor
  · intro h
    have hl : l.length = q.length := by have := h.len; simp at this; exact this
    refine ⟨⟨hl, fun j hj => ?_, fun j hj => ?_, fun j hj => ?_⟩, ?_, ?_, ?_⟩
    · have := h.ris j (by simp; omega)
      rwa [getD_snoc, getD_snoc, if_pos (by omega), if_pos hj] at this
    · have := h.inn j (by simp; omega)
      rwa [getD_snoc, if_pos hj] at this
    · have := h.met j (by simp; omega)
      rwa [getD_snoc, getD_snoc, if_pos (by omega), if_pos hj] at this
    · rw [stt_eq]
      by_cases e : l = []
      · rw [if_pos e]; omega
      · rw [if_neg e]
        have hp : 0 < l.length := List.length_pos_iff.mpr e
        have := h.ris (l.length - 1) (by simp; omega)
        rw [getD_snoc, getD_snoc, if_pos (by omega), if_neg (by omega), if_pos (by omega)] at this
        omega
    · have := h.inn l.length (by simp)
      rwa [getD_snoc, if_neg (by omega), if_pos rfl] at this
    · have := h.met l.length (by simp)
      rwa [getD_snoc, getD_snoc, if_neg (by omega), if_pos (by omega), if_neg (by omega), if_pos rfl] at this
  · rintro ⟨h, h1, h2, h3⟩
    have hl := h.len
    refine ⟨by simp [hl], fun j hj => ?_, fun j hj => ?_, fun j hj => ?_⟩
    · simp at hj
      rw [getD_snoc, getD_snoc, if_pos (by omega)]
      by_cases e : j + 1 < l.length
      · rw [if_pos e]; exact h.ris j e
      · rw [if_neg e, if_pos (by omega)]
        rw [stt_eq, if_neg (by intro z; subst z; simp at hj)] at h1
        have : l.length - 1 = j := by omega
        rw [this] at h1; omega
    · simp at hj
      rw [getD_snoc]
      by_cases e : j < l.length
      · rw [if_pos e]; exact h.inn j e
      · rw [if_neg e, if_pos (by omega)]; exact h2
    · simp at hj
      by_cases e : j < l.length
      · rw [getD_snoc, getD_snoc, if_pos e, if_pos (by omega)]; exact h.met j e
      · have e1 : (q ++ [a]).getD j 0 = a := by rw [getD_snoc, if_neg (by omega), if_pos (by omega)]
        have e2 : (l ++ [p]).getD j 0 = p := by rw [getD_snoc, if_neg (by omega), if_pos (by omega)]
        rw [e1, e2]; exact h3
theorem mem_ext (a : Nat) (x l0 l : List Nat) : l ∈ ext a x l0 ↔ ∃ p, l = l0 ++ [p] ∧ stt l0 ≤ p ∧ p < x.length ∧ meetC a (x.getD p 0) = true := by
  unfold ext
  simp only [List.mem_map, List.mem_filter, List.mem_range]
  constructor
  · rintro ⟨p, ⟨⟨k, hk, rfl⟩, hm⟩, rfl⟩
    exact ⟨_, rfl, by omega, by omega, hm⟩
  · rintro ⟨p, rfl, h1, h2, h3⟩
    exact ⟨p, ⟨⟨p - stt l0, by omega, by omega⟩, h3⟩, rfl⟩
theorem mem_step (a : Nat) (x p : List Nat) (found : List (List Nat)) (h : ∀ l, l ∈ found ↔ Lay p x l) (l : List Nat) : l ∈ found.flatMap (ext a x) ↔ Lay (p ++ [a]) x l := by
  rw [List.mem_flatMap]
  constructor
  · rintro ⟨l0, h0, h1⟩
    obtain ⟨k, rfl, h2⟩ := (mem_ext a x l0 l).mp h1
    exact (lay_snoc p x l0 a k).mpr ⟨(h l0).mp h0, h2⟩
  · intro hl
    have hne : l ≠ [] := fun z => by subst z; have := hl.len; simp at this
    have e : l = l.dropLast ++ [l.getLast hne] := (List.dropLast_concat_getLast hne).symm
    rw [e] at hl
    obtain ⟨h1, h2⟩ := (lay_snoc p x _ a _).mp hl
    exact ⟨l.dropLast, (h _).mpr h1, (mem_ext a x _ l).mpr ⟨_, e, h2⟩⟩
theorem mem_fold (x : List Nat) : ∀ (q p : List Nat) (found : List (List Nat)), (∀ l, l ∈ found ↔ Lay p x l) → ∀ l, l ∈ q.foldl (fun found a => found.flatMap (ext a x)) found ↔ Lay (p ++ q) x l
  | [], p, found, h, l => by rw [List.append_nil]; exact h l
  | a :: q, p, found, h, l => by
    have := mem_fold x q (p ++ [a]) _ (mem_step a x p found h) l
    rw [List.append_assoc] at this
    exact this
theorem mem_lays (q x l : List Nat) : l ∈ laysR q x ↔ Lay q x l := by
  refine mem_fold x q [] [[]] (fun l => ?_) l
  constructor
  · intro h
    have : l = [] := by simpa using h
    subst this; exact lay_nil' x
  · intro h
    have : l = [] := List.eq_nil_of_length_eq_zero h.len
    subst this; simp
end Law

set_option Elab.async false
set_option linter.all false
set_option maxHeartbeats 1000000
namespace FD
open PySem PySem.Spec PyProof.Rows L2
theorem okD_nats (l : List Nat) : okD (.lst (l.map fun (k : Nat) => D.int k)) = true := by
  have a : ∀ l : List Nat, plainDs (l.map fun (k : Nat) => D.int k) = true := fun l => by
    induction l with
    | nil => rfl
    | cons a r ih => simp [plainDs, plainD, ih]
  have b : ∀ l : List Nat, PyData.canLayAll0 (toPys (l.map fun (k : Nat) => D.int k)) = true := fun l => by
    induction l with
    | nil => rfl
    | cons a r ih => simp [toPys, toPy, PyData.canLayAll0, PyData.canLay0, ih]
  have c : ∀ l : List Nat, PyData.depthAll (toPys (l.map fun (k : Nat) => D.int k)) = 0 := fun l => by
    induction l with
    | nil => rfl
    | cons a r ih => simp [toPys, toPy, PyData.depthAll, PyData.depth, ih]
  simp [okD, plainD, toPy, PyData.canLay0, PyData.depth, a, b l, c]
theorem okD_nil : okD (.lst []) = true := by decide
theorem eqv_nil (ds : List D) : eqvD (.lst ds) (.lst []) = ds.isEmpty := by
  simp only [eqvD, toPy, toPys, PyData.eqv, eqvAll_nil]
  cases ds <;> rfl
theorem ne_nil (ds : List D) (h : okD (.lst ds) = true) : neD (.lst ds) (.lst []) = .ok (.bl (!ds.isEmpty)) := by
  simp only [neD, h, okD_nil, and_self, if_true, eqv_nil]
end FD
namespace Law
open PySem PySem.Spec PyProof.Rows L2 FD
/-! how many: by weights -/
theorem stt_snoc (l : List Nat) (k : Nat) : stt (l ++ [k]) = k + 1 := by simp [stt]
end Law

set_option Elab.async false
set_option linter.all false
set_option maxHeartbeats 1000000
namespace FD
open PySem PySem.Spec PyProof.Rows L2
theorem set_map_range {α : Type} (f g : Nat → α) (n j : Nat) (v : α) (h1 : g j = v) (h2 : ∀ i, i ≠ j → g i = f i) : ((List.range n).map f).set j v = (List.range n).map g := by
  apply List.ext_getElem?
  intro i
  rw [List.getElem?_set]
  simp only [List.length_map, List.length_range, List.getElem?_map]
  by_cases hi : i < n
  · rw [List.getElem?_range hi]
    by_cases e : j = i
    · subst e; simp [hi, h1]
    · simp [e, h2 i (fun h => e h.symm)]
  · rw [List.getElem?_eq_none (by simp; omega)]
    by_cases e : j = i
    · subst e; simp [hi]
    · simp [e]
theorem mulD_l {i : List D} {k : Int} (h : k < 16777216 ∧ -16777216 < k ∧ i.length * k.toNat ≤ sizeLine) : mulD (.lst i) (.int k) = .ok (.lst (List.replicate k.toNat i).flatten) := if_pos h
theorem catD_l {i j : List D} (h : i.length + j.length ≤ sizeLine) : catD (.lst i) (.lst j) = .ok (i ++ j) := if_pos h
end FD
namespace Law
open PySem PySem.Spec PyProof.Rows L2 FD
def stepW (m : Nat → Bool) (w : Nat → Int) : Nat → Int
  | 0 => w 0
  | j + 1 => if m j = true then w (j + 1) + w j else w (j + 1)
def mq (q : List Nat) (c : Nat) (j : Nat) : Bool := match q[j]? with
  | some a => meetC a c
  | none => false
def w00 : Nat → Int := fun j => if j = 0 then 1 else 0
def waysW (q x : List Nat) : Nat → Int := x.foldl (fun w c => stepW (mq q c) w) w00
def wl (n : Nat) (w : Nat → Int) : List D := (List.range (n + 1)).map fun j => D.int (w j)
def hmIn : FS := (sIf (tTru (eCall m_meets (aCons (eOp ixD (eVar 0) (eOp subD (eVar 4) (eC (.int 1)))) (aCons (eVar 3) aNil)))) (sPut 2 (eVar 4) (eOp addD (eIxO 2 (eVar 4)) (eIxO 2 (eOp subD (eVar 4) (eC (.int 1)))))) sNext)
theorem wl_congr (n : Nat) (w v : Nat → Int) (h : ∀ j, j ≤ n → w j = v j) : wl n w = wl n v := by
  unfold wl
  apply List.map_congr_left
  intro j hj
  have := List.mem_range.mp hj
  rw [h j (by omega)]
theorem wl_at (n : Nat) (w : Nat → Int) (j : Nat) (h : j ≤ n) : (wl n w)[j]? = some (.int (w j)) := by
  unfold wl
  rw [List.getElem?_map, List.getElem?_range (by omega)]
  rfl
theorem wl_len (n : Nat) (w : Nat → Int) : (wl n w).length = n + 1 := by simp [wl]
theorem wl_set (n : Nat) (w v : Nat → Int) (j : Nat) (h : ∀ i, i ≠ j → v i = w i) : (wl n w).set j (.int (v j)) = wl n v := by
  unfold wl
  exact set_map_range _ _ _ _ _ rfl fun i hi => by rw [h i hi]
def midW (n k : Nat) (m : Nat → Bool) (w : Nat → Int) (j : Nat) : Int := if n < j + k then stepW m w j else w j
theorem hm_inner (q x : List Nat) (c : Nat) (w : Nat → Int) (s : Option Sl) (hq : q.length ≤ 1000) (ha : ∀ c ∈ q, c < 128) :
    ∃ s', loopD (gNm 4) hmIn (rngDn q.length q.length) [some (.val (tx q)), some (.val (tx x)), some (.own (wl q.length w)), some (.val (signD c)), s] = .nx [some (.val (tx q)), some (.val (tx x)), some (.own (wl q.length (stepW (mq q c) w))), some (.val (signD c)), s'] := by
  have m0 : wl q.length w = wl q.length (midW q.length 0 (mq q c) w) := wl_congr _ _ _ fun j hj => by unfold midW; rw [if_neg (by omega)]
  obtain ⟨τ', h1, s', h2⟩ := loop_inv0 (set := gNm 4) (body := hmIn) (fun (k : Nat) => D.int ((q.length : Int) - k))
    (fun k τ => ∃ s, τ = [some (.val (tx q)), some (.val (tx x)), some (.own (wl q.length (midW q.length k (mq q c) w))), some (.val (signD c)), s]) q.length
    [some (.val (tx q)), some (.val (tx x)), some (.own (wl q.length w)), some (.val (signD c)), s]
    ⟨s, by rw [← m0]⟩
    fun k τ hk ⟨s, e⟩ => by
      subst e
      obtain ⟨L, hL⟩ : ∃ L, q.length = L + 1 + k := ⟨q.length - 1 - k, by omega⟩
      have hLq : L < q.length := by omega
      have e1 : (q.length : Int) - (k : Int) = ((L + 1 : Nat) : Int) := by omega
      have e2 : ((L + 1 : Nat) : Int) - 1 = (L : Int) := by omega
      have hqL := tx_ix q L q[L] (List.getElem?_eq_getElem hLq) hq
      have hm := meets_ok q[L] c (ha _ (List.getElem_mem hLq))
      have hmq : mq q c L = meetC q[L] c := by unfold mq; rw [List.getElem?_eq_getElem hLq]
      have v1 : midW q.length k (mq q c) w (L + 1) = w (L + 1) := by unfold midW; rw [if_neg (by omega)]
      have v0 : midW q.length k (mq q c) w L = w L := by unfold midW; rw [if_neg (by omega)]
      have v2 : midW q.length (k + 1) (mq q c) w (L + 1) = stepW (mq q c) w (L + 1) := by unfold midW; rw [if_pos (by omega)]
      have v3 : ∀ i, i ≠ L + 1 → midW q.length (k + 1) (mq q c) w i = midW q.length k (mq q c) w i := fun i hi => by
        unfold midW
        by_cases h : q.length < i + k
        · rw [if_pos h, if_pos (by omega)]
        · rw [if_neg h, if_neg (by omega)]
      have i1 := ixO_ok (wl_at q.length (midW q.length k (mq q c) w) (L + 1) (by omega))
      have i0 := ixO_ok (wl_at q.length (midW q.length k (mq q c) w) L (by omega))
      rw [v1] at i1
      rw [v0] at i0
      rw [e1]
      refine ⟨_, [some (.val (tx q)), some (.val (tx x)), some (.own (wl q.length (midW q.length (k + 1) (mq q c) w))), some (.val (signD c)), some (.val (.int ((L + 1 : Nat) : Int)))], gNm_ap, ?_, _, rfl⟩
      simp only [List.set_cons_succ, List.set_cons_zero]
      unfold hmIn
      by_cases hmm : meetC q[L] c = true
      · have hst : stepW (mq q c) w (L + 1) = w (L + 1) + w L := by simp only [stepW, hmq, hmm, if_true]
        have pt := fun τ => putAt_ok (n := 2) (τ := τ) (ds := wl q.length (midW q.length k (mq q c) w)) (d := .int (w (L + 1) + w L)) (j := L + 1) (by rw [wl_len]; omega)
        simp only [sSeq_ap, sSet_ap, sSetO_ap, sIf_ap, sRet_ap, sRetO_ap, ownAt_ap, sNext_ap, sFor_ap, sApp_ap, sPut_ap, eIxO_ap, eCat_ap, eLenO_ap, iAny_ap, iter_str, iter_lst, tB_ap, tTru_ap, tAnd_ap, tOr_ap, tNot_ap, eOp_ap, eVar_ap, eC_ap, aNil_ap, aCons_ap, eCall_ap, eBlt_ap, eIf_ap, eAnd_ap, eOr_ap, eNot_ap, eMt0_ap, eMt_ap, eSl_ap, oNone_ap, oSome_ap, someInt_int, List.getElem?_cons_zero, List.getElem?_cons_succ, List.set_cons_succ, List.set_cons_zero, getV_val, getO_own, Rs.bind_ok, Fl.of_ok, thn_nx, thn_rt, flRes_rt, noEx_ok, boolOf_bl, truD_bl, addD_i, subD_i, ltI_i, leD_i, gtD_i, geD_i, eqD_i, eqD_s, neD_i, neD_s, lenD_lst, gNm_ap, if_true, Bool.false_eq_true, if_false, Bool.not_true, Bool.not_false, e2, hqL, hm, hmm, i1, i0, pt]
        rw [← hst, ← v2, wl_set _ _ _ _ v3]
      · have hmm' : meetC q[L] c = false := by simpa using hmm
        have hst : stepW (mq q c) w (L + 1) = w (L + 1) := by simp [stepW, hmq, hmm']
        have : wl q.length (midW q.length (k + 1) (mq q c) w) = wl q.length (midW q.length k (mq q c) w) := wl_congr _ _ _ fun j _ => by
          by_cases h : j = L + 1
          · subst h; rw [v2, v1, hst]
          · exact v3 j h
        simp only [sSeq_ap, sSet_ap, sSetO_ap, sIf_ap, sRet_ap, sRetO_ap, ownAt_ap, sNext_ap, sFor_ap, sApp_ap, sPut_ap, eIxO_ap, eCat_ap, eLenO_ap, iAny_ap, iter_str, iter_lst, tB_ap, tTru_ap, tAnd_ap, tOr_ap, tNot_ap, eOp_ap, eVar_ap, eC_ap, aNil_ap, aCons_ap, eCall_ap, eBlt_ap, eIf_ap, eAnd_ap, eOr_ap, eNot_ap, eMt0_ap, eMt_ap, eSl_ap, oNone_ap, oSome_ap, someInt_int, List.getElem?_cons_zero, List.getElem?_cons_succ, List.set_cons_succ, List.set_cons_zero, getV_val, getO_own, Rs.bind_ok, Fl.of_ok, thn_nx, thn_rt, flRes_rt, noEx_ok, boolOf_bl, truD_bl, addD_i, subD_i, ltI_i, leD_i, gtD_i, geD_i, eqD_i, eqD_s, neD_i, neD_s, lenD_lst, gNm_ap, if_true, Bool.false_eq_true, if_false, Bool.not_true, Bool.not_false, e2, hqL, hm, hmm', this]
  refine ⟨s', ?_⟩
  have : loopD (gNm 4) hmIn (rngDn q.length q.length) [some (.val (tx q)), some (.val (tx x)), some (.own (wl q.length w)), some (.val (signD c)), s] = .nx τ' := h1
  rw [this, h2]
  rw [wl_congr q.length (midW q.length q.length (mq q c) w) (stepW (mq q c) w) fun j hj => by
    unfold midW
    cases j with
    | zero => rw [if_neg (by omega)]; rfl
    | succ j => rw [if_pos (by omega)]]
theorem hm_fl : ∀ n : Nat, (List.replicate n [D.int 0]).flatten = List.replicate n (D.int 0)
  | 0 => rfl
  | n + 1 => by rw [List.replicate_succ, List.flatten_cons, hm_fl n, List.replicate_succ]; rfl
theorem hm_w0 (n : Nat) : [D.int 1] ++ List.replicate n (D.int 0) = wl n w00 := by
  unfold wl w00
  rw [List.range_succ_eq_map, List.map_cons, List.map_map]
  simp only [if_true, List.cons_append, List.nil_append]
  refine congrArg (D.int 1 :: ·) ?_
  apply List.ext_getElem?
  intro i
  simp only [List.getElem?_map, List.getElem?_replicate]
  by_cases h : i < n
  · rw [List.getElem?_range h]; simp [h]
  · rw [List.getElem?_eq_none (by simp; omega)]; simp [h]
theorem eLst_1 (τ : DS) (a : D) : eLst (aCons (eC a) aNil) τ = .ok (.lst [a]) := by
  have : ([a] : List D).length ≤ sizeLine := by rw [sizeLine_v]; exact Nat.le_of_ble_eq_true rfl
  rw [eLst_ap]
  simp only [sSeq_ap, sSet_ap, sSetO_ap, sIf_ap, sRet_ap, sRetO_ap, ownAt_ap, sNext_ap, sFor_ap, sApp_ap, sPut_ap, eIxO_ap, eCat_ap, eLenO_ap, iAny_ap, iter_str, iter_lst, tB_ap, tTru_ap, tAnd_ap, tOr_ap, tNot_ap, eOp_ap, eVar_ap, eC_ap, aNil_ap, aCons_ap, eCall_ap, eBlt_ap, eIf_ap, eAnd_ap, eOr_ap, eNot_ap, eMt0_ap, eMt_ap, eSl_ap, oNone_ap, oSome_ap, someInt_int, List.getElem?_cons_zero, List.getElem?_cons_succ, List.set_cons_succ, List.set_cons_zero, getV_val, getO_own, Rs.bind_ok, Fl.of_ok, thn_nx, thn_rt, flRes_rt, noEx_ok, boolOf_bl, truD_bl, addD_i, subD_i, ltI_i, leD_i, gtD_i, geD_i, eqD_i, eqD_s, neD_i, neD_s, lenD_lst, gNm_ap, if_true, Bool.false_eq_true, if_false, Bool.not_true, Bool.not_false, this]
theorem hm_ml (q : List Nat) (hq : q.length ≤ 1000) : mulD (.lst [.int 0]) (.int q.length) = .ok (.lst (List.replicate q.length [D.int 0]).flatten) := by
    have := mulD_l (i := [.int 0]) (k := q.length) ⟨by omega, by omega, by rw [sizeLine_v, Int.toNat_natCast, List.length_singleton]; omega⟩
    rwa [Int.toNat_natCast] at this
theorem hm_ct (q : List Nat) (hq : q.length ≤ 1000) : catD (.lst [.int 1]) (.lst (List.replicate q.length (D.int 0))) = .ok (wl q.length w00) := by
    rw [catD_l (by rw [sizeLine_v, List.length_replicate, List.length_singleton]; omega), hm_w0]
theorem hm_r3 (q x : List Nat) (hq : q.length ≤ 1000)  (w) (s4) (c): iRg3 (aCons (eBlt lenD (aCons (eVar 0) aNil)) (aCons (eC (.int 0)) (aCons (eNeg (eC (.int 1))) aNil))) [some (.val (tx q)), some (.val (tx x)), some (.own (wl q.length w)), some (.val (signD c)), s4] = .ok (rngDn q.length q.length) := by
      have ng : eNeg (eC (.int 1)) [some (.val (tx q)), some (.val (tx x)), some (.own (wl q.length w)), some (.val (signD c)), s4] = .ok (.int (-1)) := rfl
      have r3 := rg3_ok (fs := aCons (eBlt lenD (aCons (eVar 0) aNil)) (aCons (eC (.int 0)) (aCons (eNeg (eC (.int 1))) aNil))) (τ := [some (.val (tx q)), some (.val (tx x)), some (.own (wl q.length w)), some (.val (signD c)), s4]) (i := q.length) (j := 0)
        (by simp only [sSeq_ap, sSet_ap, sSetO_ap, sIf_ap, sRet_ap, sRetO_ap, ownAt_ap, sNext_ap, sFor_ap, sApp_ap, sPut_ap, eIxO_ap, eCat_ap, eLenO_ap, iAny_ap, iter_str, iter_lst, tB_ap, tTru_ap, tAnd_ap, tOr_ap, tNot_ap, eOp_ap, eVar_ap, eC_ap, aNil_ap, aCons_ap, eCall_ap, eBlt_ap, eIf_ap, eAnd_ap, eOr_ap, eNot_ap, eMt0_ap, eMt_ap, eSl_ap, oNone_ap, oSome_ap, someInt_int, List.getElem?_cons_zero, List.getElem?_cons_succ, List.set_cons_succ, List.set_cons_zero, getV_val, getO_own, Rs.bind_ok, Fl.of_ok, thn_nx, thn_rt, flRes_rt, noEx_ok, boolOf_bl, truD_bl, addD_i, subD_i, ltI_i, leD_i, gtD_i, geD_i, eqD_i, eqD_s, neD_i, neD_s, lenD_lst, gNm_ap, if_true, Bool.false_eq_true, if_false, Bool.not_true, Bool.not_false, tx_len q hq, ng]) (by omega) (by omega) (by omega) (by omega)
      simpa using r3
theorem hm_loop (q x : List Nat) (hq : q.length ≤ 1000) (ha : ∀ c ∈ q, c < 128) : ∃ s3 s4, loopD (gNm 3) (sFor (iRg3 (aCons (eBlt lenD (aCons (eVar 0) aNil)) (aCons (eC (.int 0)) (aCons (eNeg (eC (.int 1))) aNil)))) (gNm 4) hmIn) (x.map signD) [some (.val (tx q)), some (.val (tx x)), some (.own (wl q.length w00)), none, none]
    = .nx [some (.val (tx q)), some (.val (tx x)), some (.own (wl q.length (waysW q x))), s3, s4] := by
  obtain ⟨τ', h1, s3, s4, h2⟩ := loop_rel (set := gNm 3) (body := sFor (iRg3 (aCons (eBlt lenD (aCons (eVar 0) aNil)) (aCons (eC (.int 0)) (aCons (eNeg (eC (.int 1))) aNil)))) (gNm 4) hmIn) signD
    (fun w τ => ∃ s3 s4, τ = [some (.val (tx q)), some (.val (tx x)), some (.own (wl q.length w)), s3, s4]) (fun w c => stepW (mq q c) w) x w00
    [some (.val (tx q)), some (.val (tx x)), some (.own (wl q.length w00)), none, none] ⟨_, _, rfl⟩ fun c _ w τ ⟨s3, s4, e⟩ => by
      subst e
      obtain ⟨s', h⟩ := hm_inner q x c w s4 hq ha
      refine ⟨_, [some (.val (tx q)), some (.val (tx x)), some (.own (wl q.length (stepW (mq q c) w))), some (.val (signD c)), s'], gNm_ap, ?_, _, s', rfl⟩
      simp only [List.set_cons_succ, List.set_cons_zero]
      rw [sFor_ap, hm_r3 q x hq, Fl.of_ok]
      exact h
  subst h2
  exact ⟨s3, s4, h1⟩
theorem hm_ok (q x : List Nat) (hq : q.length ≤ 1000) (ha : ∀ c ∈ q, c < 128) : m_how_many [tx q, tx x] = .ok (.int (waysW q x q.length)) := by
  have st : startD 5 [tx q, tx x] = [some (.val (tx q)), some (.val (tx x)), none, none, none] := rfl
  obtain ⟨s3, s4, h1⟩ := hm_loop q x hq ha
  unfold hmIn at h1
  have ix := ixO_ok (wl_at q.length (waysW q x) q.length (Nat.le_refl _))
  unfold m_how_many b_how_many
  have c1 : eBlt lenD (aCons (eVar 0) aNil) [some (.val (tx q)), some (.val (tx x)), none, none, none] = .ok (.int q.length) := by simp only [sSeq_ap, sSet_ap, sSetO_ap, sIf_ap, sRet_ap, sRetO_ap, ownAt_ap, sNext_ap, sFor_ap, sApp_ap, sPut_ap, eIxO_ap, eCat_ap, eLenO_ap, iAny_ap, iter_str, iter_lst, tB_ap, tTru_ap, tAnd_ap, tOr_ap, tNot_ap, eOp_ap, eVar_ap, eC_ap, aNil_ap, aCons_ap, eCall_ap, eBlt_ap, eIf_ap, eAnd_ap, eOr_ap, eNot_ap, eMt0_ap, eMt_ap, eSl_ap, oNone_ap, oSome_ap, someInt_int, List.getElem?_cons_zero, List.getElem?_cons_succ, List.set_cons_succ, List.set_cons_zero, getV_val, getO_own, Rs.bind_ok, Fl.of_ok, thn_nx, thn_rt, flRes_rt, noEx_ok, boolOf_bl, truD_bl, addD_i, subD_i, ltI_i, leD_i, gtD_i, geD_i, eqD_i, eqD_s, neD_i, neD_s, lenD_lst, gNm_ap, if_true, Bool.false_eq_true, if_false, Bool.not_true, Bool.not_false, tx_len q hq]
  have c2 : sSetO 2 (eCat (eLst (aCons (eC (.int 1)) aNil)) (eOp mulD (eLst (aCons (eC (.int 0)) aNil)) (eBlt lenD (aCons (eVar 0) aNil)))) [some (.val (tx q)), some (.val (tx x)), none, none, none] = .nx [some (.val (tx q)), some (.val (tx x)), some (.own (wl q.length w00)), none, none] := by
    rw [sSetO_ap, eCat_ap, eLst_1, Rs.bind_ok, eOp_ap, eLst_1, Rs.bind_ok, c1, Rs.bind_ok, hm_ml q hq, Rs.bind_ok, hm_fl, hm_ct q hq, Fl.of_ok]
    rfl
  rw [runF_ap, st, sSeq_ap, c2, thn_nx]
  simp only [sSeq_ap, sSet_ap, sSetO_ap, sIf_ap, sRet_ap, sRetO_ap, ownAt_ap, sNext_ap, sFor_ap, sApp_ap, sPut_ap, eIxO_ap, eCat_ap, eLenO_ap, iAny_ap, iter_str, iter_lst, tB_ap, tTru_ap, tAnd_ap, tOr_ap, tNot_ap, eOp_ap, eVar_ap, eC_ap, aNil_ap, aCons_ap, eCall_ap, eBlt_ap, eIf_ap, eAnd_ap, eOr_ap, eNot_ap, eMt0_ap, eMt_ap, eSl_ap, oNone_ap, oSome_ap, someInt_int, List.getElem?_cons_zero, List.getElem?_cons_succ, List.set_cons_succ, List.set_cons_zero, getV_val, getO_own, Rs.bind_ok, Fl.of_ok, thn_nx, thn_rt, flRes_rt, noEx_ok, boolOf_bl, truD_bl, addD_i, subD_i, ltI_i, leD_i, gtD_i, geD_i, eqD_i, eqD_s, neD_i, neD_s, lenD_lst, gNm_ap, if_true, Bool.false_eq_true, if_false, Bool.not_true, Bool.not_false, tx_signs, h1, tx_len q hq, ix]
end Law

set_option Elab.async false
set_option linter.all false
set_option maxHeartbeats 1000000
namespace Law
open PySem PySem.Spec PyProof.Rows L2 FD
theorem lays_snoc (q x : List Nat) (a : Nat) : laysR (q ++ [a]) x = (laysR q x).flatMap (ext a x) := by
  unfold laysR; rw [List.foldl_append]; rfl
theorem range_lt : ∀ (n m : Nat), m ≤ n → (List.range n).filter (fun k => decide (k < m)) = List.range m
  | 0, m, h => by
    have : m = 0 := by omega
    subst this; rfl
  | n + 1, m, h => by
    rw [List.range_succ, List.filter_append]
    by_cases e : m = n + 1
    · subst e
      rw [List.range_succ]
      congr 1
      · rw [List.filter_eq_self]
        intro k hk
        have := List.mem_range.mp hk
        simp; omega
      · simp
    · rw [range_lt n m (by omega)]
      simp; omega
theorem ext_filter (a : Nat) (x l : List Nat) (k : Nat) (hk : k ≤ x.length) : (ext a x l).filter (fun m => decide (stt m ≤ k)) = ext a (x.take k) l := by
  unfold ext
  rw [List.filter_map, List.length_take, Nat.min_eq_left hk]
  congr 1
  rw [List.filter_filter]
  have e1 : ((List.range (x.length - stt l)).map (stt l + ·)).filter (fun p => decide (p < k)) = (List.range (k - stt l)).map (stt l + ·) := by
    rw [List.filter_map, ← range_lt (x.length - stt l) (k - stt l) (by omega)]
    congr 1
    apply List.filter_congr
    intro p _
    show decide (stt l + p < k) = decide (p < k - stt l)
    congr 1
    rw [eq_iff_iff]; omega
  rw [← e1, List.filter_filter]
  apply List.filter_congr
  intro p _
  show (decide (stt (l ++ [p]) ≤ k) && meetC a (x.getD p 0)) = (meetC a ((x.take k).getD p 0) && decide (p < k))
  rw [stt_snoc]
  by_cases h : p < k
  · rw [getD_take _ _ _ h, decide_eq_true (show p + 1 ≤ k by omega), decide_eq_true h, Bool.true_and, Bool.and_true]
  · rw [decide_eq_false (show ¬ p + 1 ≤ k by omega), decide_eq_false h, Bool.false_and, Bool.and_false]
theorem ext_none (a : Nat) (x l : List Nat) (h : x.length ≤ stt l) : ext a x l = [] := by
  unfold ext
  rw [show x.length - stt l = 0 by omega]; rfl
theorem flat_filter (a : Nat) (x : List Nat) (k : Nat) (hk : k ≤ x.length) : ∀ found : List (List Nat), (found.flatMap (ext a x)).filter (fun m => decide (stt m ≤ k)) = (found.filter (fun m => decide (stt m ≤ k))).flatMap (ext a (x.take k))
  | [] => rfl
  | l :: r => by
    rw [List.flatMap_cons, List.filter_append, ext_filter a x l k hk, flat_filter a x k hk r, List.filter_cons]
    split
    · rw [List.flatMap_cons]
    · rename_i h
      rw [ext_none a (x.take k) l (by rw [List.length_take]; simp at h; omega)]; rfl
theorem fold_filter (x : List Nat) (k : Nat) (hk : k ≤ x.length) : ∀ (q : List Nat) (found : List (List Nat)), (q.foldl (fun found a => found.flatMap (ext a x)) found).filter (fun m => decide (stt m ≤ k)) = q.foldl (fun found a => found.flatMap (ext a (x.take k))) (found.filter (fun m => decide (stt m ≤ k)))
  | [], found => rfl
  | a :: q, found => by
    rw [List.foldl_cons, List.foldl_cons, fold_filter x k hk q, flat_filter a x k hk]
theorem lays_filter (q x : List Nat) (k : Nat) (hk : k ≤ x.length) : (laysR q x).filter (fun m => decide (stt m ≤ k)) = laysR q (x.take k) := by
  unfold laysR
  rw [fold_filter x k hk]
  rfl
theorem ext_snoc (a c : Nat) (x l : List Nat) (h : stt l ≤ x.length) : (ext a (x ++ [c]) l).length = (ext a x l).length + if meetC a c = true then 1 else 0 := by
  unfold ext
  rw [List.length_map, List.length_map, List.length_append, List.length_singleton, show x.length + 1 - stt l = (x.length - stt l) + 1 by omega, List.range_succ, List.map_append, List.filter_append, List.length_append]
  congr 1
  · congr 1
    apply List.filter_congr
    intro p hp
    obtain ⟨k, hk, rfl⟩ := List.mem_map.mp hp
    have hk := List.mem_range.mp hk
    congr 1
    simp only [List.getD_eq_getElem?_getD]
    rw [List.getElem?_append_left (by omega)]
  · have e : (x ++ [c]).getD (stt l + (x.length - stt l)) 0 = c := by
      rw [show stt l + (x.length - stt l) = x.length by omega]
      simp [List.getD_eq_getElem?_getD]
    simp only [List.map_cons, List.map_nil, List.filter_cons, e, List.filter_nil]
    split <;> rfl
theorem flat_snoc (a c : Nat) (x : List Nat) : ∀ found : List (List Nat), (found.flatMap (ext a (x ++ [c]))).length = ((found.filter (fun m => decide (stt m ≤ x.length))).flatMap (ext a x)).length + if meetC a c = true then (found.filter (fun m => decide (stt m ≤ x.length))).length else 0
  | [] => by simp
  | l :: r => by
    have ih := flat_snoc a c x r
    rw [List.flatMap_cons, List.length_append, ih]
    by_cases h : stt l ≤ x.length
    · rw [ext_snoc a c x l h, List.filter_cons_of_pos (by simpa using h), List.flatMap_cons, List.length_append, List.length_cons]
      split <;> omega
    · rw [ext_none a (x ++ [c]) l (by rw [List.length_append, List.length_singleton]; omega), List.filter_cons_of_neg (by simpa using h)]
      simp
theorem lays_two (q x : List Nat) (a c : Nat) : (laysR (q ++ [a]) (x ++ [c])).length = (laysR (q ++ [a]) x).length + if meetC a c = true then (laysR q x).length else 0 := by
  rw [lays_snoc, flat_snoc, lays_filter q (x ++ [c]) x.length (by simp), List.take_left, lays_snoc]
theorem lays_one (x : List Nat) : laysR [] x = [[]] := rfl
theorem lays_empty (q : List Nat) (a : Nat) : laysR (q ++ [a]) [] = [] := by
  rw [lays_snoc, List.flatMap_eq_nil_iff]
  exact fun l _ => ext_none a [] l (by simp)
theorem take_next (q : List Nat) (j : Nat) (h : j < q.length) : q.take (j + 1) = q.take j ++ [q.getD j 0] := by
  rw [List.take_succ, List.getD_eq_getElem?_getD, List.getElem?_eq_getElem h]; rfl
theorem ways_lays (q : List Nat) : ∀ (n : Nat) (x : List Nat), x.length = n → ∀ j, j ≤ q.length → waysW q x j = ((laysR (q.take j) x).length : Nat)
  | 0, x, hx, j, hj => by
    have : x = [] := List.eq_nil_of_length_eq_zero hx
    subst this
    show w00 j = _
    cases j with
    | zero => simp [w00, lays_one]
    | succ j => rw [take_next q j (by omega), lays_empty]; simp [w00]
  | n + 1, x, hx, j, hj => by
    rcases List.eq_nil_or_concat x with e | ⟨y, c, e⟩
    · subst e; simp at hx
    · rw [List.concat_eq_append] at e
      subst e
      have ih := ways_lays q n y (by simpa using hx)
      have e : waysW q (y ++ [c]) = stepW (mq q c) (waysW q y) := by unfold waysW; rw [List.foldl_append]; rfl
      rw [e]
      cases j with
      | zero => rw [List.take_zero, lays_one]; simp only [stepW]; rw [ih 0 (Nat.zero_le _), List.take_zero, lays_one]
      | succ j =>
        have m : mq q c j = meetC (q.getD j 0) c := by
          unfold mq
          rw [List.getD_eq_getElem?_getD, List.getElem?_eq_getElem (show j < q.length by omega)]; rfl
        have i1 := ih (j + 1) hj
        rw [take_next q j (by omega)] at i1 ⊢
        rw [lays_two]
        simp only [stepW]
        rw [m, i1, ih j (by omega)]
        split <;> simp
theorem how_lays (q x : List Nat) : waysW q x q.length = ((laysR q x).length : Nat) := by
  have := ways_lays q x.length x rfl q.length (Nat.le_refl _)
  rw [List.take_length] at this
  exact this
/-! the first one is the least, the last one the greatest -/
theorem ep_least : ∀ (x q l : List Nat) (k j : Nat), Lay q x l → (epR q x k).getD j 0 ≤ k + l.getD j 0
  | [], q, l, k, j, h => by cases q <;> simp [epR]
  | c :: x, q, l, k, j, h => by
    cases q with
    | nil => simp [epR]
    | cons a q =>
      cases l with
      | nil => have := h.len; simp at this
      | cons p l =>
        simp only [epR]
        split
        · cases j with
          | zero => simp
          | succ j =>
            obtain ⟨h1, _, _, h3⟩ := h.tail
            simp only [List.getD_cons_succ]
            by_cases hj : j < l.length
            · have hl : ∀ i, i < l.length → 0 < l.getD i 0 := fun i hi => h1.low (by have := h3 (by omega); omega) i hi
              have ih := ep_least x q (l.map (· - 1)) (k + 1) j (h1.back hl)
              rw [getD_pred _ _ hj] at ih
              have := hl j hj
              omega
            · have hl := epR_len q x (k + 1)
              have := h1.len
              have e : (epR q x (k + 1)).getD j 0 = 0 := by
                rw [List.getD_eq_getElem?_getD, List.getElem?_eq_none (by omega)]; rfl
              omega
        · rename_i hm
          have h0 : 0 < (p :: l).getD 0 0 := by
            rcases Nat.eq_zero_or_pos p with z | z
            · subst z
              have := h.met 0 (by simp)
              simp only [List.getD_cons_zero] at this
              exact absurd this hm
            · simpa using z
          have hl := h.low h0
          by_cases hj : j < (p :: l).length
          · have ih := ep_least x (a :: q) ((p :: l).map (· - 1)) (k + 1) j (h.back hl)
            rw [getD_pred _ _ hj] at ih
            have := hl j hj
            omega
          · have hlen := epR_len (a :: q) x (k + 1)
            have := h.len
            have e : (epR (a :: q) x (k + 1)).getD j 0 = 0 := by
              rw [List.getD_eq_getElem?_getD, List.getElem?_eq_none (by omega)]; rfl
            omega
theorem first_least (q x l : List Nat) (h : Lay q x l) (j : Nat) : (epR q x 0).getD j 0 ≤ l.getD j 0 := by
  have := ep_least x q l 0 j h
  omega
theorem last_most (q x l : List Nat) (h : Lay q x l) (j : Nat) (hj : j < q.length) : l.getD j 0 ≤ (lastR q x).getD j 0 := by
  have hs := lay_subs x q l h
  have hE := (epR_subs q.reverse x.reverse 0).mpr (subs_rev q x hs)
  rw [List.length_reverse] at hE
  have f := first_least q.reverse x.reverse _ h.rev (q.length - 1 - j)
  have hl := h.len
  rw [getD_rev _ _ (by rw [List.length_map]; omega), List.length_map, getD_map _ _ _ (by omega), hl, show q.length - 1 - (q.length - 1 - j) = j by omega] at f
  have b := h.inn j (by omega)
  unfold lastR
  rw [getD_map _ _ _ (by rw [List.length_reverse]; omega), getD_rev _ _ (by omega), hE]
  omega
end Law

set_option Elab.async false
set_option linter.all false
set_option maxHeartbeats 1000000
namespace Law
open PySem PySem.Spec PyProof.Rows L2 FD
theorem sQuiet_nx {f : FS} {τ τ' : DS} (h : f τ = .nx τ') : sQuiet f τ = .nx τ' := by unfold sQuiet; rw [h]
theorem gen_first (e : FE) (g : FT) (c : Str) (A B P : D) (h1 : e [some (.val A), some (.val B), none] = .ok P) (h2 : g [some (.val A), some (.val B), some (.val P)] = .ok false) :
    runF 3 (sSeq (sQuiet (sSet 2 e)) (sSeq (sIf g (sRaise c) sNext) (sQuiet (sRet (eVar 2))))) [A, B] = .ok P := by
  have st : startD 3 [A, B] = [some (.val A), some (.val B), none] := rfl
  have q1 : sSet 2 e [some (.val A), some (.val B), none] = .nx [some (.val A), some (.val B), some (.val P)] := by simp only [sSeq_ap, sSet_ap, sSetO_ap, sIf_ap, sRet_ap, sRetO_ap, ownAt_ap, sNext_ap, sFor_ap, sApp_ap, sPut_ap, eIxO_ap, eCat_ap, eLenO_ap, iAny_ap, iter_str, iter_lst, tB_ap, tTru_ap, tAnd_ap, tOr_ap, tNot_ap, eOp_ap, eVar_ap, eC_ap, aNil_ap, aCons_ap, eCall_ap, eBlt_ap, eIf_ap, eAnd_ap, eOr_ap, eNot_ap, eMt0_ap, eMt_ap, eSl_ap, oNone_ap, oSome_ap, someInt_int, List.getElem?_cons_zero, List.getElem?_cons_succ, List.set_cons_succ, List.set_cons_zero, getV_val, getO_own, Rs.bind_ok, Fl.of_ok, thn_nx, thn_rt, flRes_rt, noEx_ok, boolOf_bl, truD_bl, addD_i, subD_i, ltI_i, leD_i, gtD_i, geD_i, eqD_i, eqD_s, neD_i, neD_s, lenD_lst, gNm_ap, if_true, Bool.false_eq_true, if_false, Bool.not_true, Bool.not_false, h1]
  have q2 : sRet (eVar 2) [some (.val A), some (.val B), some (.val P)] = .rt P := by simp only [sSeq_ap, sSet_ap, sSetO_ap, sIf_ap, sRet_ap, sRetO_ap, ownAt_ap, sNext_ap, sFor_ap, sApp_ap, sPut_ap, eIxO_ap, eCat_ap, eLenO_ap, iAny_ap, iter_str, iter_lst, tB_ap, tTru_ap, tAnd_ap, tOr_ap, tNot_ap, eOp_ap, eVar_ap, eC_ap, aNil_ap, aCons_ap, eCall_ap, eBlt_ap, eIf_ap, eAnd_ap, eOr_ap, eNot_ap, eMt0_ap, eMt_ap, eSl_ap, oNone_ap, oSome_ap, someInt_int, List.getElem?_cons_zero, List.getElem?_cons_succ, List.set_cons_succ, List.set_cons_zero, getV_val, getO_own, Rs.bind_ok, Fl.of_ok, thn_nx, thn_rt, flRes_rt, noEx_ok, boolOf_bl, truD_bl, addD_i, subD_i, ltI_i, leD_i, gtD_i, geD_i, eqD_i, eqD_s, neD_i, neD_s, lenD_lst, gNm_ap, if_true, Bool.false_eq_true, if_false, Bool.not_true, Bool.not_false]
  rw [runF_ap, st, sSeq_ap, sQuiet_nx q1, thn_nx, sSeq_ap, sIf_ap, h2, Fl.of_ok, if_neg (by simp), sNext_ap, thn_nx, sQuiet_rt q2]; rfl
theorem gen_firstx (e : FE) (g : FT) (h : FS) (c : Str) (A B P : D) (h1 : e [some (.val A), some (.val B), none] = .ok P) (h2 : g [some (.val A), some (.val B), some (.val P)] = .ok true) :
    runF 3 (sSeq (sQuiet (sSet 2 e)) (sSeq (sIf g (sRaise c) sNext) h)) [A, B] = .ex c := by
  have st : startD 3 [A, B] = [some (.val A), some (.val B), none] := rfl
  have q1 : sSet 2 e [some (.val A), some (.val B), none] = .nx [some (.val A), some (.val B), some (.val P)] := by simp only [sSeq_ap, sSet_ap, sSetO_ap, sIf_ap, sRet_ap, sRetO_ap, ownAt_ap, sNext_ap, sFor_ap, sApp_ap, sPut_ap, eIxO_ap, eCat_ap, eLenO_ap, iAny_ap, iter_str, iter_lst, tB_ap, tTru_ap, tAnd_ap, tOr_ap, tNot_ap, eOp_ap, eVar_ap, eC_ap, aNil_ap, aCons_ap, eCall_ap, eBlt_ap, eIf_ap, eAnd_ap, eOr_ap, eNot_ap, eMt0_ap, eMt_ap, eSl_ap, oNone_ap, oSome_ap, someInt_int, List.getElem?_cons_zero, List.getElem?_cons_succ, List.set_cons_succ, List.set_cons_zero, getV_val, getO_own, Rs.bind_ok, Fl.of_ok, thn_nx, thn_rt, flRes_rt, noEx_ok, boolOf_bl, truD_bl, addD_i, subD_i, ltI_i, leD_i, gtD_i, geD_i, eqD_i, eqD_s, neD_i, neD_s, lenD_lst, gNm_ap, if_true, Bool.false_eq_true, if_false, Bool.not_true, Bool.not_false, h1]
  rw [runF_ap, st, sSeq_ap, sQuiet_nx q1, thn_nx, sSeq_ap, sIf_ap, h2, Fl.of_ok, if_pos rfl]; rfl
theorem gen_last (g : List D → Rs D) (fs : FA) (e : FE) (A B P R : D) (as : List D) (h0 : fs [some (.val A), some (.val B), none] = .ok as) (h1 : g as = .ok P) (h2 : e [some (.val A), some (.val B), some (.val P)] = .ok R) :
    runF 3 (sSeq (sSetX 2 g fs) (sQuiet (sRet e))) [A, B] = .ok R := by
  have st : startD 3 [A, B] = [some (.val A), some (.val B), none] := rfl
  have q1 : sSetX 2 g fs [some (.val A), some (.val B), none] = .nx [some (.val A), some (.val B), some (.val P)] := by
    unfold sSetX
    rw [h0, Fl.of_ok]
    simp only [h1]
    rfl
  have q2 : sRet e [some (.val A), some (.val B), some (.val P)] = .rt R := by rw [sRet_ap, h2, Fl.of_ok]
  rw [runF_ap, st, sSeq_ap, q1, thn_nx, sQuiet_rt q2]; rfl
theorem nts_len1 (l : List Nat) : lenD [nts l] = .ok (.int l.length) := by rw [lenD_lst, List.length_map]
theorem first_g (q x : List Nat) (hq : q.length ≤ 1000) : (FD.tB (eOp ltI (eBlt lenD (aCons (eVar 2) aNil)) (eBlt lenD (aCons (eVar 0) aNil)))) [some (.val (tx q)), some (.val (tx x)), some (.val (nts (epR q x 0)))] = .ok (!subs q x) := by
  refine tB_ok (op2 (blt1 (var_ok rfl) (nts_len1 _)) (blt1 (var_ok rfl) (tx_len q hq)) ?_)
  rw [ltI_i]
  congr 2
  have h1 := epR_subs q x 0
  have h2 := epR_len q x 0
  cases h : subs q x with
  | true => rw [h1.mpr h]; simp
  | false =>
    have : (epR q x 0).length ≠ q.length := fun z => by rw [h1.mp z] at h; cases h
    simp; omega
theorem first_ok (q x : List Nat) (hq : q.length ≤ 1000) (hx : x.length ≤ 1000) (ha : ∀ c ∈ q, c < 128) (h : subs q x = true) : m_first_laying [tx q, tx x] = .ok (nts (epR q x 0)) := by
  have g := first_g q x hq
  rw [h] at g
  unfold m_first_laying b_first_laying
  exact gen_first _ _ _ _ _ _ (call2 (var_ok rfl) (var_ok rfl) (ep_ok q x hq hx ha)) g
theorem first_ex (q x : List Nat) (hq : q.length ≤ 1000) (hx : x.length ≤ 1000) (ha : ∀ c ∈ q, c < 128) (h : subs q x = false) : m_first_laying [tx q, tx x] = .ex "NoFit" := by
  have g := first_g q x hq
  rw [h] at g
  unfold m_first_laying b_first_laying
  exact gen_firstx _ _ _ _ _ _ _ (call2 (var_ok rfl) (var_ok rfl) (ep_ok q x hq hx ha)) g
theorem revs_ok (q x : List Nat) (hq : q.length ≤ 1000) (hx : x.length ≤ 1000) : aCons (eRev (eVar 0)) (aCons (eRev (eVar 1)) aNil) [some (.val (tx q)), some (.val (tx x)), none] = .ok [tx q.reverse, tx x.reverse] := by
  rw [aCons_ap, eRev_ap, var_ok (d := tx q) rfl, Rs.bind_ok, rev_tx q hq, Rs.bind_ok, aCons_ap, eRev_ap, var_ok (d := tx x) rfl, Rs.bind_ok, rev_tx x hx, Rs.bind_ok, aNil_ap]; rfl
theorem last_ok (q x : List Nat) (hq : q.length ≤ 1000) (hx : x.length ≤ 1000) (ha : ∀ c ∈ q, c < 128) (h : subs q x = true) : m_last_laying [tx q, tx x] = .ok (nts (lastR q x)) := by
  have hf := first_ok q.reverse x.reverse (by simpa using hq) (by simpa using hx) (fun c hc => ha c (by simpa using hc)) (subs_rev q x h)
  have cf := comp_map (set := gNm 0) (fe := (eOp subD (eOp subD (eBlt lenD (aCons (eVar 1) aNil)) (eC (.int 1))) (eVar 0))) (τ := [none, some (.val (tx x))]) (fun (k : Nat) => D.int k) (fun (k : Nat) => D.int k) (fun p => x.length - 1 - p) (epR q.reverse x.reverse 0).reverse fun p hp => by
      have hlt := ep_lt q.reverse x.reverse 0 p (by simpa using hp)
      rw [List.length_reverse] at hlt
      refine ⟨[some (.val (.int (p : Int))), some (.val (tx x))], rfl, op2 (op2 (blt1 (var_ok rfl) (tx_len x hx)) rfl subD_i) (var_ok rfl) ?_⟩
      rw [subD_i]
      congr 2
      omega
  have it : iRv (aCons (eVar 2) aNil) [some (.val (tx q)), some (.val (tx x)), some (.val (nts (epR q.reverse x.reverse 0)))] = .ok ((epR q.reverse x.reverse 0).reverse.map fun (k : Nat) => D.int k) := by
    have : iRv (aCons (eVar 2) aNil) [some (.val (tx q)), some (.val (tx x)), some (.val (nts (epR q.reverse x.reverse 0)))] = .ok ((epR q.reverse x.reverse 0).map fun (k : Nat) => D.int k).reverse := rfl
    rw [this, List.map_reverse]
  have hlen : (((epR q.reverse x.reverse 0).reverse.map fun p => x.length - 1 - p).map fun (k : Nat) => D.int k).length ≤ 1000 := by
    have := epR_len q.reverse x.reverse 0
    simp at this ⊢; omega
  have ec := comp_ok (k := 1) (idx := [1]) (τ := [some (.val (tx q)), some (.val (tx x)), some (.val (nts (epR q.reverse x.reverse 0)))]) it cf hlen
  unfold m_last_laying b_last_laying
  refine gen_last _ _ _ _ _ _ _ _ (revs_ok q x hq hx) hf ?_
  rw [ec]
  rfl
end Law

set_option Elab.async false
set_option linter.all false
set_option maxHeartbeats 1000000
namespace Law
open PySem PySem.Spec PyProof.Rows L2 FD
/-! counted from the front -/
def cntM : List Nat → List Nat → Nat
  | [], _ => 1
  | _ :: _, [] => 0
  | a :: q, c :: x => cntM (a :: q) x + if meetC a c = true then cntM q x else 0
theorem cnt_nil (x : List Nat) : cntM [] x = 1 := by unfold cntM; rfl
theorem cnt_none (q : List Nat) (h : q ≠ []) : cntM q [] = 0 := by
  cases q with
  | nil => exact absurd rfl h
  | cons a q => unfold cntM; rfl
theorem cnt_cons (a c : Nat) (q x : List Nat) : cntM (a :: q) (c :: x) = cntM (a :: q) x + if meetC a c = true then cntM q x else 0 := by rw [cntM]
theorem cnt_back (b d : Nat) : ∀ (x q : List Nat), cntM (q ++ [b]) (x ++ [d]) = cntM (q ++ [b]) x + if meetC b d = true then cntM q x else 0
  | [], [] => by
    show cntM [b] [d] = cntM [b] [] + _
    rw [cnt_cons]
  | [], a :: q => by
    show cntM (a :: (q ++ [b])) [d] = cntM (a :: (q ++ [b])) [] + _
    rw [cnt_cons, cnt_none (a :: (q ++ [b])) (by simp), cnt_none (q ++ [b]) (by simp), cnt_none (a :: q) (by simp)]
    simp
  | c :: x, [] => by
    have ih := cnt_back b d x []
    show cntM [b] (c :: (x ++ [d])) = cntM [b] (c :: x) + _
    simp only [List.nil_append, cnt_nil] at ih
    rw [cnt_cons, cnt_cons, ih]
    simp only [cnt_nil]
    omega
  | c :: x, a :: q => by
    have i1 := cnt_back b d x (a :: q)
    have i2 := cnt_back b d x q
    show cntM (a :: (q ++ [b])) (c :: (x ++ [d])) = cntM (a :: (q ++ [b])) (c :: x) + if meetC b d = true then cntM (a :: q) (c :: x) else 0
    rw [List.cons_append] at i1
    rw [cnt_cons, cnt_cons, cnt_cons, i1, i2]
    split <;> split <;> omega
theorem lays_cnt : ∀ (n : Nat) (x : List Nat), x.length = n → ∀ q, (laysR q x).length = cntM q x
  | 0, x, hx, q => by
    have : x = [] := List.eq_nil_of_length_eq_zero hx
    subst this
    rcases List.eq_nil_or_concat q with e | ⟨p, b, e⟩
    · subst e; rw [cnt_nil, lays_one]; rfl
    · rw [List.concat_eq_append] at e
      subst e
      rw [lays_empty, cnt_none _ (by simp)]; rfl
  | n + 1, x, hx, q => by
    rcases List.eq_nil_or_concat x with e | ⟨y, d, e⟩
    · subst e; simp at hx
    · rw [List.concat_eq_append] at e
      subst e
      have ih := lays_cnt n y (by simpa using hx)
      rcases List.eq_nil_or_concat q with e | ⟨p, b, e⟩
      · subst e; rw [cnt_nil, lays_one]; rfl
      · rw [List.concat_eq_append] at e
        subst e
        rw [lays_two, cnt_back, ih, ih]
theorem lays_c (q x : List Nat) : (laysR q x).length = cntM q x := lays_cnt x.length x rfl q
theorem cnt_rev : ∀ (x q : List Nat), cntM q.reverse x.reverse = cntM q x
  | [], q => by
    cases q with
    | nil => rfl
    | cons a q => rw [List.reverse_nil, cnt_none _ (by simp), cnt_none _ (by simp)]
  | c :: x, q => by
    cases q with
    | nil => rw [List.reverse_nil, cnt_nil, cnt_nil]
    | cons a q =>
      rw [List.reverse_cons, List.reverse_cons, cnt_back, cnt_rev x q, cnt_cons]
      have := cnt_rev x (a :: q)
      rw [List.reverse_cons] at this
      rw [this]
theorem cnt_more (q x : List Nat) (c : Nat) : cntM q x ≤ cntM q (c :: x) := by
  cases q with
  | nil => rw [cnt_nil, cnt_nil]; exact Nat.le_refl _
  | cons a q => rw [cnt_cons]; exact Nat.le_add_right _ _
theorem cnt_pre (q x : List Nat) : ∀ o : List Nat, cntM q x ≤ cntM q (o ++ x)
  | [] => Nat.le_refl _
  | c :: o => Nat.le_trans (cnt_pre q x o) (cnt_more q (o ++ x) c)
theorem cnt_app (q x o : List Nat) : cntM q x ≤ cntM q (x ++ o) := by
  rw [← cnt_rev x q, ← cnt_rev (x ++ o) q, List.reverse_append]
  exact cnt_pre _ _ _
/-! the first one of a longer query -/
theorem ep_long (a : Nat) : ∀ (x q : List Nat) (k : Nat), (epR (q ++ [a]) x k).take q.length = epR q x k
  | [], q, k => by cases q <;> simp [epR]
  | c :: x, [], k => by simp [epR]
  | c :: x, b :: q, k => by
    rw [List.cons_append]
    simp only [epR]
    split
    · rw [List.length_cons, List.take_succ_cons, ep_long a x q (k + 1)]
    · exact ep_long a x (b :: q) (k + 1)
theorem subs_long (q x : List Nat) (a : Nat) (h : subs (q ++ [a]) x = true) : subs q x = true := by
  have := (lay_first _ x h).take q.length
  rw [List.take_left] at this
  exact lay_subs x q _ this
/-! no laying twice -/
theorem lays_nd (q x : List Nat) : (laysR q x).Pairwise (· ≠ ·) := by
  have ext_nd : ∀ (a : Nat) (l : List Nat), (ext a x l).Pairwise (· ≠ ·) := fun a l => by
    unfold ext
    refine List.pairwise_map.mpr ?_
    refine List.Pairwise.filter _ (List.pairwise_map.mpr ?_)
    refine List.Pairwise.imp (R := (· < ·)) (fun {i j} h e => ?_) List.pairwise_lt_range
    have := List.append_cancel_left e
    have : stt l + i = stt l + j := by simpa using this
    omega
  have step : ∀ (a : Nat) (found : List (List Nat)), found.Pairwise (· ≠ ·) → (found.flatMap (ext a x)).Pairwise (· ≠ ·) := fun a found h => by
    refine List.pairwise_flatMap.mpr ⟨fun l _ => ext_nd a l, h.imp fun {l m} hlm y hy z hz e => ?_⟩
    obtain ⟨p, rfl, _⟩ := (mem_ext a x l y).mp hy
    obtain ⟨r, rfl, _⟩ := (mem_ext a x m z).mp hz
    exact hlm (List.append_inj_left' e rfl)
  have fold : ∀ (q : List Nat) (found : List (List Nat)), found.Pairwise (· ≠ ·) → (q.foldl (fun found a => found.flatMap (ext a x)) found).Pairwise (· ≠ ·) := fun q => by
    induction q with
    | nil => exact fun _ h => h
    | cons a q ih => exact fun found h => ih _ (step a found h)
  exact fold q [[]] (by simp)
theorem same_by {l m : List Nat} {n : Nat} (h1 : l.length = n) (h2 : m.length = n) (h : ∀ j, j < n → l.getD j 0 = m.getD j 0) : l = m := by
  apply List.ext_getElem (by omega)
  intro i z1 z2
  have := h i (by omega)
  simpa [List.getD_eq_getElem?_getD, List.getElem?_eq_getElem z1, List.getElem?_eq_getElem z2] using this
theorem one_iff (q x : List Nat) (h : subs q x = true) : (laysR q x).length = 1 ↔ epR q x 0 = lastR q x := by
  have m1 := (mem_lays q x _).mpr (lay_first q x h)
  have m2 := (mem_lays q x _).mpr (lay_last q x h)
  constructor
  · intro e
    match hl : laysR q x, e with
    | [l], _ =>
      rw [hl] at m1 m2
      have a : epR q x 0 = l := by simpa using m1
      have b : lastR q x = l := by simpa using m2
      rw [a, b]
  · intro e
    have all : ∀ l ∈ laysR q x, l = epR q x 0 := fun l hl => by
      have L := (mem_lays q x l).mp hl
      refine same_by L.len (lay_first q x h).len fun j hj => ?_
      have a := first_least q x l L j
      have b := last_most q x l L j hj
      rw [← e] at b
      omega
    have nd := lays_nd q x
    match hl : laysR q x with
    | [] => rw [hl] at m1; cases m1
    | [l] => rfl
    | l :: m :: r =>
      rw [hl] at nd all
      have := (List.pairwise_cons.mp nd).1 m (by simp)
      exact absurd ((all l (by simp)).trans (all m (by simp)).symm) this
end Law

set_option Elab.async false
set_option linter.all false
set_option maxHeartbeats 1000000
namespace Law
open PySem PySem.Spec PyProof.Rows L2 FD
theorem fits_lays (q x : List Nat) : subs q x = !(laysR q x).isEmpty := by
  cases h : subs q x with
  | true =>
    have := (mem_lays q x _).mpr (lay_first q x h)
    cases e : laysR q x with
    | nil => rw [e] at this; cases this
    | cons => rfl
  | false =>
    cases e : laysR q x with
    | nil => rfl
    | cons l r =>
      have := lay_subs x q l ((mem_lays q x l).mp (by rw [e]; exact List.mem_cons_self ..))
      rw [h] at this; cases this
theorem fits_cnt (q x : List Nat) : subs q x = decide (0 < cntM q x) := by
  rw [fits_lays, ← lays_c]
  cases laysR q x <;> simp
theorem many_ok (q x : List Nat) (hq : q.length ≤ 1000) (ha : ∀ c ∈ q, c < 128) : m_how_many [tx q, tx x] = .ok (.int (cntM q x : Nat)) := by
  rw [hm_ok q x hq ha, how_lays, lays_c]
theorem eqv_nn : ∀ (l m : List Nat), PyData.eqvAll (toPys (l.map fun (k : Nat) => D.int k)) (toPys (m.map fun (k : Nat) => D.int k)) = decide (l = m)
  | [], [] => by simp [toPys, PyData.eqvAll]
  | [], _ :: _ => by simp [toPys, PyData.eqvAll]
  | _ :: _, [] => by simp [toPys, PyData.eqvAll]
  | a :: l, b :: m => by
    have ih := eqv_nn l m
    simp only [List.map_cons, toPys, toPy, PyData.eqvAll, PyData.eqv, ih]
    rw [Bool.eq_iff_iff]
    simp
    intro _
    omega
theorem eq_nn (l m : List Nat) : eqD (nts l) (nts m) = .ok (.bl (decide (l = m))) := by
  have e : eqvD (nts l) (nts m) = decide (l = m) := by simp only [eqvD, toPy, PyData.eqv, eqv_nn]
  have o1 := okD_nats l
  have o2 := okD_nats m
  simp only [eqD, o1, o2, e, and_self, if_true]
theorem ne_nn (l m : List Nat) : neD (nts l) (nts m) = .ok (.bl (!decide (l = m))) := by
  have e : eqvD (nts l) (nts m) = decide (l = m) := by simp only [eqvD, toPy, PyData.eqv, eqv_nn]
  have o1 := okD_nats l
  have o2 := okD_nats m
  simp only [neD, o1, o2, e, and_self, if_true]
theorem isLay (q x l : List Nat) (hq : q.length ≤ 1000) (hx : x.length ≤ 1000) (ha : ∀ c ∈ q, c < 128) (h : Lay q x l) : m_is_laying [tx q, tx x, nts l] = .ok (.bl true) := by
  have := laying_ok q x (toI l) hq hx ha
  rw [(lay_iff q x l).mpr h] at this
  rw [nts_its]
  exact this
theorem cut_last (l : List Nat) (h : l ≠ []) : slD (nts l) none (some (-1)) = .ok (nts (l.take (l.length - 1))) := by
  have hp := List.length_pos_iff.mpr h
  show Rs.ok (D.lst (FD.cutD _ _ _)) = _
  unfold FD.cutD
  have e0 : HT.sIx (l.map fun (k : Nat) => D.int k).length 0 none = 0 := rfl
  have e1 : HT.sIx (l.map fun (k : Nat) => D.int k).length (l.map fun (k : Nat) => D.int k).length (some (-1)) = l.length - 1 := by
    rw [List.length_map]
    unfold HT.sIx
    simp
    omega
  rw [e0, e1, List.drop_zero, Nat.sub_zero, ← List.map_take]
/-! the pieces -/
abbrev U8 (a0 a1 a2 a3 a4 a5 a6 a7 : Option Sl) : DS := [a0, a1, a2, a3, a4, a5, a6, a7]
def rF : FS := sRet (eC (.bl false))
def e4E : FE := (eOp addD (eVar 3) (eOp ixD (eC (.str "abc1xB")) (eCall m__law_drawn (aCons (eVar 0) (aCons (eC (.int 55)) (aCons (eC (.int 6)) aNil))))))
def g6T : FT := (tOrD (FD.tB (eOp neD (eCall m_fits (aCons (eVar 3) (aCons (eVar 1) aNil))) (eOp gtD (eVar 5) (eC (.int 0))))) (FD.tB (eOp neD (eCall m_how_many (aCons (eRev (eVar 3)) (aCons (eRev (eVar 1)) aNil))) (eVar 5))))
def g7T : FT := (tOrD (FD.tB (eOp ltI (eCall m_how_many (aCons (eVar 3) (aCons (eOp addD (eVar 1) (eVar 2)) aNil))) (eVar 5))) (tOrD (FD.tB (eOp ltI (eCall m_how_many (aCons (eVar 3) (aCons (eOp addD (eVar 2) (eVar 1)) aNil))) (eVar 5))) (FD.tB (eOp neD (eCall m_how_many (aCons (eC (.str "")) (aCons (eVar 1) aNil))) (eC (.int 1))))))
def g8T : FT := (tAndD (FD.tB (eOp gtD (eCall m_how_many (aCons (eVar 4) (aCons (eVar 1) aNil))) (eC (.int 0)))) (tNotD (tTru (eCall m_fits (aCons (eVar 3) (aCons (eVar 1) aNil))))))
def g9T : FT := (FD.tB (eOp eqD (eVar 5) (eC (.int 0))))
def tryS : FS := (sTryE (sExprX m_first_laying (aCons (eVar 3) (aCons (eVar 1) aNil))) (fun c => c == "NoFit") (sRet (eNot (eCall m_fits (aCons (eVar 4) (aCons (eVar 1) aNil))))))
def g12T : FT := (tOrD (tNotD (tTru (eCall m_is_laying (aCons (eVar 3) (aCons (eVar 1) (aCons (eVar 6) aNil)))))) (tNotD (tTru (eCall m_is_laying (aCons (eVar 3) (aCons (eVar 1) (aCons (eVar 7) aNil)))))))
def lateE : FE := (fun τ => ((eComp 1 [6, 7] (iRg1 (aCons (eBlt lenD (aCons (eVar 3) aNil)) aNil)) (gNm 0) (FD.tB (eOp gtD (eOp ixD (eVar 1) (eVar 0)) (eOp ixD (eVar 2) (eVar 0)))) (eVar 0)) τ).bind fun ds => .ok (.lst ds))
def g13T : FT := (tOrD (FD.tB (eOp neD lateE (eLst aNil))) (FD.tB (eOp neD (eOp eqD (eVar 5) (eC (.int 1))) (eOp eqD (eVar 6) (eVar 7)))))
def turnE : FE := (fun τ => ((eComp 1 [1] (iAny (eRev (eVar 6))) (gNm 0) (fun _ => .ok true) (eOp subD (eOp subD (eBlt lenD (aCons (eVar 1) aNil)) (eC (.int 1))) (eVar 0))) τ).bind fun ds => .ok (.lst ds))
def g14T : FT := (FD.tB (eOp neD (eCall m_last_laying (aCons (eRev (eVar 3)) (aCons (eRev (eVar 1)) aNil))) turnE))
def endE : FE := (eOr (eNot (eCall m_fits (aCons (eVar 4) (aCons (eVar 1) aNil)))) (eOp eqD (eSl (eCall m_first_laying (aCons (eVar 4) (aCons (eVar 1) aNil))) oNone (oSome (eNeg (eC (.int 1))))) (eVar 6)))
theorem law_b : b_law = (sSeq (sSet 1 (eCall m__law_name (aCons (eVar 0) (aCons (eC (.int 0)) aNil))))
      (sSeq (sSet 2 (eCall m__law_name (aCons (eVar 0) (aCons (eC (.int 12)) aNil))))
      (sSeq (sSet 3 (eCall m__law_query (aCons (eVar 0) (aCons (eC (.int 30)) (aCons (eVar 1) (aCons (eC (.int 6)) aNil))))))
      (sSeq (sSet 4 e4E) (sSeq (sSet 5 (eCall m_how_many (aCons (eVar 3) (aCons (eVar 1) aNil))))
      (sSeq (sIf g6T rF sNext) (sSeq (sIf g7T rF sNext) (sSeq (sIf g8T rF sNext) (sSeq (sIf g9T (sSeq tryS rF) sNext)
      (sSeq (sSet 6 (eCall m_first_laying (aCons (eVar 3) (aCons (eVar 1) aNil)))) (sSeq (sSet 7 (eCall m_last_laying (aCons (eVar 3) (aCons (eVar 1) aNil))))
      (sSeq (sIf g12T rF sNext) (sSeq (sIf g13T rF sNext) (sSeq (sIf g14T rF sNext) (sRet endE))))))))))))))) := by
  unfold b_law e4E g6T g7T g8T g9T tryS g12T g13T g14T endE lateE turnE rF; rfl
theorem gen_lawF (e1 e2 e3 e4 e5 : FE) (g6 g7 g8 g9 : FT) (T rf rest : FS) (A V1 V2 V3 V4 V5 R : D)
    (h1 : e1 (U8 (some (.val A)) none none none none none none none) = .ok V1) (h2 : e2 (U8 (some (.val A)) (some (.val V1)) none none none none none none) = .ok V2) (h3 : e3 (U8 (some (.val A)) (some (.val V1)) (some (.val V2)) none none none none none) = .ok V3)
    (h4 : e4 (U8 (some (.val A)) (some (.val V1)) (some (.val V2)) (some (.val V3)) none none none none) = .ok V4) (h5 : e5 (U8 (some (.val A)) (some (.val V1)) (some (.val V2)) (some (.val V3)) (some (.val V4)) none none none) = .ok V5)
    (k6 : g6 (U8 (some (.val A)) (some (.val V1)) (some (.val V2)) (some (.val V3)) (some (.val V4)) (some (.val V5)) none none) = .ok false) (k7 : g7 (U8 (some (.val A)) (some (.val V1)) (some (.val V2)) (some (.val V3)) (some (.val V4)) (some (.val V5)) none none) = .ok false)
    (k8 : g8 (U8 (some (.val A)) (some (.val V1)) (some (.val V2)) (some (.val V3)) (some (.val V4)) (some (.val V5)) none none) = .ok false) (k9 : g9 (U8 (some (.val A)) (some (.val V1)) (some (.val V2)) (some (.val V3)) (some (.val V4)) (some (.val V5)) none none) = .ok true)
    (hT : T (U8 (some (.val A)) (some (.val V1)) (some (.val V2)) (some (.val V3)) (some (.val V4)) (some (.val V5)) none none) = .rt R) :
    runF 8 (sSeq (sSet 1 e1) (sSeq (sSet 2 e2) (sSeq (sSet 3 e3) (sSeq (sSet 4 e4) (sSeq (sSet 5 e5) (sSeq (sIf g6 rf sNext) (sSeq (sIf g7 rf sNext) (sSeq (sIf g8 rf sNext) (sSeq (sIf g9 (sSeq T rf) sNext) rest))))))))) [A] = .ok R := by
  have st : startD 8 [A] = U8 (some (.val A)) none none none none none none none := rfl
  rw [runF_ap, st]
  simp only [sSeq_ap, sSet_ap, sSetO_ap, sIf_ap, sRet_ap, sRetO_ap, ownAt_ap, sNext_ap, sFor_ap, sApp_ap, sPut_ap, eIxO_ap, eCat_ap, eLenO_ap, iAny_ap, iter_str, iter_lst, tB_ap, tTru_ap, tAnd_ap, tOr_ap, tNot_ap, eOp_ap, eVar_ap, eC_ap, aNil_ap, aCons_ap, eCall_ap, eBlt_ap, eIf_ap, eAnd_ap, eOr_ap, eNot_ap, eMt0_ap, eMt_ap, eSl_ap, oNone_ap, oSome_ap, someInt_int, List.getElem?_cons_zero, List.getElem?_cons_succ, List.set_cons_succ, List.set_cons_zero, getV_val, getO_own, Rs.bind_ok, Fl.of_ok, thn_nx, thn_rt, flRes_rt, noEx_ok, boolOf_bl, truD_bl, addD_i, subD_i, ltI_i, leD_i, gtD_i, geD_i, eqD_i, eqD_s, neD_i, neD_s, lenD_lst, gNm_ap, if_true, Bool.false_eq_true, if_false, Bool.not_true, Bool.not_false, h1, h2, h3, h4, h5, k6, k7, k8, k9, hT]
theorem gen_lawT (e1 e2 e3 e4 e5 e6 e7 e15 : FE) (g6 g7 g8 g9 g12 g13 g14 : FT) (T rf : FS) (A V1 V2 V3 V4 V5 V6 V7 R : D)
    (h1 : e1 (U8 (some (.val A)) none none none none none none none) = .ok V1) (h2 : e2 (U8 (some (.val A)) (some (.val V1)) none none none none none none) = .ok V2) (h3 : e3 (U8 (some (.val A)) (some (.val V1)) (some (.val V2)) none none none none none) = .ok V3)
    (h4 : e4 (U8 (some (.val A)) (some (.val V1)) (some (.val V2)) (some (.val V3)) none none none none) = .ok V4) (h5 : e5 (U8 (some (.val A)) (some (.val V1)) (some (.val V2)) (some (.val V3)) (some (.val V4)) none none none) = .ok V5)
    (k6 : g6 (U8 (some (.val A)) (some (.val V1)) (some (.val V2)) (some (.val V3)) (some (.val V4)) (some (.val V5)) none none) = .ok false) (k7 : g7 (U8 (some (.val A)) (some (.val V1)) (some (.val V2)) (some (.val V3)) (some (.val V4)) (some (.val V5)) none none) = .ok false)
    (k8 : g8 (U8 (some (.val A)) (some (.val V1)) (some (.val V2)) (some (.val V3)) (some (.val V4)) (some (.val V5)) none none) = .ok false) (k9 : g9 (U8 (some (.val A)) (some (.val V1)) (some (.val V2)) (some (.val V3)) (some (.val V4)) (some (.val V5)) none none) = .ok false)
    (h6 : e6 (U8 (some (.val A)) (some (.val V1)) (some (.val V2)) (some (.val V3)) (some (.val V4)) (some (.val V5)) none none) = .ok V6) (h7 : e7 (U8 (some (.val A)) (some (.val V1)) (some (.val V2)) (some (.val V3)) (some (.val V4)) (some (.val V5)) (some (.val V6)) none) = .ok V7)
    (k12 : g12 (U8 (some (.val A)) (some (.val V1)) (some (.val V2)) (some (.val V3)) (some (.val V4)) (some (.val V5)) (some (.val V6)) (some (.val V7))) = .ok false) (k13 : g13 (U8 (some (.val A)) (some (.val V1)) (some (.val V2)) (some (.val V3)) (some (.val V4)) (some (.val V5)) (some (.val V6)) (some (.val V7))) = .ok false)
    (k14 : g14 (U8 (some (.val A)) (some (.val V1)) (some (.val V2)) (some (.val V3)) (some (.val V4)) (some (.val V5)) (some (.val V6)) (some (.val V7))) = .ok false) (h15 : e15 (U8 (some (.val A)) (some (.val V1)) (some (.val V2)) (some (.val V3)) (some (.val V4)) (some (.val V5)) (some (.val V6)) (some (.val V7))) = .ok R) :
    runF 8 (sSeq (sSet 1 e1) (sSeq (sSet 2 e2) (sSeq (sSet 3 e3) (sSeq (sSet 4 e4) (sSeq (sSet 5 e5) (sSeq (sIf g6 rf sNext) (sSeq (sIf g7 rf sNext) (sSeq (sIf g8 rf sNext) (sSeq (sIf g9 (sSeq T rf) sNext)
      (sSeq (sSet 6 e6) (sSeq (sSet 7 e7) (sSeq (sIf g12 rf sNext) (sSeq (sIf g13 rf sNext) (sSeq (sIf g14 rf sNext) (sRet e15))))))))))))))) [A] = .ok R := by
  have st : startD 8 [A] = U8 (some (.val A)) none none none none none none none := rfl
  rw [runF_ap, st]
  simp only [sSeq_ap, sSet_ap, sSetO_ap, sIf_ap, sRet_ap, sRetO_ap, ownAt_ap, sNext_ap, sFor_ap, sApp_ap, sPut_ap, eIxO_ap, eCat_ap, eLenO_ap, iAny_ap, iter_str, iter_lst, tB_ap, tTru_ap, tAnd_ap, tOr_ap, tNot_ap, eOp_ap, eVar_ap, eC_ap, aNil_ap, aCons_ap, eCall_ap, eBlt_ap, eIf_ap, eAnd_ap, eOr_ap, eNot_ap, eMt0_ap, eMt_ap, eSl_ap, oNone_ap, oSome_ap, someInt_int, List.getElem?_cons_zero, List.getElem?_cons_succ, List.set_cons_succ, List.set_cons_zero, getV_val, getO_own, Rs.bind_ok, Fl.of_ok, thn_nx, thn_rt, flRes_rt, noEx_ok, boolOf_bl, truD_bl, addD_i, subD_i, ltI_i, leD_i, gtD_i, geD_i, eqD_i, eqD_s, neD_i, neD_s, lenD_lst, gNm_ap, if_true, Bool.false_eq_true, if_false, Bool.not_true, Bool.not_false, h1, h2, h3, h4, h5, k6, k7, k8, k9, h6, h7, k12, k13, k14, h15]
section
variable (A : D) (x o q p : List Nat) (a6 a7 : Option Sl)
abbrev W8 (n : Nat) : DS := U8 (some (.val A)) (some (.val (tx x))) (some (.val (tx o))) (some (.val (tx q))) (some (.val (tx p))) (some (.val (.int (n : Nat)))) a6 a7
theorem rev_v {n : Nat} {τ : DS} {l : List Nat} (hl : l.length ≤ 1000) (h : τ[n]? = some (some (.val (tx l)))) : eRev (eVar n) τ = .ok (tx l.reverse) := by
  rw [eRev_ap, var_ok h, Rs.bind_ok, rev_tx l hl]
theorem g6_ok (hx : x.length ≤ 1000) (hq : q.length ≤ 1000) (ha : ∀ c ∈ q, c < 128) : g6T (W8 A x o q p a6 a7 (cntM q x)) = .ok false := by
  have hr := many_ok q.reverse x.reverse (by simpa using hq) (fun c hc => ha c (by simpa using hc))
  rw [cnt_rev] at hr
  unfold g6T
  refine or_tr (tB_ok (op2 (call2 (var_ok rfl) (var_ok rfl) (fits_ok q x hq hx ha)) (op2 (var_ok rfl) rfl gtD_i) ?_)) (tB_ok (op2 (call2 (rev_v hq rfl) (rev_v hx rfl) hr) (var_ok rfl) ?_))
  · rw [ne_bl, fits_cnt]
    have : decide ((0 : Int) < ((cntM q x : Nat) : Int)) = decide (0 < cntM q x) := by congr 1; rw [eq_iff_iff]; omega
    rw [this]; simp
  · rw [neD_i]; simp
theorem g7_ok (hx : x.length ≤ 100) (ho : o.length ≤ 100) (hq : q.length ≤ 100) (ha : ∀ c ∈ q, c < 128) : g7T (W8 A x o q p a6 a7 (cntM q x)) = .ok false := by
  have ee : ("" : Str) = ⟨([] : List Nat).toArray⟩ := by decide +kernel
  have h1 := many_ok q (x ++ o) (by omega) ha
  have h2 := many_ok q (o ++ x) (by omega) ha
  have h3 := many_ok [] x (by simp) (by simp)
  rw [cnt_nil] at h3
  have c1 := cnt_app q x o
  have c2 := cnt_pre q x o
  unfold g7T
  refine or_tr (tB_ok (op2 (call2 (var_ok rfl) (op2 (var_ok rfl) (var_ok rfl) (add_tx x o (by omega) (by omega))) h1) (var_ok rfl) ?_)) (or_tr (tB_ok (op2 (call2 (var_ok rfl) (op2 (var_ok rfl) (var_ok rfl) (add_tx o x (by omega) (by omega))) h2) (var_ok rfl) ?_)) (tB_ok (op2 (call2 (show eC (.str "") _ = .ok (tx []) by rw [eC_ap, ee]) (var_ok rfl) h3) rfl rfl)))
  · rw [ltI_i]; congr 2; simp; omega
  · rw [ltI_i]; congr 2; simp; omega
theorem g8_ok (hx : x.length ≤ 1000) (hq : q.length ≤ 1000) (ha : ∀ c ∈ q, c < 128) (hp : p.length ≤ 1000) (hpa : ∀ c ∈ p, c < 128) (hl : subs p x = true → subs q x = true) (n : Nat) : g8T (W8 A x o q p a6 a7 n) = .ok false := by
  have h1 := many_ok p x hp hpa
  have hf := fits_ok q x hq hx ha
  unfold g8T
  have t1 : FD.tB (eOp gtD (eCall m_how_many (aCons (eVar 4) (aCons (eVar 1) aNil))) (eC (.int 0))) (W8 A x o q p a6 a7 n) = .ok (subs p x) := by
    refine tB_ok (op2 (call2 (var_ok rfl) (var_ok rfl) h1) rfl ?_)
    rw [gtD_i, fits_cnt]; congr 2; congr 1; rw [eq_iff_iff]; omega
  have t2 : tNotD (tTru (eCall m_fits (aCons (eVar 3) (aCons (eVar 1) aNil)))) (W8 A x o q p a6 a7 n) = .ok (!subs q x) := tn_ok (tru_ok (call2 (var_ok rfl) (var_ok rfl) hf))
  rw [tAnd_ap, t1, Rs.bind_ok]
  cases e : subs p x with
  | true => rw [if_pos rfl, t2, hl e]; rfl
  | false => rw [if_neg (by simp)]
theorem g9_ok (n : Nat) : g9T (W8 A x o q p a6 a7 n) = .ok (decide (n = 0)) := by
  refine tB_ok (op2 (var_ok rfl) rfl ?_)
  rw [eqD_i]; congr 2
  rw [Bool.eq_iff_iff]; simp
theorem try_ok (n : Nat) (hx : x.length ≤ 1000) (hq : q.length ≤ 1000) (ha : ∀ c ∈ q, c < 128) (hp : p.length ≤ 1000) (hpa : ∀ c ∈ p, c < 128) (h : subs q x = false) (h2 : subs p x = false) : tryS (W8 A x o q p none none n) = .rt (.bl true) := by
  have hf := first_ex q x hq hx ha h
  have hb : sExprX m_first_laying (aCons (eVar 3) (aCons (eVar 1) aNil)) (W8 A x o q p none none n) = .rs "NoFit" (W8 A x o q p none none n) := by
    unfold sExprX
    have : aCons (eVar 3) (aCons (eVar 1) aNil) (W8 A x o q p none none n) = .ok [tx q, tx x] := rfl
    rw [this, Fl.of_ok]
    simp only [hf]
  have he : sRet (eNot (eCall m_fits (aCons (eVar 4) (aCons (eVar 1) aNil)))) (W8 A x o q p none none n) = .rt (.bl true) := by
    rw [sRet_ap, eNot_ap, call2 (var_ok rfl) (var_ok rfl) (fits_ok p x hp hx hpa), Rs.bind_ok, truD_bl, Rs.bind_ok, h2]; rfl
  unfold tryS sTryE
  rw [if_pos (by rfl), hb]
  simp only [beq_self_eq_true, if_true, he]
theorem g12_ok (n : Nat) (hx : x.length ≤ 1000) (hq : q.length ≤ 1000) (ha : ∀ c ∈ q, c < 128) (h : subs q x = true) : g12T (W8 A x o q p (some (.val (nts (epR q x 0)))) (some (.val (nts (lastR q x)))) n) = .ok false := by
  unfold g12T
  exact or_tr (tn_ok (tru_ok (call3 (var_ok rfl) (var_ok rfl) (var_ok rfl) (isLay q x _ hq hx ha (lay_first q x h))))) (tn_ok (tru_ok (call3 (var_ok rfl) (var_ok rfl) (var_ok rfl) (isLay q x _ hq hx ha (lay_last q x h)))))
theorem late_ok (n : Nat) (hq : q.length ≤ 1000) (h : subs q x = true) : lateE (W8 A x o q p (some (.val (nts (epR q x 0)))) (some (.val (nts (lastR q x)))) n) = .ok (.lst []) := by
  have l1 := (lay_first q x h).len
  have l2 := (lay_last q x h).len
  have cf := comp_filter (set := gNm 0) (ft := FD.tB (eOp gtD (eOp ixD (eVar 1) (eVar 0)) (eOp ixD (eVar 2) (eVar 0)))) (fe := eVar 0) (τ := [none, some (.val (nts (epR q x 0))), some (.val (nts (lastR q x)))]) (fun (k : Nat) => D.int (0 + k)) (fun (k : Nat) => D.int (0 + k)) (fun k => decide ((((lastR q x).getD k 0 : Nat) : Int) < (((epR q x 0).getD k 0 : Nat) : Int))) (List.range q.length) fun k hk => by
    have hk := List.mem_range.mp hk
    refine ⟨[some (.val (.int (0 + (k : Nat)))), some (.val (nts (epR q x 0))), some (.val (nts (lastR q x)))], rfl, tB_ok (op2 (op2 (var_ok rfl) (var_ok rfl) ?_) (op2 (var_ok rfl) (var_ok rfl) ?_) gtD_i), var_ok rfl⟩
    · rw [Int.zero_add]; exact nts_ix _ k (by omega)
    · rw [Int.zero_add]; exact nts_ix _ k (by omega)
  have e : (List.range q.length).filter (fun k => decide ((((lastR q x).getD k 0 : Nat) : Int) < (((epR q x 0).getD k 0 : Nat) : Int))) = [] := by
    rw [List.filter_eq_nil_iff]
    intro k hk
    have := first_least q x _ (lay_last q x h) k
    rw [decide_eq_true_eq]; omega
  rw [e] at cf
  have it := rng_ok (τ := W8 A x o q p (some (.val (nts (epR q x 0)))) (some (.val (nts (lastR q x)))) n) (fa := eBlt lenD (aCons (eVar 3) aNil)) (n := q.length) (blt1 (var_ok rfl) (tx_len q hq)) hq
  have ec := comp_okB (k := 1) (idx := [6, 7]) (τ := W8 A x o q p (some (.val (nts (epR q x 0)))) (some (.val (nts (lastR q x)))) n) it cf (by simp)
  unfold lateE
  rw [ec]; rfl
theorem g13_ok (hq : q.length ≤ 1000) (h : subs q x = true) : g13T (W8 A x o q p (some (.val (nts (epR q x 0)))) (some (.val (nts (lastR q x)))) (cntM q x)) = .ok false := by
  unfold g13T
  refine or_tr (tB_ok (op2 (late_ok A x o q p _ hq h) nilE (ne_nil [] okD_nil))) (tB_ok (op2 (op2 (var_ok rfl) rfl eqD_i) (op2 (var_ok rfl) (var_ok rfl) (eq_nn _ _)) ?_))
  rw [ne_bl]
  have := one_iff q x h
  rw [lays_c] at this
  have e : ((((cntM q x : Nat) : Int)) == 1) = decide (epR q x 0 = lastR q x) := by
    rw [Bool.eq_iff_iff]
    simp only [beq_iff_eq, decide_eq_true_eq, ← this]
    omega
  rw [e]; simp
theorem g14_ok (n : Nat) (hx : x.length ≤ 1000) (hq : q.length ≤ 1000) (ha : ∀ c ∈ q, c < 128) (h : subs q x = true) (a7 : Option Sl) : g14T (W8 A x o q p (some (.val (nts (epR q x 0)))) a7 n) = .ok false := by
  have hl := last_ok q.reverse x.reverse (by simpa using hq) (by simpa using hx) (fun c hc => ha c (by simpa using hc)) (subs_rev q x h)
  have el : lastR q.reverse x.reverse = (epR q x 0).reverse.map fun p => x.length - 1 - p := by
    unfold lastR
    rw [List.reverse_reverse, List.reverse_reverse, List.length_reverse]
  rw [el] at hl
  have cm := comp_map (set := gNm 0) (fe := (eOp subD (eOp subD (eBlt lenD (aCons (eVar 1) aNil)) (eC (.int 1))) (eVar 0))) (τ := [none, some (.val (tx x))]) (fun (k : Nat) => D.int k) (fun (k : Nat) => D.int k) (fun p => x.length - 1 - p) (epR q x 0).reverse fun p hp => by
    have hlt := ep_lt q x 0 p (by simpa using hp)
    refine ⟨[some (.val (.int (p : Int))), some (.val (tx x))], rfl, op2 (op2 (blt1 (var_ok rfl) (tx_len x hx)) rfl subD_i) (var_ok rfl) ?_⟩
    rw [subD_i]
    congr 2
    omega
  have it : iAny (eRev (eVar 6)) (W8 A x o q p (some (.val (nts (epR q x 0)))) a7 n) = .ok ((epR q x 0).reverse.map fun (k : Nat) => D.int k) := by
    have : iAny (eRev (eVar 6)) (W8 A x o q p (some (.val (nts (epR q x 0)))) a7 n) = .ok ((epR q x 0).map fun (k : Nat) => D.int k).reverse := rfl
    rw [this, List.map_reverse]
  have ec := comp_okB (k := 1) (idx := [1]) (τ := W8 A x o q p (some (.val (nts (epR q x 0)))) a7 n) it cm (by
    have := epR_len q x 0
    simp; omega)
  have tu : turnE (W8 A x o q p (some (.val (nts (epR q x 0)))) a7 n) = .ok (nts ((epR q x 0).reverse.map fun p => x.length - 1 - p)) := by
    unfold turnE
    rw [ec]; rfl
  unfold g14T
  refine tB_ok (op2 (call2 (rev_v hq rfl) (rev_v hx rfl) hl) tu ?_)
  rw [ne_nn]; simp
theorem end_ok (c : Nat) (n : Nat) (hx : x.length ≤ 1000) (hq : q.length ≤ 900) (hpa : ∀ d ∈ q ++ [c], d < 128) (h : subs q x = true) (a7 : Option Sl) : endE (W8 A x o q (q ++ [c]) (some (.val (nts (epR q x 0)))) a7 n) = .ok (.bl true) := by
  have hp : (q ++ [c]).length ≤ 1000 := by simp; omega
  have hf := fits_ok (q ++ [c]) x hp hx hpa
  have nt : eNot (eCall m_fits (aCons (eVar 4) (aCons (eVar 1) aNil))) (W8 A x o q (q ++ [c]) (some (.val (nts (epR q x 0)))) a7 n) = .ok (.bl (!subs (q ++ [c]) x)) := by
    rw [eNot_ap, call2 (var_ok rfl) (var_ok rfl) hf, Rs.bind_ok, truD_bl, Rs.bind_ok]
  unfold endE
  cases e : subs (q ++ [c]) x with
  | false => rw [e] at nt; exact or_l nt
  | true =>
    rw [e] at nt
    refine or_r nt ?_
    have hl := (epR_subs (q ++ [c]) x 0).mpr e
    rw [List.length_append, List.length_singleton] at hl
    have hc := cut_last (epR (q ++ [c]) x 0) (fun z => by rw [z] at hl; simp at hl)
    rw [hl, Nat.add_sub_cancel, ep_long] at hc
    rw [op2 (sl_ok (call2 (var_ok rfl) (var_ok rfl) (first_ok (q ++ [c]) x hp hx hpa e)) rfl (os_ok rfl) hc) (var_ok rfl) (eq_nn _ _)]
    simp
end
def SX : List Nat := [97, 98, 99, 49, 120, 66]
theorem sx_lt : ∀ n, n < 6 → SX.getD n 0 < 128 := by decide
theorem e4_ok (ns : List Int) (h63 : ns.length ≤ 63) (q : List Nat) (hq : q.length ≤ 900) (a1 a2 a4 a5 a6 a7 : Option Sl) : ∃ c, c < 128 ∧ e4E (U8 (some (.val (.scr ns))) a1 a2 (some (.val (tx q))) a4 a5 a6 a7) = .ok (tx (q ++ [c])) := by
  have hd := draw_ok ns 55 6 h63 (by decide) (by decide) (by decide)
  have dl := draw_lt ns 55 (m := 6) (by decide)
  obtain ⟨k, hk⟩ : ∃ k : Nat, drawZ ns 55 6 = (k : Int) := ⟨(drawZ ns 55 6).toNat, by omega⟩
  rw [hk] at hd dl
  have k6 : k < 6 := by omega
  refine ⟨SX.getD k 0, sx_lt k k6, ?_⟩
  have es : ("abc1xB" : Str) = ⟨SX.toArray⟩ := by decide +kernel
  have hi : ixD (.str "abc1xB") (.int (k : Int)) = .ok (signD (SX.getD k 0)) := by rw [es]; exact tx_at SX k (by show k < 6; exact k6) (by decide)
  unfold e4E
  exact op2 (var_ok rfl) (op2 rfl (call3 (var_ok rfl) rfl rfl hd) hi) (add_tx q [SX.getD k 0] (by omega) (by simp))
theorem name_pos (ns : List Int) (a : Int) : 0 < (nameL ns a (nameN ns a)).length ∧ (nameL ns a (nameN ns a)).length ≤ 10 := by
  have := draw_lt ns a (m := 10) (by decide)
  unfold nameL nameN
  simp only [List.length_map, List.length_range]
  omega
theorem name_in (ns : List Int) (a : Int) (h : 0 ≤ a) : ∀ c ∈ nameL ns a (nameN ns a), c ∈ NS := fun c hc => by
  unfold nameL at hc
  obtain ⟨k, _, rfl⟩ := List.mem_map.mp hc
  exact name_sign ns a k (by omega)
theorem call4 {f : List D → Rs D} {fa fb fc fd : FE} {τ : DS} {a b c d r : D} (h1 : fa τ = .ok a) (h2 : fb τ = .ok b) (h3 : fc τ = .ok c) (h4 : fd τ = .ok d) (h : f [a, b, c, d] = .ok r) : eCall f (aCons fa (aCons fb (aCons fc (aCons fd aNil)))) τ = .ok r := by
  rw [eCall_ap, aCons_ap, h1, Rs.bind_ok, aCons_ap, h2, Rs.bind_ok, aCons_ap, h3, Rs.bind_ok, aCons_ap, h4, Rs.bind_ok, aNil_ap, Rs.bind_ok, Rs.bind_ok, Rs.bind_ok, Rs.bind_ok, Rs.bind_ok, h]; rfl
theorem main : ∀ ns : List Int, ns.length ≤ 63 → m_law [.scr ns] = .ok (.bl true) := by
  intro ns h63
  have hn := name_ok ns 0 h63 (by decide) (by decide)
  have hn2 := name_ok ns 12 h63 (by decide) (by decide)
  obtain ⟨x0, x1⟩ := name_pos ns 0
  obtain ⟨y0, y1⟩ := name_pos ns 12
  have hx := name_in ns 0 (by decide)
  obtain ⟨q, q1, q2, hqo⟩ := query_ok ns 30 (nameL ns 0 (nameN ns 0)) 6 h63 (by decide) (by decide) (by decide) (by decide) x0 (by omega) hx
  generalize nameL ns 0 (nameN ns 0) = x at *
  generalize nameL ns 12 (nameN ns 12) = o at *
  have ha : ∀ c ∈ q, c < 128 := fun c hc => (f6 c (q2 c hc)).1
  obtain ⟨c, hc, h4⟩ := e4_ok ns h63 q (by omega) (some (.val (tx x))) (some (.val (tx o))) none none none none
  have hpa : ∀ d ∈ q ++ [c], d < 128 := fun d hd => by
    rcases List.mem_append.mp hd with z | z
    · exact ha d z
    · have : d = c := by simpa using z
      omega
  have hp : (q ++ [c]).length ≤ 1000 := by simp; omega
  have hl := fun e => subs_long q x c e
  have hm := many_ok q x (by omega) ha
  unfold m_law
  rw [law_b]
  cases h : subs q x with
  | false =>
    have hp2 : subs (q ++ [c]) x = false := by
      cases e : subs (q ++ [c]) x with
      | false => rfl
      | true => rw [hl e] at h; cases h
    have c0 : cntM q x = 0 := by
      have := fits_cnt q x
      rw [h] at this
      simpa using this
    refine gen_lawF _ _ _ _ _ _ _ _ _ _ _ _ (.scr ns) (tx x) (tx o) (tx q) (tx (q ++ [c])) (.int (cntM q x : Nat)) (.bl true) (call2 (var_ok rfl) rfl hn) (call2 (var_ok rfl) rfl hn2) (call4 (var_ok rfl) rfl (var_ok rfl) rfl hqo) h4 (call2 (var_ok rfl) (var_ok rfl) hm) (g6_ok _ x o q _ _ _ (by omega) (by omega) ha) (g7_ok _ x o q _ _ _ (by omega) (by omega) (by omega) ha) (g8_ok _ x o q _ _ _ (by omega) (by omega) ha hp hpa hl _) ?_ (try_ok _ x o q _ _ (by omega) (by omega) ha hp hpa h hp2)
    rw [g9_ok _ x o q _ none none, c0]; rfl
  | true =>
    have c0 : cntM q x ≠ 0 := by
      have := fits_cnt q x
      rw [h] at this
      have : 0 < cntM q x := by simpa using this.symm
      omega
    refine gen_lawT _ _ _ _ _ _ _ _ _ _ _ _ _ _ _ _ _ (.scr ns) (tx x) (tx o) (tx q) (tx (q ++ [c])) (.int (cntM q x : Nat)) (nts (epR q x 0)) (nts (lastR q x)) (.bl true) (call2 (var_ok rfl) rfl hn) (call2 (var_ok rfl) rfl hn2) (call4 (var_ok rfl) rfl (var_ok rfl) rfl hqo) h4 (call2 (var_ok rfl) (var_ok rfl) hm) (g6_ok _ x o q _ _ _ (by omega) (by omega) ha) (g7_ok _ x o q _ _ _ (by omega) (by omega) (by omega) ha) (g8_ok _ x o q _ _ _ (by omega) (by omega) ha hp hpa hl _) ?_ (call2 (var_ok rfl) (var_ok rfl) (first_ok q x (by omega) (by omega) ha h)) (call2 (var_ok rfl) (var_ok rfl) (last_ok q x (by omega) (by omega) ha h)) (g12_ok _ x o q _ _ (by omega) (by omega) ha h) (g13_ok _ x o q _ (by omega) h) (g14_ok _ x o q _ _ (by omega) (by omega) ha h _) (end_ok _ x o q c _ (by omega) (by omega) hpa h _)
    rw [g9_ok _ x o q _ none none, decide_eq_false c0]
end Law

set_option Elab.async false
set_option linter.all false
set_option maxRecDepth 100000
set_option maxHeartbeats 4000000
namespace Law
open PySem PySem.Spec PyProof.Rows L2 FD
def top (i : Nat) : Stmt := PySem.Challenge.pw_fewfind_k03_whole_fits.main.body.getD i (.Pass ⟨0, 0, 0, 0⟩)
section
variable {P : Program} {w : World} {K : PySem.W.Frag} {mg : Str → Option Value} {base : Heap}

-- DEF _law_cell level 1
abbrev s__law_cell : Stmt := top 15
theorem sc__law_cell : FnScope ["_law_script", "_law_k"] ["_law_script", "_law_k"] (defScope s__law_cell) := ⟨rfl, rfl, rfl, by decide +kernel, rfl, by decide +kernel, by decide +kernel⟩
theorem ok__law_cell {f : Addr} {fd : FuncData} (A_ : DefAt K mg "_law_cell" s__law_cell f fd) (z_len : mg "len" = none) : DefOk P w K mg base "_law_cell" 1 2 ["_law_script", "_law_k"] m__law_cell := by
  refine DefOk.mk (k := 0) A_ sc__law_cell rfl (fun _ _ _ _ _ _ us hl => match us, hl with | [_, _], _ => rfl) (fun cdv A outer s H E hr => ?_) fun _ _ _ h => h
  exact (pdss_cons (pds_if (pdt_cmp (opd_eq hr.units) (pde_var (pv 0)) (pde_lst pda_nil) (nomark _)) (pdss_one (pds_ret (pde_op opd_mul pde_int (pde_var (pv 1))))) pdss_nil) (pdss_one (pds_ret (pde_op opd_add (pde_ix ix_ok (pde_var (pv 0)) (pde_op opd_mod (pde_var (pv 1)) (pde_callB cd_len rfl z_len PySem.boot_len (pda_cons (pde_var (pv 0)) pda_nil)))) (pde_op opd_mul pde_int (pde_op opd_fdiv (pde_var (pv 1)) (pde_callB cd_len rfl z_len PySem.boot_len (pda_cons (pde_var (pv 0)) pda_nil))))))))
-- DEF _law_drawn level 2
abbrev s__law_drawn : Stmt := top 16
theorem sc__law_drawn : FnScope ["_law_script", "_law_k", "_law_many", "_law_cell_here"] ["_law_script", "_law_k", "_law_many"] (defScope s__law_drawn) := ⟨rfl, rfl, rfl, by decide +kernel, rfl, by decide +kernel, by decide +kernel⟩
theorem ok__law_drawn {f : Addr} {fd : FuncData} (A_ : DefAt K mg "_law_drawn" s__law_drawn f fd) (h__law_cell : DefOk P w K mg base "_law_cell" 1 2 ["_law_script", "_law_k"] m__law_cell) : DefOk P w K mg base "_law_drawn" 2 3 ["_law_script", "_law_k", "_law_many"] m__law_drawn := by
  refine DefOk.mk (k := 1) A_ sc__law_drawn rfl (fun _ _ _ _ _ _ us hl => match us, hl with | [_, _, _], _ => rfl) (fun cdv A outer s H E hr => ?_) fun _ _ _ h => h
  exact (pdss_cons (pds_set (i := 3) sc__law_drawn.nd rfl (Or.inl rfl) (pde_op opd_mod (pde_op opd_add (pde_op opd_mul (pde_op opd_mod (pde_def h__law_cell (hr.mono (by decide)) (pda_cons (pde_var (pv 0)) (pda_cons (pde_var (pv 1)) pda_nil)) (aCons_len (aCons_len aNil_len))) pde_int) pde_int) (pde_op opd_mul pde_int (pde_op opd_add (pde_var (pv 1)) pde_int))) pde_int)) (pdss_cons (pds_set (i := 3) sc__law_drawn.nd rfl (Or.inl rfl) (pde_op opd_mod (pde_op opd_add (pde_op opd_mul (pde_var (pv 3)) (pde_var (pv 3))) (pde_op opd_fdiv (pde_var (pv 3)) pde_int)) pde_int)) (pdss_one (pds_ret (pde_op opd_mod (pde_op opd_fdiv (pde_op opd_mod (pde_op opd_add (pde_op opd_mul (pde_var (pv 3)) (pde_var (pv 3))) (pde_op opd_fdiv (pde_var (pv 3)) pde_int)) pde_int) pde_int) (pde_var (pv 2)))))))
-- DEF _law_name level 3
abbrev s__law_name : Stmt := top 17
theorem sc__law_name : FnScope ["_law_script", "_law_at", "_law_found", "_law_k"] ["_law_script", "_law_at"] (defScope s__law_name) := ⟨rfl, rfl, rfl, by decide +kernel, rfl, by decide +kernel, by decide +kernel⟩
theorem ok__law_name {f : Addr} {fd : FuncData} (A_ : DefAt K mg "_law_name" s__law_name f fd) (h__law_drawn : DefOk P w K mg base "_law_drawn" 2 3 ["_law_script", "_law_k", "_law_many"] m__law_drawn) (z_range : mg "range" = none) : DefOk P w K mg base "_law_name" 3 2 ["_law_script", "_law_at"] m__law_name := by
  refine DefOk.mk (k := 2) A_ sc__law_name rfl (fun _ _ _ _ _ _ us hl => match us, hl with | [_, _], _ => rfl) (fun cdv A outer s H E hr => ?_) fun _ _ _ h => h
  exact (pdss_cons (pds_set (i := 2) sc__law_name.nd rfl (Or.inl rfl) pde_str) (pdss_cons (pds_for PassesOwn.never rfl (pdi_range1 rfl z_range (pda_cons (pde_op opd_add pde_int (pde_def h__law_drawn (hr.mono (by decide)) (pda_cons (pde_var (pv 0)) (pda_cons (pde_var (pv 1)) (pda_cons pde_int pda_nil))) (aCons_len (aCons_len (aCons_len aNil_len))))) pda_nil)) (pdg_name sc__law_name.nd rfl (Or.inl rfl)) (pdss_one (pds_set (i := 2) sc__law_name.nd rfl (Or.inl rfl) (pde_op opd_add (pde_var (pv 2)) (pde_ix ix_ok pde_str (pde_def h__law_drawn (hr.mono (by decide)) (pda_cons (pde_var (pv 0)) (pda_cons (pde_op opd_add (pde_op opd_add (pde_var (pv 1)) pde_int) (pde_var (pv 3))) (pda_cons pde_int pda_nil))) (aCons_len (aCons_len (aCons_len aNil_len))))))))) (pdss_one (pds_ret (pde_var (pv 2))))))
-- DEF _law_mark level 1
abbrev s__law_mark : Stmt := top 18
theorem sc__law_mark : FnScope ["_law_sign"] ["_law_sign"] (defScope s__law_mark) := ⟨rfl, rfl, rfl, by decide +kernel, rfl, by decide +kernel, by decide +kernel⟩
theorem ok__law_mark {f : Addr} {fd : FuncData} (A_ : DefAt K mg "_law_mark" s__law_mark f fd) : DefOk P w K mg base "_law_mark" 1 1 ["_law_sign"] m__law_mark := by
  refine DefOk.mk (k := 0) A_ sc__law_mark rfl (fun _ _ _ _ _ _ us hl => match us, hl with | [_], _ => rfl) (fun cdv A outer s H E hr => ?_) fun _ _ _ h => h
  exact (pdss_one (pds_ret (pde_cmp (opd_in (room128 hr)) (pde_var (pv 0)) pde_str (by with_unfolding_all rfl))))
-- DEF _law_query level 3
abbrev s__law_query : Stmt := top 20
theorem sc__law_query : FnScope ["_law_script", "_law_at", "_law_name_here", "_law_most", "_law_found", "_law_place", "_law_k", "_law_sign"] ["_law_script", "_law_at", "_law_name_here", "_law_most"] (defScope s__law_query) := ⟨rfl, rfl, rfl, by decide +kernel, rfl, by decide +kernel, by decide +kernel⟩
theorem ok__law_query {f : Addr} {fd : FuncData} (A_ : DefAt K mg "_law_query" s__law_query f fd) (h__law_drawn : DefOk P w K mg base "_law_drawn" 2 3 ["_law_script", "_law_k", "_law_many"] m__law_drawn) (h__law_mark : DefOk P w K mg base "_law_mark" 1 1 ["_law_sign"] m__law_mark) (z_range : mg "range" = none) (z_len : mg "len" = none) (z_min : mg "min" = none) : DefOk P w K mg base "_law_query" 3 4 ["_law_script", "_law_at", "_law_name_here", "_law_most"] m__law_query := by
  refine DefOk.mk (k := 2) A_ sc__law_query rfl (fun _ _ _ _ _ _ us hl => match us, hl with | [_, _, _, _], _ => rfl) (fun cdv A outer s H E hr => ?_) fun _ _ _ h => h
  exact (pdss_cons (pds_set (i := 4) sc__law_query.nd rfl (Or.inl rfl) pde_str) (pdss_cons (pds_set (i := 5) sc__law_query.nd rfl (Or.inl rfl) pde_int) (pdss_cons (pds_for PassesOwn.never rfl (pdi_range1 rfl z_range (pda_cons (pde_def h__law_drawn (hr.mono (by decide)) (pda_cons (pde_var (pv 0)) (pda_cons (pde_var (pv 1)) (pda_cons (pde_op opd_add (pde_var (pv 3)) pde_int) pda_nil))) (aCons_len (aCons_len (aCons_len aNil_len)))) pda_nil)) (pdg_name sc__law_query.nd rfl (Or.inl rfl)) (pdss_cons (pds_set (i := 5) sc__law_query.nd rfl (Or.inl rfl) (pde_callB (cd_min2 rfl) rfl z_min boot_min (pda_cons (pde_op opd_sub (pde_callB cd_len rfl z_len PySem.boot_len (pda_cons (pde_var (pv 2)) pda_nil)) pde_int) (pda_cons (pde_op opd_add (pde_var (pv 5)) (pde_def h__law_drawn (hr.mono (by decide)) (pda_cons (pde_var (pv 0)) (pda_cons (pde_op opd_add (pde_op opd_add (pde_var (pv 1)) pde_int) (pde_op opd_mul pde_int (pde_var (pv 6)))) (pda_cons pde_int pda_nil))) (aCons_len (aCons_len (aCons_len aNil_len))))) pda_nil)))) (pdss_cons (pds_set (i := 7) sc__law_query.nd rfl (Or.inl rfl) (pde_lower (pde_or (pde_sl (pde_var (pv 2)) (pdo_some (pde_var (pv 5))) (pdo_some (pde_op opd_add (pde_var (pv 5)) pde_int))) (pde_one pde_str)))) (pdss_cons (pds_set (i := 5) sc__law_query.nd rfl (Or.inl rfl) (pde_op opd_add (pde_var (pv 5)) pde_int)) (pdss_cons (pds_if (pdt_cmp (opd_eq hr.units) (pde_def h__law_drawn (hr.mono (by decide)) (pda_cons (pde_var (pv 0)) (pda_cons (pde_op opd_add (pde_op opd_add (pde_var (pv 1)) pde_int) (pde_op opd_mul pde_int (pde_var (pv 6)))) (pda_cons pde_int pda_nil))) (aCons_len (aCons_len (aCons_len aNil_len)))) pde_int (nomark _)) (pdss_one (pds_set (i := 7) sc__law_query.nd rfl (Or.inl rfl) (pde_ix ix_ok pde_str (pde_def h__law_drawn (hr.mono (by decide)) (pda_cons (pde_var (pv 0)) (pda_cons (pde_op opd_add (pde_op opd_add (pde_var (pv 1)) pde_int) (pde_op opd_mul pde_int (pde_var (pv 6)))) (pda_cons pde_int pda_nil))) (aCons_len (aCons_len (aCons_len aNil_len))))))) pdss_nil) (pdss_one (pds_if (pdt_not (pdt_tru (pde_def h__law_mark (hr.mono (by decide)) (pda_cons (pde_var (pv 7)) pda_nil) (aCons_len aNil_len)))) (pdss_one (pds_set (i := 4) sc__law_query.nd rfl (Or.inl rfl) (pde_op opd_add (pde_var (pv 4)) (pde_var (pv 7))))) pdss_nil))))))) (pdss_one (pds_ret (pde_var (pv 4)))))))
-- DEF meets level 1
abbrev s_meets : Stmt := top 5
theorem sc_meets : FnScope ["sign", "other"] ["sign", "other"] (defScope s_meets) := ⟨rfl, rfl, rfl, by decide +kernel, rfl, by decide +kernel, by decide +kernel⟩
theorem ok_meets {f : Addr} {fd : FuncData} (A_ : DefAt K mg "meets" s_meets f fd) {t_SMALL : Tok} (g_SMALL : mg "SMALL" = some (.str "abcdefghijklmnopqrstuvwxyz" t_SMALL)) : DefOk P w K mg base "meets" 1 2 ["sign", "other"] m_meets := by
  refine DefOk.mk (k := 0) A_ sc_meets rfl (fun _ _ _ _ _ _ us hl => match us, hl with | [_, _], _ => rfl) (fun cdv A outer s H E hr => ?_) fun _ _ _ h => h
  exact (pdss_one (pds_ret (pde_or (pde_cmp (opd_eq hr.units) (pde_var (pv 0)) (pde_var (pv 1)) (nomark _)) (pde_one (pde_and (pde_cmp (opd_in (room128 hr)) (pde_var (pv 0)) (pde_glS rfl g_SMALL) (by with_unfolding_all rfl)) (pde_one (pde_cmp (opd_eq hr.units) (pde_upper (pde_var (pv 0))) (pde_var (pv 1)) (nomark _))))))))
theorem okV_meets {f : Addr} {fd : FuncData} (A_ : DefAt K mg "meets" s_meets f fd) {t_SMALL : Tok} (g_SMALL : mg "SMALL" = some (.str "abcdefghijklmnopqrstuvwxyz" t_SMALL)) : DefV P w K mg base "meets" 1 2 ["sign", "other"] m_meets := by
  refine DefV.mk (k := 0) A_ sc_meets rfl (fun _ _ _ _ _ _ us hl => match us, hl with | [_, _], _ => rfl) (fun cdv A outer s H hr V => ?_)
  exact (pdss_one (pds_ret (pde_or (pde_cmp (opd_eq hr.units) (pde_var (pv 0)) (pde_var (pv 1)) (nomark _)) (pde_one (pde_and (pde_cmp (opd_in (room128U hr)) (pde_var (pv 0)) (pde_glS rfl g_SMALL) (by with_unfolding_all rfl)) (pde_one (pde_cmp (opd_eq hr.units) (pde_upper (pde_var (pv 0))) (pde_var (pv 1)) (nomark _))))))))
-- DEF how_many level 2
abbrev s_how_many : Stmt := top 13
theorem sc_how_many : FnScope ["query", "name", "ways", "sign", "length"] ["query", "name"] (defScope s_how_many) := ⟨rfl, rfl, rfl, by decide +kernel, rfl, by decide +kernel, by decide +kernel⟩
theorem ok_how_many {f : Addr} {fd : FuncData} (A_ : DefAt K mg "how_many" s_how_many f fd) (h_meets : DefOk P w K mg base "meets" 1 2 ["sign", "other"] m_meets) (z_len : mg "len" = none) (z_range : mg "range" = none) : DefOk P w K mg base "how_many" 2 2 ["query", "name"] m_how_many := by
  refine DefOk.mk (k := 1) A_ sc_how_many rfl (fun _ _ _ _ _ _ us hl => match us, hl with | [_, _], _ => rfl) (fun cdv A outer s H E hr => ?_) fun _ _ _ h => h
  exact (pdss_cons (pds_setO (i := 2) sc_how_many.nd rfl (Or.inl rfl) (pdf_cat (pde_lst (pda_cons pde_int pda_nil)) (pde_op opd_mul (pde_lst (pda_cons pde_int pda_nil)) (pde_callB cd_len rfl z_len PySem.boot_len (pda_cons (pde_var (pv 0)) pda_nil))))) (pdss_cons (pds_for PassesOwn.never rfl (pdi_any (pde_var (pv 1))) (pdg_name sc_how_many.nd rfl (Or.inl rfl)) (pdss_one (pds_for PassesOwn.never rfl (pdi_rangeD rfl z_range (pda_cons (pde_callB cd_len rfl z_len PySem.boot_len (pda_cons (pde_var (pv 0)) pda_nil)) (pda_cons pde_int (pda_cons (pde_neg pde_int) pda_nil)))) (pdg_name sc_how_many.nd rfl (Or.inl rfl)) (pdss_one (pds_if (pdt_tru (pde_def h_meets (hr.mono (by decide)) (pda_cons (pde_ix ix_ok (pde_var (pv 0)) (pde_op opd_sub (pde_var (pv 4)) pde_int)) (pda_cons (pde_var (pv 3)) pda_nil)) (aCons_len (aCons_len aNil_len)))) (pdss_one (pds_put (pv 2) (pde_var (pv 4)) (pde_op opd_add (pde_ixO (pv 2) (pde_var (pv 4))) (pde_ixO (pv 2) (pde_op opd_sub (pde_var (pv 4)) pde_int))))) pdss_nil))))) (pdss_one (pds_ret (pde_ixO (pv 2) (pde_callB cd_len rfl z_len PySem.boot_len (pda_cons (pde_var (pv 0)) pda_nil)))))))
-- DEF earliest_places level 2
abbrev s_earliest_places : Stmt := top 9
theorem sc_earliest_places : FnScope ["query", "name", "places", "place"] ["query", "name"] (defScope s_earliest_places) := ⟨rfl, rfl, rfl, by decide +kernel, rfl, by decide +kernel, by decide +kernel⟩
theorem ok_earliest_places {f : Addr} {fd : FuncData} (A_ : DefAt K mg "earliest_places" s_earliest_places f fd) (h_meets : DefOk P w K mg base "meets" 1 2 ["sign", "other"] m_meets) (z_len : mg "len" = none) (z_range : mg "range" = none) : DefOk P w K mg base "earliest_places" 2 2 ["query", "name"] m_earliest_places := by
  refine DefOk.mk (k := 1) A_ sc_earliest_places rfl (fun _ _ _ _ _ _ us hl => match us, hl with | [_, _], _ => rfl) (fun cdv A outer s H E hr => ?_) fun _ _ _ h => h
  exact (pdss_cons (pds_setO (i := 2) sc_earliest_places.nd rfl (Or.inl rfl) (pdf_lst pda_nil)) (pdss_cons (pds_for PassesOwn.never rfl (pdi_range1 rfl z_range (pda_cons (pde_callB cd_len rfl z_len PySem.boot_len (pda_cons (pde_var (pv 1)) pda_nil)) pda_nil)) (pdg_name sc_earliest_places.nd rfl (Or.inl rfl)) (pdss_one (pds_if (pdt_w (pdw_and (pdt_cmp opd_lt (pde_lenO (pv 2) rfl z_len) (pde_callB cd_len rfl z_len PySem.boot_len (pda_cons (pde_var (pv 0)) pda_nil)) (nomark _)) (pdw_and1 (pdt_tru (pde_def h_meets (hr.mono (by decide)) (pda_cons (pde_ix ix_ok (pde_var (pv 0)) (pde_lenO (pv 2) rfl z_len)) (pda_cons (pde_ix ix_ok (pde_var (pv 1)) (pde_var (pv 3))) pda_nil)) (aCons_len (aCons_len aNil_len))))))) (pdss_one (pds_app (pv 2) (pde_var (pv 3)))) pdss_nil))) (pdss_one (pds_retO (pv 2)))))
theorem okV_earliest_places {f : Addr} {fd : FuncData} (A_ : DefAt K mg "earliest_places" s_earliest_places f fd) (v_meets : DefV P w K mg base "meets" 1 2 ["sign", "other"] m_meets) (z_len : mg "len" = none) (z_range : mg "range" = none) : DefV P w K mg base "earliest_places" 2 2 ["query", "name"] m_earliest_places := by
  refine DefV.mk (k := 1) A_ sc_earliest_places rfl (fun _ _ _ _ _ _ us hl => match us, hl with | [_, _], _ => rfl) (fun cdv A outer s H hr V => ?_)
  exact (pdss_cons (pds_setO (i := 2) sc_earliest_places.nd rfl (Or.inl rfl) (pdf_lst pda_nil)) (pdss_cons (pds_forV PassesOwn.never (pdi_range1V V rfl z_range (pda_cons (pde_callB cd_len rfl z_len PySem.boot_len (pda_cons (pde_var (pv 1)) pda_nil)) pda_nil)) (pdg_name sc_earliest_places.nd rfl (Or.inl rfl)) (pdss_one (pds_if (pdt_w (pdw_and (pdt_cmp opd_lt (pde_lenO (pv 2) rfl z_len) (pde_callB cd_len rfl z_len PySem.boot_len (pda_cons (pde_var (pv 0)) pda_nil)) (nomark _)) (pdw_and1 (pdt_tru (pde_defV V v_meets (hr.mono (by decide)) (pda_cons (pde_ix ix_ok (pde_var (pv 0)) (pde_lenO (pv 2) rfl z_len)) (pda_cons (pde_ix ix_ok (pde_var (pv 1)) (pde_var (pv 3))) pda_nil)) (aCons_len (aCons_len aNil_len))))))) (pdss_one (pds_app (pv 2) (pde_var (pv 3)))) pdss_nil))) (pdss_one (pds_retO (pv 2)))))
-- DEF first_laying level 3
abbrev s_first_laying : Stmt := top 11
theorem sc_first_laying : FnScope ["query", "name", "places"] ["query", "name"] (defScope s_first_laying) := ⟨rfl, rfl, rfl, by decide +kernel, rfl, by decide +kernel, by decide +kernel⟩
theorem ok_first_laying {f : Addr} {fd : FuncData} (A_ : DefAt K mg "first_laying" s_first_laying f fd) {C_NoFit : Addr} (t_NoFit : EC K mg "NoFit" C_NoFit) (h_earliest_places : DefOk P w K mg base "earliest_places" 2 2 ["query", "name"] m_earliest_places) (z_len : mg "len" = none) : DefX P w K mg base "first_laying" 3 2 ["query", "name"] m_first_laying := by
  refine DefX.mk (k := 2) A_ sc_first_laying rfl (fun _ _ _ _ _ _ us hl => match us, hl with | [_, _], _ => rfl) (fun cdv A outer s H E hr => ?_)
  exact (pdss_cons (pds_quiet (pds_set (i := 2) sc_first_laying.nd rfl (Or.inl rfl) (pde_def h_earliest_places (hr.mono (by decide)) (pda_cons (pde_var (pv 0)) (pda_cons (pde_var (pv 1)) pda_nil)) (aCons_len (aCons_len aNil_len))))) (pdss_cons (pds_if (pdt_cmp opd_lt (pde_callB cd_len rfl z_len PySem.boot_len (pda_cons (pde_var (pv 2)) pda_nil)) (pde_callB cd_len rfl z_len PySem.boot_len (pda_cons (pde_var (pv 0)) pda_nil)) (nomark _)) (pdss_one (pds_raise t_NoFit rfl hr.hd pde_str)) pdss_nil) (pdss_quiet (pdss_one (pds_ret (pde_var (pv 2)))))))
-- DEF last_laying level 4
abbrev s_last_laying : Stmt := top 12
theorem sc_last_laying : FnScope ["query", "name", "mirrored"] ["query", "name"] (defScope s_last_laying) := ⟨rfl, rfl, rfl, by decide +kernel, rfl, by decide +kernel, by decide +kernel⟩
theorem ok_last_laying {f : Addr} {fd : FuncData} (A_ : DefAt K mg "last_laying" s_last_laying f fd) (h_first_laying : DefX P w K mg base "first_laying" 3 2 ["query", "name"] m_first_laying) (z_reversed : mg "reversed" = none) (z_len : mg "len" = none) : DefX P w K mg base "last_laying" 4 2 ["query", "name"] m_last_laying := by
  refine DefX.mk (k := 3) A_ sc_last_laying rfl (fun _ _ _ _ _ _ us hl => match us, hl with | [_, _], _ => rfl) (fun cdv A outer s H E hr => ?_)
  exact (pdss_cons (pds_setX (i := 2) sc_last_laying.nd rfl (Or.inl rfl) (pe_callX h_first_laying rfl (hr.mono (by decide)) (pda_cons (pde_rev (pde_var (pv 0)) (pde_neg pde_int)) (pda_cons (pde_rev (pde_var (pv 1)) (pde_neg pde_int)) pda_nil)) (aCons_len (aCons_len aNil_len)))) (pdss_quiet (pdss_one (pds_ret (pde_fr (pdf_comp (tn := ["place"]) (fr := ["name"]) (idx := [1]) rfl rfl ⟨rfl, rfl, trivial⟩ (setOk_nm 0) (pdi_rev rfl z_reversed (pda_cons (pde_var (pv 2)) pda_nil)) (fun s H C fp => (pdg_name (show List.Nodup (["place", "name"] : List Str) by decide +kernel) rfl (Or.inl rfl))) (fun s H C fp => pdts_nil) (fun s H C fp => (pde_op opd_sub (pde_op opd_sub (pde_callB cd_len rfl z_len PySem.boot_len (pda_cons (pde_var (pv 1)) pda_nil)) pde_int) (pde_var (pv 0))))))))))
-- DEF fits level 3
abbrev s_fits : Stmt := top 10
theorem sc_fits : FnScope ["query", "name"] ["query", "name"] (defScope s_fits) := ⟨rfl, rfl, rfl, by decide +kernel, rfl, by decide +kernel, by decide +kernel⟩
theorem ok_fits {f : Addr} {fd : FuncData} (A_ : DefAt K mg "fits" s_fits f fd) (h_earliest_places : DefOk P w K mg base "earliest_places" 2 2 ["query", "name"] m_earliest_places) (z_len : mg "len" = none) : DefOk P w K mg base "fits" 3 2 ["query", "name"] m_fits := by
  refine DefOk.mk (k := 2) A_ sc_fits rfl (fun _ _ _ _ _ _ us hl => match us, hl with | [_, _], _ => rfl) (fun cdv A outer s H E hr => ?_) fun _ _ _ h => h
  exact (pdss_one (pds_ret (pde_cmp (opd_eq hr.units) (pde_callB cd_len rfl z_len PySem.boot_len (pda_cons (pde_def h_earliest_places (hr.mono (by decide)) (pda_cons (pde_var (pv 0)) (pda_cons (pde_var (pv 1)) pda_nil)) (aCons_len (aCons_len aNil_len))) pda_nil)) (pde_callB cd_len rfl z_len PySem.boot_len (pda_cons (pde_var (pv 0)) pda_nil)) (nomark _))))
theorem okV_fits {f : Addr} {fd : FuncData} (A_ : DefAt K mg "fits" s_fits f fd) (v_earliest_places : DefV P w K mg base "earliest_places" 2 2 ["query", "name"] m_earliest_places) (z_len : mg "len" = none) : DefV P w K mg base "fits" 3 2 ["query", "name"] m_fits := by
  refine DefV.mk (k := 2) A_ sc_fits rfl (fun _ _ _ _ _ _ us hl => match us, hl with | [_, _], _ => rfl) (fun cdv A outer s H hr V => ?_)
  exact (pdss_one (pds_ret (pde_cmp (opd_eq hr.units) (pde_callB cd_len rfl z_len PySem.boot_len (pda_cons (pde_defV V v_earliest_places (hr.mono (by decide)) (pda_cons (pde_var (pv 0)) (pda_cons (pde_var (pv 1)) pda_nil)) (aCons_len (aCons_len aNil_len))) pda_nil)) (pde_callB cd_len rfl z_len PySem.boot_len (pda_cons (pde_var (pv 0)) pda_nil)) (nomark _))))
-- DEF is_whole level 1
abbrev s_is_whole : Stmt := top 6
theorem sc_is_whole : FnScope ["thing"] ["thing"] (defScope s_is_whole) := ⟨rfl, rfl, rfl, by decide +kernel, rfl, by decide +kernel, by decide +kernel⟩
theorem ok_is_whole {f : Addr} {fd : FuncData} (A_ : DefAt K mg "is_whole" s_is_whole f fd) (z_bool : mg "bool" = none) (z_isinstance : mg "isinstance" = none) (z_int : mg "int" = none) : DefOk P w K mg base "is_whole" 1 1 ["thing"] m_is_whole := by
  refine DefOk.mk (k := 0) A_ sc_is_whole rfl (fun _ _ _ _ _ _ us hl => match us, hl with | [_], _ => rfl) (fun cdv A outer s H E hr => ?_) fun _ _ _ h => h
  exact (pdss_one (pds_ret (pde_and (pde_callB cd_isi rfl z_isinstance boot_isinstance (pda_cons (pde_var (pv 0)) (pda_cons (pde_ty rfl z_int PyProof.Rows.boot_int) pda_nil))) (pde_one (pde_not (pde_callB cd_isi rfl z_isinstance boot_isinstance (pda_cons (pde_var (pv 0)) (pda_cons (pde_ty rfl z_bool PyProof.Rows.boot_bool) pda_nil))))))))
-- DEF are_rising_places level 2
abbrev s_are_rising_places : Stmt := top 7
theorem sc_are_rising_places : FnScope ["name", "things", "least", "thing"] ["name", "things"] (defScope s_are_rising_places) := ⟨rfl, rfl, rfl, by decide +kernel, rfl, by decide +kernel, by decide +kernel⟩
theorem ok_are_rising_places {f : Addr} {fd : FuncData} (A_ : DefAt K mg "are_rising_places" s_are_rising_places f fd) (h_is_whole : DefOk P w K mg base "is_whole" 1 1 ["thing"] m_is_whole) (z_len : mg "len" = none) : DefOk P w K mg base "are_rising_places" 2 2 ["name", "things"] m_are_rising_places := by
  refine DefOk.mk (k := 1) A_ sc_are_rising_places rfl (fun _ _ _ _ _ _ us hl => match us, hl with | [_, _], _ => rfl) (fun cdv A outer s H E hr => ?_) fun _ _ _ h => h
  exact (pdss_cons (pds_set (i := 2) sc_are_rising_places.nd rfl (Or.inl rfl) pde_int) (pdss_cons (pds_for PassesOwn.never rfl (pdi_any (pde_var (pv 1))) (pdg_name sc_are_rising_places.nd rfl (Or.inl rfl)) (pdss_cons (pds_if (pdt_not (pdt_tru (pde_def h_is_whole (hr.mono (by decide)) (pda_cons (pde_var (pv 3)) pda_nil) (aCons_len aNil_len)))) (pdss_one (pds_ret pde_bl)) pdss_nil) (pdss_cons (pds_if (pdt_w (pdw_or (pdt_cmp opd_lt (pde_var (pv 3)) (pde_var (pv 2)) (nomark _)) (pdw_or1 (pdt_cmp opd_ge (pde_var (pv 3)) (pde_callB cd_len rfl z_len PySem.boot_len (pda_cons (pde_var (pv 0)) pda_nil)) (nomark _))))) (pdss_one (pds_ret pde_bl)) pdss_nil) (pdss_one (pds_set (i := 2) sc_are_rising_places.nd rfl (Or.inl rfl) (pde_op opd_add (pde_var (pv 3)) pde_int)))))) (pdss_one (pds_ret pde_bl))))
-- DEF is_laying level 3
abbrev s_is_laying : Stmt := top 8
theorem sc_is_laying : FnScope ["query", "name", "thing"] ["query", "name", "thing"] (defScope s_is_laying) := ⟨rfl, rfl, rfl, by decide +kernel, rfl, by decide +kernel, by decide +kernel⟩
theorem ok_is_laying {f : Addr} {fd : FuncData} (A_ : DefAt K mg "is_laying" s_is_laying f fd) (h_meets : DefOk P w K mg base "meets" 1 2 ["sign", "other"] m_meets) (h_are_rising_places : DefOk P w K mg base "are_rising_places" 2 2 ["name", "things"] m_are_rising_places) (z_zip : mg "zip" = none) (z_all : mg "all" = none) (z_len : mg "len" = none) (z_list : mg "list" = none) (z_isinstance : mg "isinstance" = none) : DefOk P w K mg base "is_laying" 3 3 ["query", "name", "thing"] m_is_laying := by
  refine DefOk.mk (k := 2) A_ sc_is_laying rfl (fun _ _ _ _ _ _ us hl => match us, hl with | [_, _, _], _ => rfl) (fun cdv A outer s H E hr => ?_) fun _ _ _ h => h
  exact (pdss_cons (pds_if (pdt_w (pdw_or (pdt_not (pdt_tru (pde_callB cd_isi rfl z_isinstance boot_isinstance (pda_cons (pde_var (pv 2)) (pda_cons (pde_ty rfl z_list PyProof.Rows.boot_list) pda_nil))))) (pdw_or1 (pdt_cmp (opd_ne hr.units) (pde_callB cd_len rfl z_len PySem.boot_len (pda_cons (pde_var (pv 2)) pda_nil)) (pde_callB cd_len rfl z_len PySem.boot_len (pda_cons (pde_var (pv 0)) pda_nil)) (nomark _))))) (pdss_one (pds_ret pde_bl)) pdss_nil) (pdss_cons (pds_if (pdt_not (pdt_tru (pde_def h_are_rising_places (hr.mono (by decide)) (pda_cons (pde_var (pv 1)) (pda_cons (pde_var (pv 2)) pda_nil)) (aCons_len (aCons_len aNil_len))))) (pdss_one (pds_ret pde_bl)) pdss_nil) (pdss_one (pds_ret (pde_callB (cd_all rfl) rfl z_all boot_all (pda_cons (pde_fr (pdf_comp (tn := ["sign", "place"]) (fr := ["name"]) (idx := [1]) rfl rfl ⟨rfl, rfl, trivial⟩ (setOk_pr 0 1) (pdi_zip rfl z_zip (pda_cons (pde_var (pv 0)) (pda_cons (pde_var (pv 2)) pda_nil))) (fun s H C fp => (pdg_pair rfl (show List.Nodup (["sign", "place", "name"] : List Str) by decide +kernel) rfl (Or.inl rfl) rfl (Or.inl rfl))) (fun s H C fp => pdts_nil) (fun s H C fp => (pde_def h_meets (hr.mono (by decide)) (pda_cons (pde_var (pv 0)) (pda_cons (pde_ix ix_ok (pde_var (pv 2)) (pde_var (pv 1))) pda_nil)) (aCons_len (aCons_len aNil_len)))))) pda_nil))))))
-- DEF law level 5
abbrev s_law : Stmt := top 21
theorem sc_law : FnScope ["_law_script", "_law_name_here", "_law_other", "_law_query_here", "_law_longer", "_law_many", "_law_first", "_law_last"] ["_law_script"] (defScope s_law) := ⟨rfl, rfl, rfl, by decide +kernel, rfl, by decide +kernel, by decide +kernel⟩
theorem ok_law {f : Addr} {fd : FuncData} (A_ : Fun K "law" "law" s_law f fd) {C_NoFit : Addr} (t_NoFit : EC K mg "NoFit" C_NoFit) (x_NoFit_NoFit : PySem.W.exmOne K (.ref C_NoFit) (.ref C_NoFit) = some true) (h_first_laying : DefX P w K mg base "first_laying" 3 2 ["query", "name"] m_first_laying) (h_fits : DefOk P w K mg base "fits" 3 2 ["query", "name"] m_fits) (h_last_laying : DefX P w K mg base "last_laying" 4 2 ["query", "name"] m_last_laying) (h_is_laying : DefOk P w K mg base "is_laying" 3 3 ["query", "name", "thing"] m_is_laying) (h_how_many : DefOk P w K mg base "how_many" 2 2 ["query", "name"] m_how_many) (h__law_drawn : DefOk P w K mg base "_law_drawn" 2 3 ["_law_script", "_law_k", "_law_many"] m__law_drawn) (h__law_query : DefOk P w K mg base "_law_query" 3 4 ["_law_script", "_law_at", "_law_name_here", "_law_most"] m__law_query) (h__law_name : DefOk P w K mg base "_law_name" 3 2 ["_law_script", "_law_at"] m__law_name) (v_fits : DefV P w K mg base "fits" 3 2 ["query", "name"] m_fits) (z_len : mg "len" = none) (z_range : mg "range" = none) : FnOk P w K mg base CX0 5 f fd ["_law_script"] (spD K 1 m_law) := by
  refine fnD (k := 4) A_ sc_law rfl fun cdv A outer s H E hr => ?_
  exact (pdss_cons (pds_set (i := 1) sc_law.nd rfl (Or.inr rfl) (pde_def h__law_name (hr.mono (by decide)) (pda_cons (pde_var (pv 0)) (pda_cons pde_int pda_nil)) (aCons_len (aCons_len aNil_len)))) (pdss_cons (pds_set (i := 2) sc_law.nd rfl (Or.inl rfl) (pde_def h__law_name (hr.mono (by decide)) (pda_cons (pde_var (pv 0)) (pda_cons pde_int pda_nil)) (aCons_len (aCons_len aNil_len)))) (pdss_cons (pds_set (i := 3) sc_law.nd rfl (Or.inl rfl) (pde_def h__law_query (hr.mono (by decide)) (pda_cons (pde_var (pv 0)) (pda_cons pde_int (pda_cons (pde_var (pv 1)) (pda_cons pde_int pda_nil)))) (aCons_len (aCons_len (aCons_len (aCons_len aNil_len)))))) (pdss_cons (pds_set (i := 4) sc_law.nd rfl (Or.inl rfl) (pde_op opd_add (pde_var (pv 3)) (pde_ix ix_ok pde_str (pde_def h__law_drawn (hr.mono (by decide)) (pda_cons (pde_var (pv 0)) (pda_cons pde_int (pda_cons pde_int pda_nil))) (aCons_len (aCons_len (aCons_len aNil_len))))))) (pdss_cons (pds_set (i := 5) sc_law.nd rfl (Or.inl rfl) (pde_def h_how_many (hr.mono (by decide)) (pda_cons (pde_var (pv 3)) (pda_cons (pde_var (pv 1)) pda_nil)) (aCons_len (aCons_len aNil_len)))) (pdss_cons (pds_if (pdt_w (pdw_or (pdt_cmp (opd_ne hr.units) (pde_def h_fits (hr.mono (by decide)) (pda_cons (pde_var (pv 3)) (pda_cons (pde_var (pv 1)) pda_nil)) (aCons_len (aCons_len aNil_len))) (pde_cmp opd_gt (pde_var (pv 5)) pde_int (nomark _)) (nomark _)) (pdw_or1 (pdt_cmp (opd_ne hr.units) (pde_def h_how_many (hr.mono (by decide)) (pda_cons (pde_rev (pde_var (pv 3)) (pde_neg pde_int)) (pda_cons (pde_rev (pde_var (pv 1)) (pde_neg pde_int)) pda_nil)) (aCons_len (aCons_len aNil_len))) (pde_var (pv 5)) (nomark _))))) (pdss_one (pds_ret pde_bl)) pdss_nil) (pdss_cons (pds_if (pdt_w (pdw_or (pdt_cmp opd_lt (pde_def h_how_many (hr.mono (by decide)) (pda_cons (pde_var (pv 3)) (pda_cons (pde_op opd_add (pde_var (pv 1)) (pde_var (pv 2))) pda_nil)) (aCons_len (aCons_len aNil_len))) (pde_var (pv 5)) (nomark _)) (pdw_or (pdt_cmp opd_lt (pde_def h_how_many (hr.mono (by decide)) (pda_cons (pde_var (pv 3)) (pda_cons (pde_op opd_add (pde_var (pv 2)) (pde_var (pv 1))) pda_nil)) (aCons_len (aCons_len aNil_len))) (pde_var (pv 5)) (nomark _)) (pdw_or1 (pdt_cmp (opd_ne hr.units) (pde_def h_how_many (hr.mono (by decide)) (pda_cons pde_str (pda_cons (pde_var (pv 1)) pda_nil)) (aCons_len (aCons_len aNil_len))) pde_int (nomark _)))))) (pdss_one (pds_ret pde_bl)) pdss_nil) (pdss_cons (pds_if (pdt_w (pdw_and (pdt_cmp opd_gt (pde_def h_how_many (hr.mono (by decide)) (pda_cons (pde_var (pv 4)) (pda_cons (pde_var (pv 1)) pda_nil)) (aCons_len (aCons_len aNil_len))) pde_int (nomark _)) (pdw_and1 (pdt_not (pdt_tru (pde_def h_fits (hr.mono (by decide)) (pda_cons (pde_var (pv 3)) (pda_cons (pde_var (pv 1)) pda_nil)) (aCons_len (aCons_len aNil_len)))))))) (pdss_one (pds_ret pde_bl)) pdss_nil) (pdss_cons (pds_if (pdt_cmp (opd_eq hr.units) (pde_var (pv 5)) pde_int (nomark _)) (pdss_cons (pds_tryE ⟨rfl, rfl, rfl⟩ t_NoFit (fun pins E => (pdss_one (pds_exprX (pe_callX h_first_laying rfl (hr.mono (by decide)) (pda_cons (pde_var (pv 3)) (pda_cons (pde_var (pv 1)) pda_nil)) (aCons_len (aCons_len aNil_len)))))) (fun a oe V => (pdss_one (pds_ret (pde_not (pde_defV V v_fits (RoomU.of (hr.mono (by decide))) (pda_cons (pde_var (pv 4)) (pda_cons (pde_var (pv 1)) pda_nil)) (aCons_len (aCons_len aNil_len))))))) (ok1 t_NoFit x_NoFit_NoFit)) (pdss_one (pds_ret pde_bl))) pdss_nil) (pdss_cons (pds_set (i := 6) sc_law.nd rfl (Or.inr rfl) (pde_callN (pe_callX h_first_laying rfl (hr.mono (by decide)) (pda_cons (pde_var (pv 3)) (pda_cons (pde_var (pv 1)) pda_nil)) (aCons_len (aCons_len aNil_len))))) (pdss_cons (pds_set (i := 7) sc_law.nd rfl (Or.inr rfl) (pde_callN (pe_callX h_last_laying rfl (hr.mono (by decide)) (pda_cons (pde_var (pv 3)) (pda_cons (pde_var (pv 1)) pda_nil)) (aCons_len (aCons_len aNil_len))))) (pdss_cons (pds_if (pdt_w (pdw_or (pdt_not (pdt_tru (pde_def h_is_laying (hr.mono (by decide)) (pda_cons (pde_var (pv 3)) (pda_cons (pde_var (pv 1)) (pda_cons (pde_var (pv 6)) pda_nil))) (aCons_len (aCons_len (aCons_len aNil_len)))))) (pdw_or1 (pdt_not (pdt_tru (pde_def h_is_laying (hr.mono (by decide)) (pda_cons (pde_var (pv 3)) (pda_cons (pde_var (pv 1)) (pda_cons (pde_var (pv 7)) pda_nil))) (aCons_len (aCons_len (aCons_len aNil_len))))))))) (pdss_one (pds_ret pde_bl)) pdss_nil) (pdss_cons (pds_if (pdt_w (pdw_or (pdt_cmp (opd_ne hr.units) (pde_fr (pdf_comp (tn := ["_law_k"]) (fr := ["_law_first", "_law_last"]) (idx := [6, 7]) rfl rfl ⟨rfl, rfl, ⟨rfl, rfl, trivial⟩⟩ (setOk_nm 0) (pdi_range1 rfl z_range (pda_cons (pde_callB cd_len rfl z_len PySem.boot_len (pda_cons (pde_var (pv 3)) pda_nil)) pda_nil)) (fun s H C fp => (pdg_name (show List.Nodup (["_law_k", "_law_first", "_law_last"] : List Str) by decide +kernel) rfl (Or.inl rfl))) (fun s H C fp => (pdts_one (pdt_cmp opd_gt (pde_ix ix_ok (pde_var (pv 1)) (pde_var (pv 0))) (pde_ix ix_ok (pde_var (pv 2)) (pde_var (pv 0))) (nomark _)))) (fun s H C fp => (pde_var (pv 0))))) (pde_lst pda_nil) (nomark _)) (pdw_or1 (pdt_cmp (opd_ne hr.units) (pde_cmp (opd_eq hr.units) (pde_var (pv 5)) pde_int (nomark _)) (pde_cmp (opd_eq hr.units) (pde_var (pv 6)) (pde_var (pv 7)) (nomark _)) (nomark _))))) (pdss_one (pds_ret pde_bl)) pdss_nil) (pdss_cons (pds_if (pdt_cmp (opd_ne hr.units) (pde_callN (pe_callX h_last_laying rfl (hr.mono (by decide)) (pda_cons (pde_rev (pde_var (pv 3)) (pde_neg pde_int)) (pda_cons (pde_rev (pde_var (pv 1)) (pde_neg pde_int)) pda_nil)) (aCons_len (aCons_len aNil_len)))) (pde_fr (pdf_comp (tn := ["_law_place"]) (fr := ["_law_name_here"]) (idx := [1]) rfl rfl ⟨rfl, rfl, trivial⟩ (setOk_nm 0) (pdi_any (pde_rev (pde_var (pv 6)) (pde_neg pde_int))) (fun s H C fp => (pdg_name (show List.Nodup (["_law_place", "_law_name_here"] : List Str) by decide +kernel) rfl (Or.inl rfl))) (fun s H C fp => pdts_nil) (fun s H C fp => (pde_op opd_sub (pde_op opd_sub (pde_callB cd_len rfl z_len PySem.boot_len (pda_cons (pde_var (pv 1)) pda_nil)) pde_int) (pde_var (pv 0)))))) (nomark _)) (pdss_one (pds_ret pde_bl)) pdss_nil) (pdss_one (pds_ret (pde_or (pde_not (pde_def h_fits (hr.mono (by decide)) (pda_cons (pde_var (pv 4)) (pda_cons (pde_var (pv 1)) pda_nil)) (aCons_len (aCons_len aNil_len)))) (pde_one (pde_cmp (opd_eq hr.units) (pde_sl (pde_callN (pe_callX h_first_laying rfl (hr.mono (by decide)) (pda_cons (pde_var (pv 4)) (pda_cons (pde_var (pv 1)) pda_nil)) (aCons_len (aCons_len aNil_len)))) pdo_none (pdo_some (pde_neg pde_int))) (pde_var (pv 6)) (nomark _))))))))))))))))))))
end
theorem all_mk {l : PySem.W.OpenLaw} {w : World} {K : PySem.W.Frag} {h : Heap} {mg : Str → Option Value} {fa : Addr} (X : K.In h) (G : h.Ns mainGlobals mg) (hfa : mg "law" = some (.ref fa)) (hl : ∀ ns : List Int, ns.length ≤ 63 → m_law [.scr ns] = .ok (.bl true))
    {f0 f1 f2 f3 f4 f5 f6 f7 f8 f9 f10 f11 f12 f13 f14 : Addr} {od0 an0 od1 an1 od2 an2 od3 an3 od4 an4 od5 an5 od6 an6 od7 an7 od8 an8 od9 an9 od10 an10 od11 an11 od12 an12 od13 an13 od14 an14 : Option Addr} {sl0 sl1 sl2 sl3 sl4 sl5 sl6 sl7 sl8 sl9 sl10 sl11 sl12 sl13 sl14 : Array (Option Value)} {oc0 kV0 dc0 pm0 cd0 ct0 oc1 kV1 dc1 pm1 cd1 ct1 oc2 kV2 dc2 pm2 cd2 ct2 oc3 kV3 dc3 pm3 cd3 ct3 oc4 kV4 dc4 pm4 cd4 ct4 oc5 kV5 dc5 pm5 cd5 ct5 oc6 kV6 dc6 pm6 cd6 ct6 oc7 kV7 dc7 pm7 cd7 ct7 oc8 kV8 dc8 pm8 cd8 ct8 oc9 kV9 dc9 pm9 cd9 ct9 oc10 kV10 dc10 pm10 cd10 ct10 oc11 kV11 dc11 pm11 cd11 ct11 oc12 kV12 dc12 pm12 cd12 ct12 oc13 kV13 dc13 pm13 cd13 ct13 oc14 kV14 dc14 pm14 cd14 ct14 : Value} {t_SMALL : Tok}
    (a0 : PySem.W.nsIn K mainGlobals "_law_cell" = some (some (.ref f0))) (l0 : K.lookup f0 = some ⟨oc0, od0, .func (PySem.W.fnOf "_law_cell" "_law_cell" (defArgs s__law_cell) (defBody s__law_cell) (defScope s__law_cell) .none kV0 dc0 pm0 an0 cd0 ct0), sl0⟩) (c0 : PySem.W.codeIn K cd0 "_law_cell" = true) (k0 : PySem.W.keepIn K (.ref f0) = true)
    (a1 : PySem.W.nsIn K mainGlobals "_law_drawn" = some (some (.ref f1))) (l1 : K.lookup f1 = some ⟨oc1, od1, .func (PySem.W.fnOf "_law_drawn" "_law_drawn" (defArgs s__law_drawn) (defBody s__law_drawn) (defScope s__law_drawn) .none kV1 dc1 pm1 an1 cd1 ct1), sl1⟩) (c1 : PySem.W.codeIn K cd1 "_law_drawn" = true) (k1 : PySem.W.keepIn K (.ref f1) = true)
    (a2 : PySem.W.nsIn K mainGlobals "_law_name" = some (some (.ref f2))) (l2 : K.lookup f2 = some ⟨oc2, od2, .func (PySem.W.fnOf "_law_name" "_law_name" (defArgs s__law_name) (defBody s__law_name) (defScope s__law_name) .none kV2 dc2 pm2 an2 cd2 ct2), sl2⟩) (c2 : PySem.W.codeIn K cd2 "_law_name" = true) (k2 : PySem.W.keepIn K (.ref f2) = true)
    (a3 : PySem.W.nsIn K mainGlobals "_law_mark" = some (some (.ref f3))) (l3 : K.lookup f3 = some ⟨oc3, od3, .func (PySem.W.fnOf "_law_mark" "_law_mark" (defArgs s__law_mark) (defBody s__law_mark) (defScope s__law_mark) .none kV3 dc3 pm3 an3 cd3 ct3), sl3⟩) (c3 : PySem.W.codeIn K cd3 "_law_mark" = true) (k3 : PySem.W.keepIn K (.ref f3) = true)
    (a4 : PySem.W.nsIn K mainGlobals "_law_query" = some (some (.ref f4))) (l4 : K.lookup f4 = some ⟨oc4, od4, .func (PySem.W.fnOf "_law_query" "_law_query" (defArgs s__law_query) (defBody s__law_query) (defScope s__law_query) .none kV4 dc4 pm4 an4 cd4 ct4), sl4⟩) (c4 : PySem.W.codeIn K cd4 "_law_query" = true) (k4 : PySem.W.keepIn K (.ref f4) = true)
    (a5 : PySem.W.nsIn K mainGlobals "meets" = some (some (.ref f5))) (l5 : K.lookup f5 = some ⟨oc5, od5, .func (PySem.W.fnOf "meets" "meets" (defArgs s_meets) (defBody s_meets) (defScope s_meets) .none kV5 dc5 pm5 an5 cd5 ct5), sl5⟩) (c5 : PySem.W.codeIn K cd5 "meets" = true) (k5 : PySem.W.keepIn K (.ref f5) = true)
    (a6 : PySem.W.nsIn K mainGlobals "how_many" = some (some (.ref f6))) (l6 : K.lookup f6 = some ⟨oc6, od6, .func (PySem.W.fnOf "how_many" "how_many" (defArgs s_how_many) (defBody s_how_many) (defScope s_how_many) .none kV6 dc6 pm6 an6 cd6 ct6), sl6⟩) (c6 : PySem.W.codeIn K cd6 "how_many" = true) (k6 : PySem.W.keepIn K (.ref f6) = true)
    (a7 : PySem.W.nsIn K mainGlobals "earliest_places" = some (some (.ref f7))) (l7 : K.lookup f7 = some ⟨oc7, od7, .func (PySem.W.fnOf "earliest_places" "earliest_places" (defArgs s_earliest_places) (defBody s_earliest_places) (defScope s_earliest_places) .none kV7 dc7 pm7 an7 cd7 ct7), sl7⟩) (c7 : PySem.W.codeIn K cd7 "earliest_places" = true) (k7 : PySem.W.keepIn K (.ref f7) = true)
    (a8 : PySem.W.nsIn K mainGlobals "first_laying" = some (some (.ref f8))) (l8 : K.lookup f8 = some ⟨oc8, od8, .func (PySem.W.fnOf "first_laying" "first_laying" (defArgs s_first_laying) (defBody s_first_laying) (defScope s_first_laying) .none kV8 dc8 pm8 an8 cd8 ct8), sl8⟩) (c8 : PySem.W.codeIn K cd8 "first_laying" = true) (k8 : PySem.W.keepIn K (.ref f8) = true)
    (a9 : PySem.W.nsIn K mainGlobals "last_laying" = some (some (.ref f9))) (l9 : K.lookup f9 = some ⟨oc9, od9, .func (PySem.W.fnOf "last_laying" "last_laying" (defArgs s_last_laying) (defBody s_last_laying) (defScope s_last_laying) .none kV9 dc9 pm9 an9 cd9 ct9), sl9⟩) (c9 : PySem.W.codeIn K cd9 "last_laying" = true) (k9 : PySem.W.keepIn K (.ref f9) = true)
    (a10 : PySem.W.nsIn K mainGlobals "fits" = some (some (.ref f10))) (l10 : K.lookup f10 = some ⟨oc10, od10, .func (PySem.W.fnOf "fits" "fits" (defArgs s_fits) (defBody s_fits) (defScope s_fits) .none kV10 dc10 pm10 an10 cd10 ct10), sl10⟩) (c10 : PySem.W.codeIn K cd10 "fits" = true) (k10 : PySem.W.keepIn K (.ref f10) = true)
    (a11 : PySem.W.nsIn K mainGlobals "is_whole" = some (some (.ref f11))) (l11 : K.lookup f11 = some ⟨oc11, od11, .func (PySem.W.fnOf "is_whole" "is_whole" (defArgs s_is_whole) (defBody s_is_whole) (defScope s_is_whole) .none kV11 dc11 pm11 an11 cd11 ct11), sl11⟩) (c11 : PySem.W.codeIn K cd11 "is_whole" = true) (k11 : PySem.W.keepIn K (.ref f11) = true)
    (a12 : PySem.W.nsIn K mainGlobals "are_rising_places" = some (some (.ref f12))) (l12 : K.lookup f12 = some ⟨oc12, od12, .func (PySem.W.fnOf "are_rising_places" "are_rising_places" (defArgs s_are_rising_places) (defBody s_are_rising_places) (defScope s_are_rising_places) .none kV12 dc12 pm12 an12 cd12 ct12), sl12⟩) (c12 : PySem.W.codeIn K cd12 "are_rising_places" = true) (k12 : PySem.W.keepIn K (.ref f12) = true)
    (a13 : PySem.W.nsIn K mainGlobals "is_laying" = some (some (.ref f13))) (l13 : K.lookup f13 = some ⟨oc13, od13, .func (PySem.W.fnOf "is_laying" "is_laying" (defArgs s_is_laying) (defBody s_is_laying) (defScope s_is_laying) .none kV13 dc13 pm13 an13 cd13 ct13), sl13⟩) (c13 : PySem.W.codeIn K cd13 "is_laying" = true) (k13 : PySem.W.keepIn K (.ref f13) = true)
    (a14 : PySem.W.nsIn K mainGlobals "law" = some (some (.ref f14))) (l14 : K.lookup f14 = some ⟨oc14, od14, .func (PySem.W.fnOf "law" "law" (defArgs s_law) (defBody s_law) (defScope s_law) .none kV14 dc14 pm14 an14 cd14 ct14), sl14⟩) (c14 : PySem.W.codeIn K cd14 "law" = true) (k14 : PySem.W.keepIn K (.ref f14) = true)
    {C_NoFit : Addr}
    (c_NoFit : PySem.W.nsIn K mainGlobals "NoFit" = some (some (.ref C_NoFit)))
    (e_NoFit : PySem.W.excIn K C_NoFit VE "ValueError.__new__" = true)
    (x_NoFit_NoFit : PySem.W.exmOne K (.ref C_NoFit) (.ref C_NoFit) = some true)
    (g_SMALL : PySem.W.nsIn K mainGlobals "SMALL" = some (some (.str "abcdefghijklmnopqrstuvwxyz" t_SMALL)))
    (z_len : PySem.W.nsIn K mainGlobals "len" = some none)
    (z_range : PySem.W.nsIn K mainGlobals "range" = some none)
    (z_min : PySem.W.nsIn K mainGlobals "min" = some none)
    (z_reversed : PySem.W.nsIn K mainGlobals "reversed" = some none)
    (z_bool : PySem.W.nsIn K mainGlobals "bool" = some none)
    (z_isinstance : PySem.W.nsIn K mainGlobals "isinstance" = some none)
    (z_int : PySem.W.nsIn K mainGlobals "int" = some none)
    (z_zip : PySem.W.nsIn K mainGlobals "zip" = some none)
    (z_all : PySem.W.nsIn K mainGlobals "all" = some none)
    (z_list : PySem.W.nsIn K mainGlobals "list" = some none)
    : ∃ fd : FuncData, (∀ (s : Shared) (v : Value), BindsTo s fd ⟨[v], []⟩ [("_law_script", v)]) ∧ ∀ base : Heap, K.In base → base.Ns mainGlobals mg → FnOk l.prog w K mg base CX0 5 fa fd ["_law_script"] (spLaw K) := by
  have e := hfa.symm.trans (PySem.W.mg_of X G a14)
  cases e
  have D0 : DefAt K mg "_law_cell" s__law_cell f0 _ := ⟨fun_mk (st := s__law_cell) l0 c0 k0, PySem.W.mg_of X G a0⟩
  have D1 : DefAt K mg "_law_drawn" s__law_drawn f1 _ := ⟨fun_mk (st := s__law_drawn) l1 c1 k1, PySem.W.mg_of X G a1⟩
  have D2 : DefAt K mg "_law_name" s__law_name f2 _ := ⟨fun_mk (st := s__law_name) l2 c2 k2, PySem.W.mg_of X G a2⟩
  have D3 : DefAt K mg "_law_mark" s__law_mark f3 _ := ⟨fun_mk (st := s__law_mark) l3 c3 k3, PySem.W.mg_of X G a3⟩
  have D4 : DefAt K mg "_law_query" s__law_query f4 _ := ⟨fun_mk (st := s__law_query) l4 c4 k4, PySem.W.mg_of X G a4⟩
  have D5 : DefAt K mg "meets" s_meets f5 _ := ⟨fun_mk (st := s_meets) l5 c5 k5, PySem.W.mg_of X G a5⟩
  have D6 : DefAt K mg "how_many" s_how_many f6 _ := ⟨fun_mk (st := s_how_many) l6 c6 k6, PySem.W.mg_of X G a6⟩
  have D7 : DefAt K mg "earliest_places" s_earliest_places f7 _ := ⟨fun_mk (st := s_earliest_places) l7 c7 k7, PySem.W.mg_of X G a7⟩
  have D8 : DefAt K mg "first_laying" s_first_laying f8 _ := ⟨fun_mk (st := s_first_laying) l8 c8 k8, PySem.W.mg_of X G a8⟩
  have D9 : DefAt K mg "last_laying" s_last_laying f9 _ := ⟨fun_mk (st := s_last_laying) l9 c9 k9, PySem.W.mg_of X G a9⟩
  have D10 : DefAt K mg "fits" s_fits f10 _ := ⟨fun_mk (st := s_fits) l10 c10 k10, PySem.W.mg_of X G a10⟩
  have D11 : DefAt K mg "is_whole" s_is_whole f11 _ := ⟨fun_mk (st := s_is_whole) l11 c11 k11, PySem.W.mg_of X G a11⟩
  have D12 : DefAt K mg "are_rising_places" s_are_rising_places f12 _ := ⟨fun_mk (st := s_are_rising_places) l12 c12 k12, PySem.W.mg_of X G a12⟩
  have D13 : DefAt K mg "is_laying" s_is_laying f13 _ := ⟨fun_mk (st := s_is_laying) l13 c13 k13, PySem.W.mg_of X G a13⟩
  refine ⟨PySem.W.fnOf "law" "law" (defArgs s_law) (defBody s_law) (defScope s_law) .none kV14 dc14 pm14 an14 cd14 ct14, fun s v => .of_eq rfl, fun base _ _ => ?_⟩
  have t_NoFit : EC K mg "NoFit" C_NoFit := ⟨c_NoFit, PySem.W.mg_of X G c_NoFit, e_NoFit⟩
  have h__law_cell : DefOk l.prog w K mg base "_law_cell" 1 2 ["_law_script", "_law_k"] m__law_cell := ok__law_cell D0 (PySem.W.mg_none_of X G z_len)
  have h__law_drawn : DefOk l.prog w K mg base "_law_drawn" 2 3 ["_law_script", "_law_k", "_law_many"] m__law_drawn := ok__law_drawn D1 h__law_cell
  have h__law_name : DefOk l.prog w K mg base "_law_name" 3 2 ["_law_script", "_law_at"] m__law_name := ok__law_name D2 h__law_drawn (PySem.W.mg_none_of X G z_range)
  have h__law_mark : DefOk l.prog w K mg base "_law_mark" 1 1 ["_law_sign"] m__law_mark := ok__law_mark D3 
  have h__law_query : DefOk l.prog w K mg base "_law_query" 3 4 ["_law_script", "_law_at", "_law_name_here", "_law_most"] m__law_query := ok__law_query D4 h__law_drawn h__law_mark (PySem.W.mg_none_of X G z_range) (PySem.W.mg_none_of X G z_len) (PySem.W.mg_none_of X G z_min)
  have v_meets : DefV l.prog w K mg base "meets" 1 2 ["sign", "other"] m_meets := okV_meets D5 (PySem.W.mg_of X G g_SMALL)
  have h_meets : DefOk l.prog w K mg base "meets" 1 2 ["sign", "other"] m_meets := ok_meets D5 (PySem.W.mg_of X G g_SMALL)
  have h_how_many : DefOk l.prog w K mg base "how_many" 2 2 ["query", "name"] m_how_many := ok_how_many D6 h_meets (PySem.W.mg_none_of X G z_len) (PySem.W.mg_none_of X G z_range)
  have v_earliest_places : DefV l.prog w K mg base "earliest_places" 2 2 ["query", "name"] m_earliest_places := okV_earliest_places D7 v_meets (PySem.W.mg_none_of X G z_len) (PySem.W.mg_none_of X G z_range)
  have h_earliest_places : DefOk l.prog w K mg base "earliest_places" 2 2 ["query", "name"] m_earliest_places := ok_earliest_places D7 h_meets (PySem.W.mg_none_of X G z_len) (PySem.W.mg_none_of X G z_range)
  have h_first_laying : DefX l.prog w K mg base "first_laying" 3 2 ["query", "name"] m_first_laying := ok_first_laying D8 t_NoFit h_earliest_places (PySem.W.mg_none_of X G z_len)
  have h_last_laying : DefX l.prog w K mg base "last_laying" 4 2 ["query", "name"] m_last_laying := ok_last_laying D9 h_first_laying (PySem.W.mg_none_of X G z_reversed) (PySem.W.mg_none_of X G z_len)
  have v_fits : DefV l.prog w K mg base "fits" 3 2 ["query", "name"] m_fits := okV_fits D10 v_earliest_places (PySem.W.mg_none_of X G z_len)
  have h_fits : DefOk l.prog w K mg base "fits" 3 2 ["query", "name"] m_fits := ok_fits D10 h_earliest_places (PySem.W.mg_none_of X G z_len)
  have h_is_whole : DefOk l.prog w K mg base "is_whole" 1 1 ["thing"] m_is_whole := ok_is_whole D11 (PySem.W.mg_none_of X G z_bool) (PySem.W.mg_none_of X G z_isinstance) (PySem.W.mg_none_of X G z_int)
  have h_are_rising_places : DefOk l.prog w K mg base "are_rising_places" 2 2 ["name", "things"] m_are_rising_places := ok_are_rising_places D12 h_is_whole (PySem.W.mg_none_of X G z_len)
  have h_is_laying : DefOk l.prog w K mg base "is_laying" 3 3 ["query", "name", "thing"] m_is_laying := ok_is_laying D13 h_meets h_are_rising_places (PySem.W.mg_none_of X G z_zip) (PySem.W.mg_none_of X G z_all) (PySem.W.mg_none_of X G z_len) (PySem.W.mg_none_of X G z_list) (PySem.W.mg_none_of X G z_isinstance)
  exact law_fn (ok_law (fun_mk (st := s_law) l14 c14 k14) t_NoFit x_NoFit_NoFit h_first_laying h_fits h_last_laying h_is_laying h_how_many h__law_drawn h__law_query h__law_name v_fits (PySem.W.mg_none_of X G z_len) (PySem.W.mg_none_of X G z_range)) hl
-- MAIN
end Law
open PySem PySem.W PyProof.Rows
set_option maxRecDepth 100000 in
set_option maxHeartbeats 0 in
theorem PySem.Challenge.cw_fewfind_k03_whole_fits_holds : PySem.Challenge.rw_fewfind_k03_whole_fits.Holds := by
  w_on; o_law; k_head; (case hw => w_witness2)
  k_fill
  refine FD.walk (l := PySem.Challenge.rw_fewfind_k03_whole_fits) (k := 5) (p := "_law_script") rfl rfl ⟨rfl, by decide, by decide⟩ (fun w h Y => PySem.W.kIn_of Y) ?F
  case F =>
    intro w mg fa h KX G hmg
    refine' Law.all_mk KX G hmg Law.main ?a0 ?l0 ?c0 ?k0 ?a1 ?l1 ?c1 ?k1 ?a2 ?l2 ?c2 ?k2 ?a3 ?l3 ?c3 ?k3 ?a4 ?l4 ?c4 ?k4 ?a5 ?l5 ?c5 ?k5 ?a6 ?l6 ?c6 ?k6 ?a7 ?l7 ?c7 ?k7 ?a8 ?l8 ?c8 ?k8 ?a9 ?l9 ?c9 ?k9 ?a10 ?l10 ?c10 ?k10 ?a11 ?l11 ?c11 ?k11 ?a12 ?l12 ?c12 ?k12 ?a13 ?l13 ?c13 ?k13 ?a14 ?l14 ?c14 ?k14 ?c_NoFit ?e_NoFit ?x_NoFit_NoFit ?g_SMALL ?z_len ?z_range ?z_min ?z_reversed ?z_bool ?z_isinstance ?z_int ?z_zip ?z_all ?z_list
    (case a0 => k_is)
    (case l0 => k_is)
    (case c0 => k_is)
    (case k0 => k_is)
    (case a1 => k_is)
    (case l1 => k_is)
    (case c1 => k_is)
    (case k1 => k_is)
    (case a2 => k_is)
    (case l2 => k_is)
    (case c2 => k_is)
    (case k2 => k_is)
    (case a3 => k_is)
    (case l3 => k_is)
    (case c3 => k_is)
    (case k3 => k_is)
    (case a4 => k_is)
    (case l4 => k_is)
    (case c4 => k_is)
    (case k4 => k_is)
    (case a5 => k_is)
    (case l5 => k_is)
    (case c5 => k_is)
    (case k5 => k_is)
    (case a6 => k_is)
    (case l6 => k_is)
    (case c6 => k_is)
    (case k6 => k_is)
    (case a7 => k_is)
    (case l7 => k_is)
    (case c7 => k_is)
    (case k7 => k_is)
    (case a8 => k_is)
    (case l8 => k_is)
    (case c8 => k_is)
    (case k8 => k_is)
    (case a9 => k_is)
    (case l9 => k_is)
    (case c9 => k_is)
    (case k9 => k_is)
    (case a10 => k_is)
    (case l10 => k_is)
    (case c10 => k_is)
    (case k10 => k_is)
    (case a11 => k_is)
    (case l11 => k_is)
    (case c11 => k_is)
    (case k11 => k_is)
    (case a12 => k_is)
    (case l12 => k_is)
    (case c12 => k_is)
    (case k12 => k_is)
    (case a13 => k_is)
    (case l13 => k_is)
    (case c13 => k_is)
    (case k13 => k_is)
    (case a14 => k_is)
    (case l14 => k_is)
    (case c14 => k_is)
    (case k14 => k_is)
    (case c_NoFit => k_is)
    (case e_NoFit => k_exc)
    (case x_NoFit_NoFit => with_unfolding_all rfl)
    (case g_SMALL => k_is)
    (case z_len => k_is)
    (case z_range => k_is)
    (case z_min => k_is)
    (case z_reversed => k_is)
    (case z_bool => k_is)
    (case z_isinstance => k_is)
    (case z_int => k_is)
    (case z_zip => k_is)
    (case z_all => k_is)
    (case z_list => k_is)
