import PyProof.Rows.All
import Wide.All
import OpenK.AllK
import Wide.FinOn
import Lean
import PyProof.EqAt
import PyProof.EqKinds
import PyProof.TupleCall
import PyProof.NeKinds
import PyProof.NeData
import PyProof.P3In
import PyProof.ZipIter
import PyProof.Draws
import PyProof.StrWalks
import PyProof.IsiPairs
import PyProof.IsiSeqPairs
import PyProof.ConsumeWalk
import PyProof.ListStr
import PyProof.IsiHeapPairs
import PyProof.Rows.Range3
import PyProof.IsiNone
import KE.KRevIter
import KE.KRevSl
import PyProof.Conv_int_bool
import PyProof.ListRange
import PyProof.TupleOfSeq
import PyProof.MinMaxWalk
import PyProof.WalkInts
import PyProof.SeqI3
import PyProof.SetKind
import PyProof.Rows.SetFrom
import PyProof.CollectWalk
import PyProof.FactsAll.set
import PyProof.Rows.SortWalk
import PyProof.Rows.SortShell
import PyProof.Rows.SumAny
import PyProof.DictWalks
import PyProof.Rows.SortRev
import PyProof.Rows.SortStr
import PySem.Challenge.RW_fewfind_k82_telling
set_option Elab.async false
set_option linter.all false
set_option maxRecDepth 100000
namespace L2
open PySem PySem.Spec PyProof.Rows
abbrev Key := Sum Int Str
def keyIs : Key → Value → Bool
  | .inl k, v => Value.isInt k v
  | .inr x, v => Value.isStrOf x v
def keyH (w : World) : Key → Int
  | .inl k => hashInt k
  | .inr x => hashStr w x
theorem keyIs_shape : ∀ {k : Key} {v : Value}, keyIs k v = true → (∃ i t, k = Sum.inl i ∧ v = Value.int i t) ∨ (∃ x t, k = Sum.inr x ∧ v = Value.str x t)
  | .inl i, v, h => by
    obtain ⟨t, e⟩ := Value.isInt_shape (k := i) (v := v) h
    exact .inl ⟨i, t, rfl, e⟩
  | .inr x, v, h => by
    obtain ⟨t, e⟩ := Value.isStrOf_shape (x := x) (v := v) h
    exact .inr ⟨x, t, rfl, e⟩
theorem keyIs_int (i : Int) (t : Tok) : keyIs (.inl i) (.int i t) = true := by simp [keyIs, Value.isInt]
theorem keyIs_str (x : Str) (t : Tok) : keyIs (.inr x) (.str x t) = true := by simp [keyIs, Value.isStrOf]
theorem key_ll (a b : Int) : decide ((Sum.inl a : Key) = Sum.inl b) = (a == b) := by
  by_cases e : a = b
  · subst e; simp
  · have h : ¬ (Sum.inl a : Key) = Sum.inl b := fun q => e (Sum.inl.inj q)
    rw [decide_eq_false h]
    exact (beq_eq_false_iff_ne.mpr e).symm
theorem key_rr (a b : Str) : decide ((Sum.inr a : Key) = Sum.inr b) = decide (a = b) := by
  by_cases e : a = b
  · subst e; simp
  · have h : ¬ (Sum.inr a : Key) = Sum.inr b := fun q => e (Sum.inr.inj q)
    rw [decide_eq_false h, decide_eq_false e]
theorem key_lr (a : Int) (b : Str) : decide ((Sum.inl a : Key) = Sum.inr b) = false := decide_eq_false (fun q => nomatch q)
theorem key_rl (a : Str) (b : Int) : decide ((Sum.inr a : Key) = Sum.inl b) = false := decide_eq_false (fun q => nomatch q)
def mixKind (prog : Program) (w : World) : PySem.KeyKind prog w Key where
  is := keyIs
  hash := keyH w
  inj := fun v a b ha hb => by
    rcases keyIs_shape ha with ⟨i, t, rfl, rfl⟩ | ⟨x, t, rfl, rfl⟩
    · rcases keyIs_shape hb with ⟨j, u, rfl, e⟩ | ⟨y, u, rfl, e⟩
      · injection e with e1 _; rw [e1]
      · exact nomatch e
    · rcases keyIs_shape hb with ⟨j, u, rfl, e⟩ | ⟨y, u, rfl, e⟩
      · exact nomatch e
      · injection e with e1 _; rw [e1]
  byValue := fun k v h => by
    rcases keyIs_shape h with ⟨i, t, rfl, rfl⟩ | ⟨x, t, rfl, rfl⟩ <;> rfl
  pyHash := fun hv h => by
    rcases keyIs_shape hv with ⟨i, t, rfl, rfl⟩ | ⟨x, t, rfl, rfl⟩
    · exact wpAny_pyHash_int h
    · exact wpAny_pyHash_str h
  eqBool := fun hu hv h => by
    rcases keyIs_shape hu with ⟨i, t, rfl, rfl⟩ | ⟨x, t, rfl, rfl⟩
    · rcases keyIs_shape hv with ⟨j, u, rfl, rfl⟩ | ⟨y, u, rfl, rfl⟩
      · rw [key_ll] at h; exact wpAny_eqBool_int h
      · rw [key_lr] at h; exact SeqAt.EqAt.int_str i t y u _ _ _ _ h
    · rcases keyIs_shape hv with ⟨j, u, rfl, rfl⟩ | ⟨y, u, rfl, rfl⟩
      · rw [key_rl] at h; exact SeqAt.EqAt.str_int x t j u _ _ _ _ h
      · rw [key_rr] at h; exact wpAny_eqBool_str h
  «strs» := fun k x t v h => by
    rcases keyIs_shape h with ⟨i, u, rfl, e⟩ | ⟨y, u, rfl, e⟩
    · exact nomatch e
    · injection e with e1 _
      subst e1
      cases v <;> rfl
theorem mixKind_int (prog : Program) (w : World) (i : Int) (t : Tok) : (mixKind prog w).is (.inl i) (.int i t) = true := keyIs_int i t
theorem mixKind_str (prog : Program) (w : World) (x : Str) (t : Tok) : (mixKind prog w).is (.inr x) (.str x t) = true := keyIs_str x t
end L2
namespace L2
open PySem PySem.Spec PyProof.Rows
inductive V where
  | non | bl (b : Bool) | int (i : Int) | str (x : Str) | byt (b : Array UInt8) | flt (b : UInt64) | ref (a : Addr) | ty (n : String)
  deriving DecidableEq
def RelV : V → Value → Prop
  | .non, u => u = Value.none
  | .bl b, u => u = Value.bool b
  | .int i, u => ∃ t, u = Value.int i t
  | .str x, u => ∃ t, u = Value.str x t
  | .byt b, u => ∃ t, u = Value.bytes b t
  | .flt b, u => ∃ t, u = Value.float b t
  | .ref a, u => u = Value.ref a
  | .ty n, u => u = Value.type n
abbrev Vals : List V → List Value → Prop := Paired RelV
theorem Vals.length {xs : List V} {us : List Value} (r : Vals xs us) : xs.length = us.length := Paired.length r
theorem Vals.get : ∀ {xs : List V} {us : List Value} {i : Nat} {x : V}, Vals xs us → xs[i]? = some x → ∃ u, us[i]? = some u ∧ RelV x u
  | _, _, _, _, .nil, e => by simp at e
  | _, _, 0, _, .cons r _, e => by simp at e; subst e; exact ⟨_, rfl, r⟩
  | _, _, i + 1, x, .cons _ t, e => by
    obtain ⟨u, h1, h2⟩ := Vals.get (i := i) (x := x) t (by simpa using e)
    exact ⟨u, by simpa using h1, h2⟩
theorem Vals.set {x : V} {u : Value} (r : RelV x u) : ∀ {xs : List V} {us : List Value} (i : Nat), Vals xs us → Vals (xs.set i x) (us.set i u)
  | _, _, _, .nil => .nil
  | _, _, 0, .cons _ t => .cons r t
  | _, _, i + 1, .cons q t => .cons q (Vals.set r i t)
theorem Vals.append : ∀ {xs ys : List V} {us ws : List Value}, Vals xs us → Vals ys ws → Vals (xs ++ ys) (us ++ ws)
  | _, _, _, _, .nil, s => s
  | _, _, _, _, .cons r t, s => .cons r (Vals.append t s)
theorem Vals.take : ∀ {xs : List V} {us : List Value} (n : Nat), Vals xs us → Vals (xs.take n) (us.take n)
  | _, _, 0, _ => .nil
  | _, _, _ + 1, .nil => .nil
  | _, _, n + 1, .cons r t => .cons r (Vals.take n t)
theorem Vals.drop : ∀ {xs : List V} {us : List Value} (n : Nat), Vals xs us → Vals (xs.drop n) (us.drop n)
  | _, _, 0, r => r
  | _, _, _ + 1, .nil => .nil
  | _, _, n + 1, .cons _ t => Vals.drop n t
def RelO : Option V → Option Value → Prop
  | some v, some u => RelV v u
  | none, none => True
  | _, _ => False
def KV {κ : Type} : List (κ × V) → List (κ × Value) → Prop := Paired fun (p : κ × V) (q : κ × Value) => p.1 = q.1 ∧ RelV p.2 q.2
def kV : Key → V
  | .inl i => .int i
  | .inr x => .str x
inductive HO where
  | lst (xs : List V)
  | tup (xs : List V)
  | dK (kvs : List (Key × V)) | dT (kvs : List (List Key × V))
  | set (S : Int → Bool) (n : Nat)
  | ins (C dx : Addr) (fs : List (Str × V))
  | own (x : Addr)
  | xd (fs : List (Str × V))
  | met (f x : Addr)
  | rng (lo hi : Int)
  | frz (o : Obj) (u : HO)
  | tbl (ps : Array Value)
  | ext (φ : Heap → Prop)
abbrev Hp := Addr → Option HO
def upd (H : Hp) (a : Addr) (o : HO) : Hp := fun b => if b = a then some o else H b
theorem upd_same {H : Hp} {a : Addr} {o : HO} : upd H a o a = some o := by unfold upd; rw [if_pos rfl]
theorem upd_ne {H : Hp} {a b : Addr} {o : HO} (h : b ≠ a) : upd H a o b = H b := by unfold upd; rw [if_neg h]
theorem upd_upd {H : Hp} {a : Addr} {o u : HO} : upd (upd H a o) a u = upd H a u := by
  funext b; unfold upd; split <;> rfl
theorem ne_of {H : Hp} {a b : Addr} {o u : HO} (h : H a = some o) (h' : H b = some u) (d : o ≠ u) : a ≠ b := by
  intro e; subst e; rw [h] at h'; exact d (Option.some.inj h')
theorem ne_of_none {H : Hp} {a b : Addr} {o : HO} (h : H a = some o) (h' : H b = none) : a ≠ b := by
  intro e; subst e; rw [h] at h'; cases h'
section
variable (P : Program) (w : World)
def ObjOk (H : Hp) (h : Heap) (a : Addr) : HO → Prop
  | .lst xs => xs.length ≤ sizeLine ∧ ∃ (its : List Value) (n : Nat), Vals xs its ∧ h.get? a = some { cls := .type "list", data := .seq its.toArray n }
  | .tup xs => xs.length ≤ sizeLine ∧ ∃ its : List Value, Vals xs its ∧ IsTup h a its.toArray
  | .dK kvs => kvs.length ≤ sizeLine ∧ (a == sysModules) = false ∧ ∃ vs, KV kvs vs ∧ h.DictOf (mixKind P w) a vs
  | .dT kvs => kvs.length ≤ sizeLine ∧ (a == sysModules) = false ∧ ∃ xs : List (List Key × Addr × Value),
      Paired (fun (p : List Key × V) (q : List Key × Addr × Value) => p.1 = q.1 ∧ H q.2.1 = some (.tup (p.1.map kV)) ∧ RelV p.2 q.2.2) kvs xs ∧
      ∃ o es ep, h.get? a = some o ∧ o.ExactDict ∧ o.data = .dict es ep ∧ es.toList = xs.map (entryOfKey (tupleKind (mixKind P w))) ∧ (xs.map (·.1)).Nodup
  | .set S n => h.SetOf (intKind P w) a S n
  | .ins C dx fs => H dx = some (.own a) ∧ fs.length ≤ 1000 ∧ dx ≠ a ∧ h.get? a = some (PySem.W.instObj C dx) ∧
      ∃ mA, h.Ns1 dx mA ∧ (∀ f, RelO (fs.lookup f) (mA f)) ∧ PySem.Within mA (fs.map (·.1))
  | .own _ => ∃ o, h.get? a = some o
  | .xd fs => ∃ mA, h.Ns1 a mA ∧ ∀ f, RelO (fs.lookup f) (mA f)
  | .rng lo hi => ∃ t u v, h.get? a = some { cls := .type "range", data := .fields #[.int lo t, .int hi u, .int 1 v] }
  | .frz o u => h.get? a = some o ∧ ObjOk H h a u
  | .tbl ps => h.get? a = some { cls := .none, data := .fields ps }
  | .met f x => h.get? a = some (PySem.W.methodObj (.ref f) (.ref x))
  | .ext φ => φ h ∧ (∃ o, h.get? a = some o) ∧ ∀ h1 h2 : Heap, φ h1 → (∀ o, h1.get? a = some o → h2.get? a = some o) → φ h2
def HOk (H : Hp) (h : Heap) : Prop := ∀ a o, H a = some o → ObjOk P w H h a o
end
section
variable {P : Program} {w : World} {H H' : Hp} {h h' : Heap} {a : Addr} {o : HO}
theorem ObjOk.lt (x : ObjOk P w H h a o) : a < h.objs.size := by
  cases o with
  | lst xs => obtain ⟨_, _, _, _, e⟩ := x; exact Heap.lt_size e
  | tup xs => obtain ⟨_, _, _, p⟩ := x; exact p.lt
  | dK kvs => obtain ⟨_, _, _, _, o, _, _, e, _⟩ := x; exact Heap.lt_size e
  | dT kvs => obtain ⟨_, _, _, _, o, _, _, e, _⟩ := x; exact Heap.lt_size e
  | set S n => obtain ⟨o, _, _, _, e, _⟩ := x; exact Heap.lt_size e
  | ins C dx fs => obtain ⟨_, _, _, e, _⟩ := x; exact Heap.lt_size e
  | own y => obtain ⟨_, e⟩ := x; exact Heap.lt_size e
  | xd fs => obtain ⟨_, ⟨_, _, _, e, _⟩, _⟩ := x; exact Heap.lt_size e
  | rng lo hi => obtain ⟨_, _, _, e⟩ := x; exact Heap.lt_size e
  | frz ob u => obtain ⟨e, _⟩ := x; exact Heap.lt_size e
  | tbl ps => exact Heap.lt_size (show h.get? a = some _ from x)
  | met f y => exact Heap.lt_size (show h.get? a = some _ from x)
  | ext φ => obtain ⟨_, ⟨_, e⟩, _⟩ := x; exact Heap.lt_size e
theorem Paired.mapP {α β : Type} {F G : α → β → Prop} : ∀ {l₁ : List α} {l₂ : List β}, Paired F l₁ l₂ → (∀ a b, F a b → G a b) → Paired G l₁ l₂
  | _, _, .nil, _ => .nil
  | _, _, .cons r t, f => .cons (f _ _ r) (Paired.mapP t f)
theorem ObjOk.stay (x : ObjOk P w H h a o) (k : ∀ b u, (b = a ∨ H b = some (.own a)) → h.get? b = some u → h'.get? b = some u)
    (ho : ∀ b, H b = some (.own a) → H' b = some (.own a)) (ht : ∀ b xs, H b = some (.tup xs) → H' b = some (.tup xs)) : ObjOk P w H' h' a o := by
  induction o with
  | lst xs => obtain ⟨z, its, n, r, e⟩ := x; exact ⟨z, its, n, r, k _ _ (.inl rfl) e⟩
  | tup xs => obtain ⟨z, its, r, ob, e, c⟩ := x; exact ⟨z, its, r, ob, k _ _ (.inl rfl) e, c⟩
  | dK kvs => obtain ⟨z, y, vs, r, ob, es, ep, e, c⟩ := x; exact ⟨z, y, vs, r, ob, es, ep, k _ _ (.inl rfl) e, c⟩
  | dT kvs =>
    obtain ⟨z, y, xs, r, ob, es, ep, e, c⟩ := x
    exact ⟨z, y, xs, Paired.mapP r fun p q z => ⟨z.1, ht _ _ z.2.1, z.2.2⟩, ob, es, ep, k _ _ (.inl rfl) e, c⟩
  | set S n => obtain ⟨ob, es, ep, t, e, c⟩ := x; exact ⟨ob, es, ep, t, k _ _ (.inl rfl) e, c⟩
  | ins C dx fs =>
    obtain ⟨d, z, ne, e, mA, ⟨od, es, ep, e2, c⟩, r⟩ := x
    exact ⟨ho _ d, z, ne, k _ _ (.inl rfl) e, mA, ⟨od, es, ep, k _ _ (.inr d) e2, c⟩, r⟩
  | own y => obtain ⟨ob, e⟩ := x; exact ⟨ob, k _ _ (.inl rfl) e⟩
  | xd fs => obtain ⟨mA, ⟨od, es, ep, e, c⟩, r⟩ := x; exact ⟨mA, ⟨od, es, ep, k _ _ (.inl rfl) e, c⟩, r⟩
  | rng lo hi => obtain ⟨t, u, v, e⟩ := x; exact ⟨t, u, v, k _ _ (.inl rfl) e⟩
  | frz ob u ih => obtain ⟨e, q⟩ := x; exact ⟨k _ _ (.inl rfl) e, ih q⟩
  | tbl ps =>
    have e : h.get? a = some { cls := .none, data := .fields ps } := x
    show h'.get? a = some { cls := .none, data := .fields ps }
    exact k a _ (.inl rfl) e
  | met f y =>
    have e : h.get? a = some (PySem.W.methodObj (.ref f) (.ref y)) := x
    show h'.get? a = some (PySem.W.methodObj (.ref f) (.ref y))
    exact k a _ (.inl rfl) e
  | ext φ => obtain ⟨p, ⟨o, e⟩, st⟩ := x; exact ⟨st _ _ p fun o q => k _ _ (.inl rfl) q, ⟨o, k _ _ (.inl rfl) e⟩, st⟩
theorem HOk.lt (x : HOk P w H h) (e : H a = some o) : a < h.objs.size := (x a o e).lt
theorem HOk.fresh (x : HOk P w H h) (e : h.objs.size ≤ a) : H a = none := by
  cases q : H a with
  | none => rfl
  | some u => exact absurd (Nat.lt_of_lt_of_le (x.lt q) e) (Nat.lt_irrefl _)
theorem HOk.kept (x : HOk P w H h) (k : ∀ b u, h.get? b = some u → h'.get? b = some u) : HOk P w H h' := fun a o e =>
  (x a o e).stay (fun b u _ q => k b u q) (fun _ q => q) fun _ _ q => q
theorem HOk.laid (x : HOk P w H h) (k : ∀ b u, h.get? b = some u → h'.get? b = some u) (hp : h.objs.size ≤ a) (new : ObjOk P w (upd H a o) h' a o) : HOk P w (upd H a o) h' := fun b u e => by
  have hn := x.fresh hp
  by_cases hb : b = a
  · subst hb; rw [upd_same] at e; cases e; exact new
  · rw [upd_ne hb] at e
    exact (x b u e).stay (fun c v _ q => k c v q) (fun c q => by rw [upd_ne (ne_of_none q hn)]; exact q) fun c xs q => by rw [upd_ne (ne_of_none q hn)]; exact q
end
def Rd (H : Hp) (a : Addr) (u : HO) : Prop := H a = some u ∨ ∃ o, H a = some (.frz o u)
theorem Rd.ok {P : Program} {w : World} {H : Hp} {h : Heap} {a : Addr} {u : HO} (r : Rd H a u) (x : HOk P w H h) : ObjOk P w H h a u := by
  rcases r with r | ⟨o, r⟩
  · exact x a u r
  · obtain ⟨_, q⟩ := x a _ r
    exact q
def Mut : Option HO → Prop
  | some (.lst _) => True
  | some (.dK _) => True
  | some (.dT _) => True
  | some (.set _ _) => True
  | some (.ins _ _ _) => True
  | some (.ext _) => True
  | _ => False
section
variable {P : Program} {w : World} {H : Hp} {h h' : Heap} {x e : Addr} {o' : HO}
theorem HOk.write (ok : HOk P w H h) (mu : Mut (H x)) (he : e = x ∨ H e = some (.own x)) (k : ∀ b u, b ≠ e → h.get? b = some u → h'.get? b = some u) (heo : ∃ u, h'.get? e = some u)
    (new : ObjOk P w (upd H x o') h' x o') : HOk P w (upd H x o') h' := fun b u q => by
  have nown : ∀ c y, H c = some (.own y) → c ≠ x := fun c y r z => by subst z; rw [r] at mu; exact mu
  have ntup : ∀ c xs, H c = some (.tup xs) → c ≠ x := fun c xs r z => by subst z; rw [r] at mu; exact mu
  by_cases hb : b = x
  · subst hb; rw [upd_same] at q; cases q; exact new
  · rw [upd_ne hb] at q
    by_cases hbe : b = e
    · have q' : H b = some (.own x) := by
        rcases he with z | z
        · exact absurd (hbe.trans z) hb
        · rw [hbe]; exact z
      rw [q] at q'; cases q'
      obtain ⟨v, hv⟩ := heo
      exact ⟨v, by rw [hbe]; exact hv⟩
    · refine (ok b u q).stay (fun c v hc r => k c v ?_ r) (fun c r => by rw [upd_ne (nown c b r)]; exact r) fun c xs r => by rw [upd_ne (ntup c xs r)]; exact r
      rcases hc with rfl | hc
      · exact hbe
      · rintro rfl
        rcases he with z | z
        · exact nown c b hc z
        · rw [hc] at z; cases z; exact hb rfl
end
structure Un (fs ex : List Addr) (H H' : Hp) (h h' : Heap) : Prop where
  keep : ∀ b o, h.get? b = some o → H b = none → b ∉ fs → b ∉ ex → h'.get? b = some o
  slot : ∀ b o, h.get? b = some o → H b = none → b ∈ fs → b ∉ ex → ∃ sl, h'.get? b = some { o with slots := sl }
  free : ∀ b o, h.get? b = some o → H b = none → b ∉ ex → H' b = none
  there : ∀ b o, h.get? b = some o → b ∉ ex → ∃ o', h'.get? b = some o'
  tups : ∀ b xs, H b = some (.tup xs) → H' b = some (.tup xs)
  frzs : ∀ b o u, H b = some (.frz o u) → H' b = some (.frz o u)
  tbls : ∀ b ps, H b = some (.tbl ps) → ∃ more, H' b = some (.tbl (ps ++ more))
section
variable {fs fs' ex ex' : List Addr} {H H1 H2 : Hp} {h h1 h2 h' : Heap} {a x e : Addr} {o : HO}
theorem Un.any (u : Un fs ex H H1 h h1) {b : Addr} {ob : Obj} (q : h.get? b = some ob) (n : H b = none) (hx : b ∉ ex) : ∃ sl, h1.get? b = some { ob with slots := sl } := by
  by_cases hb : b ∈ fs
  · exact u.slot b ob q n hb hx
  · exact ⟨ob.slots, u.keep b ob q n hb hx⟩
theorem Un.kept (k : ∀ b u, h.get? b = some u → h'.get? b = some u) : Un fs ex H H h h' :=
  ⟨fun b ob q _ _ _ => k b ob q, fun b ob q _ _ _ => ⟨ob.slots, k b ob q⟩, fun _ _ _ n _ => n, fun b ob q _ => ⟨ob, k b ob q⟩, fun _ _ q => q, fun _ _ _ q => q, fun _ ps q => ⟨#[], by rw [q]; simp⟩⟩
theorem Un.refl : Un fs ex H H h h := Un.kept fun _ _ q => q
theorem Un.laid (k : ∀ b u, h.get? b = some u → h'.get? b = some u) (hp : h.objs.size ≤ a) (hn : H a = none) : Un fs ex H (upd H a o) h h' where
  keep := fun b u q _ _ _ => k b u q
  slot := fun b u q _ _ _ => ⟨u.slots, k b u q⟩
  free := fun b u q n _ => by rw [upd_ne (Nat.ne_of_lt (Nat.lt_of_lt_of_le (Heap.lt_size q) hp))]; exact n
  there := fun b u q _ => ⟨u, k b u q⟩
  tups := fun b xs q => by rw [upd_ne (ne_of_none q hn)]; exact q
  frzs := fun b u xs q => by rw [upd_ne (ne_of_none q hn)]; exact q
  tbls := fun b ps q => ⟨#[], by rw [upd_ne (ne_of_none q hn), q]; simp⟩
theorem Un.write (mu : Mut (H x)) (he : e = x ∨ H e = some (.own x)) (k : ∀ b u, b ≠ e → h.get? b = some u → h'.get? b = some u) (heo : ∃ u, h'.get? e = some u) : Un fs ex H (upd H x o) h h' := by
  have hx : ∀ b, H b = none → b ≠ x := fun b n z => by subst z; rw [n] at mu; exact mu
  have hb : ∀ b, H b = none → b ≠ e := fun b n z => by
    subst z
    rcases he with r | r
    · exact hx b n r
    · rw [n] at r; cases r
  have hm : ∀ b u, H b = some u → ¬ Mut (some u) → b ≠ x := fun b u q nm z => by subst z; rw [q] at mu; exact nm mu
  refine ⟨fun b u q n _ _ => k b u (hb b n) q, fun b u q n _ _ => ⟨u.slots, k b u (hb b n) q⟩, fun b u q n _ => by rw [upd_ne (hx b n)]; exact n, fun b u q _ => ?_,
    fun b xs q => by rw [upd_ne (hm b _ q fun z => z)]; exact q, fun b u xs q => by rw [upd_ne (hm b _ q fun z => z)]; exact q, fun b ps q => ⟨#[], by rw [upd_ne (hm b _ q fun z => z), q]; simp⟩⟩
  by_cases hbe : b = e
  · subst hbe; exact heo
  · exact ⟨u, k b u hbe q⟩
end
def trk (h : Heap) (H : Hp) : List Addr := (List.range h.objs.size).filter fun a => (H a).isSome
def hidT (h : Heap) (H : Hp) : Heap := PySem.W.hideAll h (trk h H)
theorem hidT_size (h : Heap) (H : Hp) : (hidT h H).objs.size = h.objs.size := PySem.W.hideAll_size _ _
theorem hidT_get {h : Heap} {H : Hp} {b : Addr} {o : Obj} (e : h.get? b = some o) (n : H b = none) : (hidT h H).get? b = some o :=
  PySem.W.hideAll_get _ e fun hm => by
    have q : (H b).isSome = true := (List.mem_filter.mp hm).2
    rw [n] at q; simp at q
theorem of_hidT {h : Heap} {H : Hp} {b : Addr} {o : Obj} (e : (hidT h H).get? b = some o) : h.get? b = some o ∧ H b = none := by
  have e' : h.get? b = some o := PySem.W.of_hideAll (trk h H) e
  refine ⟨e', ?_⟩
  cases q : H b with
  | none => rfl
  | some x =>
    have hm : b ∈ trk h H := List.mem_filter.mpr ⟨List.mem_range.mpr (Heap.lt_size e'), by simp [q]⟩
    have z : (hidT h H).get? b = none := PySem.W.hideAll_none (trk h H) hm
    rw [z] at e; cases e
def allNews (g h : Heap) (L : Addr) : List (Addr × Obj) := (List.range h.objs.size).filterMap fun a => if a = L ∨ (g.get? a).isSome = true then none else (h.get? a).map fun o => (a, o)
def rest (g h : Heap) (L d : Addr) : List (Addr × Obj) := (allNews g h L).filter fun p => decide (p.1 ≠ d)
end L2
namespace L2
open PySem PySem.Spec PyProof.Rows
structure Mod (K : PySem.W.Frag) (mg : Str → Option Value) (base : Heap) : Prop where
  kin : K.In base
  glob : base.Ns mainGlobals mg
  blt : ∃ mb, base.Ns builtinsNs mb ∧ ∀ x : Str, x ≠ "__name__" → mb x = bootBuiltins x
  nolimit : base.NoLimit
structure Cx where
  prog : Program
  w : World
  K : PySem.W.Frag
  mg : Str → Option Value
  base : Heap
  A : Around
  N : List Str
  s₀ : Shared
  H₀ : Hp
  env : Env
  outer : List Env
  stack : List Env
  ex : List Addr
  fn : Str → Bool
  calm : Bool
  pn : List (Addr × Obj)
  xe : Value → Shared → Prop
def frs (l : List Env) : List Addr := l.filterMap (·.frame)
abbrev Cx.fs (X : Cx) : List Addr := frs X.outer
def Vis (sc : Scope) (x : Str) : Prop := sc.names.lookup x = some .local ∨ sc.names.lookup x = some .cell ∨ sc.names.lookup x = some .free
def Loc (sc : Scope) (x : Str) : Prop := sc.names.lookup x = some .local ∨ sc.names.lookup x = some .cell
def Look (env : Env) (h : Heap) (m : Str → Option Value) (x : Str) (u : Value) : Prop :=
  (env.kindOf x = some .local ∧ m x = some u) ∨ ((env.kindOf x = some .cell ∨ env.kindOf x = some .free) ∧ ∃ c, env.cells.lookup x = some c ∧ h.IsCell c (some u))
structure Cx.Ok (X : Cx) : Prop where
  mod : Mod X.K X.mg X.base
  kind : X.env.scope.kind = .function
  glob : X.env.globals = mainGlobals
  blt : X.env.builtins = builtinsNs
  above : X.s₀.heap.objs.size ≤ X.env.locals
  inj : ∀ x y c, X.env.cells.lookup x = some c → X.env.cells.lookup y = some c → x = y
  has : ∀ x, (X.env.kindOf x = some .cell ∨ X.env.kindOf x = some .free) → ∃ c, X.env.cells.lookup x = some c
  cab : ∀ x c, X.fn x = true → X.env.cells.lookup x = some c → X.s₀.heap.objs.size ≤ c
  hd : X.calm = true → X.A.handled = none
  frames : X.A.frames = some X.stack
  stk : X.stack = X.outer ∨ (X.stack = X.env :: X.outer ∧ X.env.frame = some X.env.locals)
  exf : ∀ b ∈ X.ex, b ≠ X.env.locals ∧ ∀ x c, X.env.cells.lookup x = some c → c ≠ b
  bs : ∀ b o, X.base.get? b = some o → X.s₀.heap.get? b = some o ∧ X.H₀ b = none
  bsz : X.base.objs.size ≤ X.s₀.heap.objs.size
  noex : ∀ b o, X.base.get? b = some o → b ∉ X.ex
  exfs : ∀ b ∈ X.ex, b ∉ X.fs
  funs : X.s₀.heap.FunFrames X.base X.outer
  frf : ∀ b ∈ X.fs, X.H₀ b = none
structure Inv (X : Cx) (pins : List (Addr × Obj)) (σ : List (Option V)) (H : Hp) (s : Shared) : Prop where
  ok : X.Ok
  os : s.os = X.s₀.os
  bare : AllBare s.gens
  base : Un X.fs X.ex X.H₀ H X.s₀.heap s.heap
  loc : ∃ m, s.heap.Ns X.env.locals m ∧ ∀ (i : Nat) (x : Str) (v : V), X.N[i]? = some x → σ[i]? = some (some v) → Vis X.env.scope x → ∃ u, RelV v u ∧ Look X.env s.heap m x u
  cell : ∀ x c, X.env.cells.lookup x = some c → ∃ v, s.heap.IsCell c v
  free : H X.env.locals = none
  freeC : ∀ x c, X.env.cells.lookup x = some c → H c = none
  pin : ∀ p ∈ X.pn ++ pins, s.heap.get? p.1 = some p.2 ∧ H p.1 = none ∧ p.1 ≠ X.env.locals ∧ p.1 ∉ X.fs ∧ ∀ v, p.2.data ≠ .cell v
  hok : HOk X.prog X.w H s.heap
  len : σ.length = X.N.length
section
variable {X : Cx} {pins : List (Addr × Obj)} {σ : List (Option V)} {H H' : Hp} {s : Shared} {h' : Heap}
theorem Cx.Ok.nofr (ok : X.Ok) {b : Addr} {o : Obj} (e : X.base.get? b = some o) : b ∉ X.fs := fun hb => by
  have := (ok.funs.mem hb).1
  rw [e] at this; cases this
theorem Inv.bs (I : Inv X pins σ H s) : ∀ b o, X.base.get? b = some o → s.heap.get? b = some o ∧ H b = none := fun b o e =>
  ⟨I.base.keep b o (I.ok.bs b o e).1 (I.ok.bs b o e).2 (I.ok.nofr e) (I.ok.noex b o e), I.base.free b o (I.ok.bs b o e).1 (I.ok.bs b o e).2 (I.ok.noex b o e)⟩
theorem Inv.bk (I : Inv X pins σ H s) : ∀ b o, X.base.get? b = some o → s.heap.get? b = some o := fun b o e => (I.bs b o e).1
theorem Inv.mod (I : Inv X pins σ H s) : Mod X.K X.mg X.base := I.ok.mod
theorem Inv.kIn (I : Inv X pins σ H s) : X.K.In s.heap := I.ok.mod.kin.keeps I.bk
theorem Inv.lt (I : Inv X pins σ H s) : X.env.locals < s.heap.objs.size := let ⟨_, hn, _⟩ := I.loc; hn.lt
theorem Inv.sz (I : Inv X pins σ H s) : X.s₀.heap.objs.size ≤ s.heap.objs.size := Nat.le_trans I.ok.above (Nat.le_of_lt I.lt)
theorem Inv.nofs (I : Inv X pins σ H s) {a : Addr} (h : s.heap.objs.size ≤ a) : a ∉ X.fs := fun hb => by
  obtain ⟨_, o, ho, _⟩ := I.ok.funs.mem hb
  exact absurd (Nat.lt_of_lt_of_le (Heap.lt_size ho) (Nat.le_trans I.sz h)) (Nat.lt_irrefl _)
theorem Inv.cne (I : Inv X pins σ H s) : ∀ x c, X.env.cells.lookup x = some c → c ≠ X.env.locals := fun x c e z => by
  obtain ⟨v, o, ho, hd⟩ := I.cell x c e
  obtain ⟨m, ⟨o', es, ep, ho', hd', _⟩, _⟩ := I.loc
  rw [z, ho'] at ho; cases ho; rw [hd'] at hd; cases hd
theorem Inv.funs (I : Inv X pins σ H s) : s.heap.FunFrames X.base X.outer := by
  have all : ∀ (l : List Env), (∀ b ∈ frs l, b ∈ X.fs) → X.s₀.heap.FunFrames X.base l → s.heap.FunFrames X.base l := by
    intro l
    induction l with
    | nil => intro _ _; trivial
    | cons env r ih =>
      intro hs hl
      obtain ⟨hk, ⟨L, o, hf, hn, ho, hd⟩, hr⟩ := hl
      have hL : L ∈ X.fs := hs L (by unfold frs; rw [List.filterMap_cons, hf]; exact List.mem_cons_self)
      obtain ⟨sl, e⟩ := I.base.slot L o ho (I.ok.frf L hL) hL fun z => I.ok.exfs L z hL
      exact ⟨hk, ⟨L, _, hf, hn, e, hd⟩, ih (fun b hb => hs b (by unfold frs; rw [List.filterMap_cons, hf]; exact List.mem_cons_of_mem _ hb)) hr⟩
  exact all X.outer (fun _ hb => hb) I.ok.funs
theorem Inv.stack (I : Inv X pins σ H s) : s.heap.FunFrames X.base X.stack := by
  rcases I.ok.stk with e | ⟨e, hf⟩
  · rw [e]; exact I.funs
  · rw [e]
    obtain ⟨m, hn, _⟩ := I.loc
    refine .cons (by rw [I.ok.kind]; decide) hf hn ?_ I.funs
    exact Heap.get?_none_of_le (Nat.le_trans I.ok.bsz I.ok.above)
theorem Inv.stkSub (I : Inv X pins σ H s) : ∀ b ∈ frs X.stack, b ∈ X.env.locals :: X.fs := fun b hb => by
  rcases I.ok.stk with e | ⟨e, hf⟩
  · rw [e] at hb; exact List.mem_cons_of_mem _ hb
  · rw [e] at hb
    unfold frs at hb
    rw [List.filterMap_cons, hf] at hb
    exact hb
theorem Inv.stkFree (I : Inv X pins σ H s) : ∀ b ∈ frs X.stack, H b = none := fun b hb => by
  rcases List.mem_cons.mp (I.stkSub b hb) with e | hb
  · rw [e]; exact I.free
  · obtain ⟨_, o, ho, _⟩ := I.ok.funs.mem hb
    exact I.base.free b o ho (I.ok.frf b hb) fun z => I.ok.exfs b z hb
theorem Inv.step {g' : Array GenState} {t' : Nat} {d' : Drawn} {ch : List Addr} (I : Inv X pins σ H s)
    (hch : ∀ b ∈ ch, (b ∈ X.ex ∨ X.s₀.heap.objs.size ≤ b) ∧ b ≠ X.env.locals ∧ (∀ x c, X.env.cells.lookup x = some c → c ≠ b) ∧ ∀ p ∈ X.pn ++ pins, p.1 ≠ b)
    (keep : ∀ b o, b ≠ X.env.locals → b ∉ X.fs → b ∉ ch → s.heap.get? b = some o → H b = none → h'.get? b = some o)
    (slot : ∀ b o, b ≠ X.env.locals → b ∈ X.fs → b ∉ ch → s.heap.get? b = some o → H b = none → ∃ sl, h'.get? b = some { o with slots := sl }) (free : ∀ b o, b ∉ ch → s.heap.get? b = some o → H b = none → H' b = none)
    (there : ∀ b o, b ∉ ch → s.heap.get? b = some o → ∃ o', h'.get? b = some o')
    (tups : ∀ b xs, H b = some (.tup xs) → H' b = some (.tup xs)) (frzs : ∀ b o u, H b = some (.frz o u) → H' b = some (.frz o u)) (tbls : ∀ b ps, H b = some (.tbl ps) → ∃ more, H' b = some (.tbl (ps ++ more)))
    (ns : ∀ m, s.heap.Ns X.env.locals m → h'.Ns X.env.locals m) (hok : HOk X.prog X.w H' h') (hg : AllBare g') :
    Inv X pins σ H' { s with heap := h', gens := g', drawn := d', toks := t' } := by
  have neL : ∀ b o, X.s₀.heap.get? b = some o → b ≠ X.env.locals := fun b o e => Nat.ne_of_lt (Nat.lt_of_lt_of_le (Heap.lt_size e) I.ok.above)
  have neC : ∀ b o, X.s₀.heap.get? b = some o → b ∉ X.ex → b ∉ ch := fun b o e hx hb => by
    rcases (hch b hb).1 with z | z
    · exact hx z
    · exact absurd (Nat.lt_of_lt_of_le (Heap.lt_size e) z) (Nat.lt_irrefl _)
  have cellK : ∀ x c, X.env.cells.lookup x = some c → ∀ v, s.heap.IsCell c v → h'.IsCell c v := fun x c e v ⟨o, ho, hd⟩ => by
    have nch : c ∉ ch := fun z => (hch c z).2.2.1 x c e rfl
    by_cases hc : c ∈ X.fs
    · obtain ⟨sl, q⟩ := slot c o (I.cne x c e) hc nch ho (I.freeC x c e)
      exact ⟨_, q, hd⟩
    · exact ⟨o, keep c o (I.cne x c e) hc nch ho (I.freeC x c e), hd⟩
  refine ⟨I.ok, I.os, hg, ⟨fun b o e n hb hx => ?_, fun b o e n hb hx => ?_, fun b o e n hx => ?_, fun b o e hx => ?_, fun b xs e => tups b xs (I.base.tups b xs e), fun b o xs e => frzs b o xs (I.base.frzs b o xs e), fun b ps e => ?_⟩, ?_, fun x c e => ?_, ?_, fun x c e => ?_, fun p hp => ?_, hok, I.len⟩
  · exact keep b o (neL b o e) hb (neC b o e hx) (I.base.keep b o e n hb hx) (I.base.free b o e n hx)
  · obtain ⟨sl, e1⟩ := I.base.slot b o e n hb hx
    obtain ⟨sl', e2⟩ := slot b _ (neL b o e) hb (neC b o e hx) e1 (I.base.free b o e n hx)
    exact ⟨sl', e2⟩
  · obtain ⟨o', e1⟩ := I.base.there b o e hx
    exact free b o' (neC b o e hx) e1 (I.base.free b o e n hx)
  · obtain ⟨o', e1⟩ := I.base.there b o e hx
    exact there b o' (neC b o e hx) e1
  · obtain ⟨m1, e1⟩ := I.base.tbls b ps e
    obtain ⟨m2, e2⟩ := tbls b _ e1
    exact ⟨m1 ++ m2, by rw [e2, Array.append_assoc]⟩
  · obtain ⟨m, hn, hl⟩ := I.loc
    refine ⟨m, ns m hn, fun i x v e1 e2 e3 => ?_⟩
    obtain ⟨u, r, l⟩ := hl i x v e1 e2 e3
    refine ⟨u, r, ?_⟩
    rcases l with l | ⟨k, c, e, z⟩
    · exact .inl l
    · exact .inr ⟨k, c, e, cellK x c e _ z⟩
  · obtain ⟨v, z⟩ := I.cell x c e
    exact ⟨v, cellK x c e v z⟩
  · obtain ⟨m, ⟨o, _, _, ho, _⟩, _⟩ := I.loc
    exact free _ o (fun z => (hch _ z).2.1 rfl) ho I.free
  · obtain ⟨v, o, ho, hd⟩ := I.cell x c e
    exact free c o (fun z => (hch c z).2.2.1 x c e rfl) ho (I.freeC x c e)
  · obtain ⟨e, n, ne, nf, d⟩ := I.pin p hp
    have nch : p.1 ∉ ch := fun z => (hch p.1 z).2.2.2 p hp rfl
    exact ⟨keep p.1 p.2 ne nf nch e n, free p.1 p.2 nch e n, ne, nf, d⟩
theorem Inv.un {t' : Nat} (I : Inv X pins σ H s) (u : Un X.fs [] H H' s.heap h') (hok : HOk X.prog X.w H' h') : Inv X pins σ H' { s with heap := h', toks := t' } := by
  obtain ⟨m, ⟨o, es, ep, ho, r⟩, _⟩ := id I.loc
  obtain ⟨sl, hL⟩ := u.any ho I.free (by simp)
  exact I.step (g' := s.gens) (d' := s.drawn) (ch := []) (fun _ z => nomatch z) (fun b o _ hb _ e n => u.keep b o e n hb (by simp)) (fun b o _ hb _ e n => u.slot b o e n hb (by simp)) (fun b o _ e n => u.free b o e n (by simp)) (fun b o _ e => u.there b o e (by simp)) u.tups u.frzs u.tbls (fun m' hm => by
    obtain ⟨o', es', ep', ho', r'⟩ := hm
    rw [ho] at ho'; cases ho'
    exact ⟨_, es', ep', hL, r'⟩) hok I.bare
theorem Inv.call {g' : Array GenState} {t' : Nat} {d' : Drawn} {ch : List Addr} (I : Inv X pins σ H s) (u : Un (frs X.stack) ch H H' s.heap h') (hok : HOk X.prog X.w H' h') (hg : AllBare g')
    (hch : ∀ b ∈ ch, (b ∈ X.ex ∨ X.s₀.heap.objs.size ≤ b) ∧ b ≠ X.env.locals ∧ (∀ x c, X.env.cells.lookup x = some c → c ≠ b) ∧ ∀ p ∈ X.pn ++ pins, p.1 ≠ b) :
    Inv X pins σ H' { s with heap := h', gens := g', drawn := d', toks := t' } := by
  obtain ⟨m, ⟨o, es, ep, ho, r⟩, _⟩ := id I.loc
  obtain ⟨sl, hL⟩ := u.any ho I.free fun z => (hch _ z).2.1 rfl
  exact I.step (ch := ch) hch (fun b o hL hb hc e n => u.keep b o e n (fun z => (List.mem_cons.mp (I.stkSub b z)).elim hL hb) hc) (fun b o _ _ hc e n => u.any e n hc) (fun b o hc e n => u.free b o e n hc) (fun b o hc e => u.there b o e hc) u.tups u.frzs u.tbls (fun m' hm => by
    obtain ⟨o', es', ep', ho', r'⟩ := hm
    rw [ho] at ho'; cases ho'
    exact ⟨_, es', ep', hL, r'⟩) hok hg
theorem Inv.turned {t' : Nat} {it : Addr} (I : Inv X pins σ H s) (k : ∀ b o, b ≠ it → s.heap.get? b = some o → h'.get? b = some o) (hn : H it = none) (hL : it ≠ X.env.locals)
    (h1 : it ∈ X.ex ∨ X.s₀.heap.objs.size ≤ it) (h2 : ∀ x c, X.env.cells.lookup x = some c → c ≠ it) (h3 : ∀ p ∈ X.pn ++ pins, p.1 ≠ it) : Inv X pins σ H { s with heap := h', toks := t' } := by
  have nit : ∀ b u, H b = some u → b ≠ it := fun b u e z => by rw [z, hn] at e; cases e
  refine I.step (g' := s.gens) (d' := s.drawn) (ch := [it]) (fun b hb => ?_) (fun b o _ _ hc e _ => k b o (fun z => hc (by simp [z])) e) (fun b o _ _ hc e _ => ⟨o.slots, k b o (fun z => hc (by simp [z])) e⟩) (fun _ _ _ _ n => n)
    (fun b o hc e => ⟨o, k b o (fun z => hc (by simp [z])) e⟩) (fun _ _ e => e) (fun _ _ _ e => e) (fun b ps e => ⟨#[], by rw [e]; simp⟩) (fun m hm => ?_) (fun b u e => ?_) I.bare
  · have e : b = it := by simpa using hb
    subst e
    exact ⟨h1, hL, h2, h3⟩
  · obtain ⟨o, es, ep, ho, r⟩ := hm
    exact ⟨o, es, ep, k _ o (Ne.symm hL) ho, r⟩
  · refine (I.hok b u e).stay (fun c v hc q => k c v ?_ q) (fun _ q => q) fun _ _ q => q
    rcases hc with z | z
    · rw [z]; exact nit b u e
    · exact nit c _ z
theorem Inv.tok (I : Inv X pins σ H s) (t : Nat) : Inv X pins σ H { s with toks := t } := I.un (h' := s.heap) (t' := t) Un.refl I.hok
theorem Inv.kept {t' : Nat} (I : Inv X pins σ H s) (k : ∀ b u, s.heap.get? b = some u → h'.get? b = some u) : Inv X pins σ H { s with heap := h', toks := t' } := I.un (Un.kept k) (I.hok.kept k)
theorem Inv.laid {a : Addr} {o : HO} {t' : Nat} (I : Inv X pins σ H s) (k : ∀ b u, s.heap.get? b = some u → h'.get? b = some u) (hp : s.heap.objs.size ≤ a) (new : ObjOk X.prog X.w (upd H a o) h' a o) :
    Inv X pins σ (upd H a o) { s with heap := h', toks := t' } := I.un (Un.laid k hp (I.hok.fresh hp)) (I.hok.laid k hp new)
theorem Inv.write {x e : Addr} {o : HO} {t' : Nat} (I : Inv X pins σ H s) (mu : Mut (H x)) (he : e = x ∨ H e = some (.own x)) (k : ∀ b u, b ≠ e → s.heap.get? b = some u → h'.get? b = some u) (heo : ∃ u, h'.get? e = some u)
    (new : ObjOk X.prog X.w (upd H x o) h' x o) : Inv X pins σ (upd H x o) { s with heap := h', toks := t' } := I.un (Un.write mu he k heo) (I.hok.write mu he k heo new)
theorem Inv.pins_of {pins' : List (Addr × Obj)} (I : Inv X pins σ H s) (h : ∀ p ∈ pins', s.heap.get? p.1 = some p.2 ∧ H p.1 = none ∧ p.1 ≠ X.env.locals ∧ p.1 ∉ X.fs ∧ ∀ v, p.2.data ≠ .cell v) : Inv X pins' σ H s :=
  ⟨I.ok, I.os, I.bare, I.base, I.loc, I.cell, I.free, I.freeC, fun p hp => (List.mem_append.mp hp).elim (fun z => I.pin p (List.mem_append_left _ z)) (h p), I.hok, I.len⟩
theorem nodup_ix {N : List Str} (hN : N.Nodup) {i j : Nat} {x : Str} (a : N[i]? = some x) (b : N[j]? = some x) : i = j := by
  obtain ⟨h1, e1⟩ := List.getElem?_eq_some_iff.mp a
  obtain ⟨h2, e2⟩ := List.getElem?_eq_some_iff.mp b
  exact (List.getElem_inj hN).mp (e1.trans e2.symm)
theorem store_ok2 {M : Model} {A : Around} {E : Value → Shared → Prop} {i : Nat} {x : Str} {v : V} {u : Value} {Q : Unit → Shared → Prop} (I : Inv X pins σ H s) (hN : X.N.Nodup) (hi : X.N[i]? = some x) (hx : Loc X.env.scope x) (r : RelV v u)
    (h : ∀ s', Inv X pins (σ.set i (some v)) H s' → (∃ a, Heap.SameBut a s.heap s'.heap ∧ (a = X.env.locals ∨ X.env.cells.lookup x = some a)) → Q () s') (hf : X.fn x = true ∨ X.env.scope.names.lookup x = some .local := by first | exact .inl rfl | exact .inr rfl | assumption) : wpAny M A (storeName X.env x u) Q E s := by
  obtain ⟨m, hn, hl⟩ := id I.loc
  have hcls : (X.env.scope.kind == .class || (X.env.scope.kind == .module && X.env.locals != X.env.globals)) = false := by rw [I.ok.kind]; rfl
  have hiσ : i < σ.length := by rw [I.len]; exact (List.getElem?_eq_some_iff.mp hi).1
  have cne := I.cne
  have tracked : ∀ {a : Addr} {h' : Heap}, (∃ o, s.heap.get? a = some o ∧ H a = none) → Heap.SameBut a s.heap h' → HOk X.prog X.w H h' := fun {a h'} ha hs b ob e => by
    obtain ⟨_, _, hfree⟩ := ha
    refine (I.hok b ob e).stay (fun c w' hc q => (hs.2 c ?_).trans q) (fun _ q => q) fun _ _ q => q
    rintro rfl
    rcases hc with rfl | hc
    · rw [hfree] at e; cases e
    · rw [hfree] at hc; cases hc
  rcases hx with hk | hk
  · refine wpAny_storeName_local hk hn (fun h' hn' hs => ?_) hcls
    obtain ⟨oL, _, _, hoL, _⟩ := id hn
    refine h _ ⟨I.ok, I.os, I.bare, ⟨fun b o e n hb hx => ?_, fun b o e n hb hx => ?_, I.base.free, fun b o e hx => ?_, I.base.tups, I.base.frzs, I.base.tbls⟩, ⟨_, hn', fun j y v' e1 e2 e3 => ?_⟩, fun y c e => ?_, I.free, I.freeC, fun p hp => ?_, tracked ⟨oL, hoL, I.free⟩ hs, by simpa using I.len⟩ ⟨_, hs, .inl rfl⟩
    · exact (hs.2 b (Nat.ne_of_lt (Nat.lt_of_lt_of_le (Heap.lt_size e) I.ok.above))).trans (I.base.keep b o e n hb hx)
    · obtain ⟨sl, e1⟩ := I.base.slot b o e n hb hx
      exact ⟨sl, (hs.2 b (Nat.ne_of_lt (Nat.lt_of_lt_of_le (Heap.lt_size e) I.ok.above))).trans e1⟩
    · obtain ⟨o', e1⟩ := I.base.there b o e hx
      exact ⟨o', (hs.2 b (Nat.ne_of_lt (Nat.lt_of_lt_of_le (Heap.lt_size e) I.ok.above))).trans e1⟩
    · by_cases hj : j = i
      · subst hj
        rw [hi] at e1; cases e1
        rw [List.getElem?_set_self hiσ] at e2
        cases e2
        exact ⟨u, r, .inl ⟨hk, by simp⟩⟩
      · rw [List.getElem?_set_ne (Ne.symm hj)] at e2
        obtain ⟨u', r', q⟩ := hl j y v' e1 e2 e3
        refine ⟨u', r', ?_⟩
        rcases q with ⟨k, e⟩ | ⟨k, c, e, z⟩
        · refine .inl ⟨k, ?_⟩
          have : y ≠ x := fun e => hj (nodup_ix hN e1 (e ▸ hi))
          simp [this, e]
        · exact .inr ⟨k, c, e, z.sameBut hs (cne y c e)⟩
    · obtain ⟨w', z⟩ := I.cell y c e
      exact ⟨w', z.sameBut hs (cne y c e)⟩
    · obtain ⟨e, n, ne, nf, d⟩ := I.pin p hp
      exact ⟨(hs.2 p.1 ne).trans e, n, ne, nf, d⟩
  · have hfn : X.fn x = true := by
      rcases hf with z | z
      · exact z
      · rw [z] at hk; cases hk
    obtain ⟨c, hc⟩ := I.ok.has x (.inl hk)
    obtain ⟨w', z⟩ := I.cell x c hc
    refine wpAny_storeName_cell I.ok.kind hk hc z (fun h' hc' hs => ?_)
    obtain ⟨oc, hoc, hocd⟩ := id z
    refine h { s with heap := h' } ⟨I.ok, I.os, I.bare, ⟨fun b o e n hb hx => ?_, fun b o e n hb hx => ?_, I.base.free, fun b o e hx => ?_, I.base.tups, I.base.frzs, I.base.tbls⟩, ⟨m, hn.sameBut hs (Ne.symm (cne x c hc)), fun j y v' e1 e2 e3 => ?_⟩, fun y c' e => ?_, I.free, I.freeC, fun p hp => ?_, tracked ⟨oc, hoc, I.freeC x c hc⟩ hs, by simpa using I.len⟩ ⟨c, hs, .inr hc⟩
    · exact (hs.2 b (Nat.ne_of_lt (Nat.lt_of_lt_of_le (Heap.lt_size e) (I.ok.cab x c hfn hc)))).trans (I.base.keep b o e n hb hx)
    · obtain ⟨sl, e1⟩ := I.base.slot b o e n hb hx
      exact ⟨sl, (hs.2 b (Nat.ne_of_lt (Nat.lt_of_lt_of_le (Heap.lt_size e) (I.ok.cab x c hfn hc)))).trans e1⟩
    · obtain ⟨o', e1⟩ := I.base.there b o e hx
      exact ⟨o', (hs.2 b (Nat.ne_of_lt (Nat.lt_of_lt_of_le (Heap.lt_size e) (I.ok.cab x c hfn hc)))).trans e1⟩
    · by_cases hj : j = i
      · subst hj
        rw [hi] at e1; cases e1
        rw [List.getElem?_set_self hiσ] at e2
        cases e2
        exact ⟨u, r, .inr ⟨.inl hk, c, hc, hc'⟩⟩
      · rw [List.getElem?_set_ne (Ne.symm hj)] at e2
        obtain ⟨u', r', q⟩ := hl j y v' e1 e2 e3
        refine ⟨u', r', ?_⟩
        rcases q with q | ⟨k, c', e, z'⟩
        · exact .inl q
        · refine .inr ⟨k, c', e, z'.sameBut hs ?_⟩
          rintro rfl
          exact hj (nodup_ix hN e1 (I.ok.inj _ _ _ e hc ▸ hi))
    · by_cases hcc : c' = c
      · subst hcc; exact ⟨_, hc'⟩
      · obtain ⟨w2, z2⟩ := I.cell y c' e
        exact ⟨w2, z2.sameBut hs hcc⟩
    · obtain ⟨e, n, ne, nf, d⟩ := I.pin p hp
      refine ⟨(hs.2 p.1 ?_).trans e, n, ne, nf, d⟩
      intro q
      rw [q, hoc] at e
      have q' : oc = p.2 := Option.some.inj e
      exact d w' (by rw [← q']; exact hocd)
theorem store_ok {M : Model} {A : Around} {E : Value → Shared → Prop} {i : Nat} {x : Str} {v : V} {u : Value} {Q : Unit → Shared → Prop} (I : Inv X pins σ H s) (hN : X.N.Nodup) (hi : X.N[i]? = some x) (hx : Loc X.env.scope x) (r : RelV v u)
    (h : ∀ s', Inv X pins (σ.set i (some v)) H s' → Q () s') (hf : X.fn x = true ∨ X.env.scope.names.lookup x = some .local := by first | exact .inl rfl | exact .inr rfl | assumption) : wpAny M A (storeName X.env x u) Q E s :=
  store_ok2 I hN hi hx r (fun s' I' _ => h s' I') hf
theorem Inv.call' {s' : Shared} {ch : List Addr} (I : Inv X pins σ H s) (ho : s'.os = s.os) (u : Un (frs X.stack) ch H H' s.heap s'.heap) (hok : HOk X.prog X.w H' s'.heap) (hg : AllBare s'.gens)
    (hch : ∀ b ∈ ch, (b ∈ X.ex ∨ X.s₀.heap.objs.size ≤ b) ∧ b ≠ X.env.locals ∧ (∀ x c, X.env.cells.lookup x = some c → c ≠ b) ∧ ∀ p ∈ X.pn ++ pins, p.1 ≠ b) : Inv X pins σ H' s' := by
  obtain ⟨h', g', d', t', o'⟩ := s'
  have e : o' = s.os := ho
  subst e
  exact I.call (g' := g') (t' := t') (d' := d') u hok hg hch
end
abbrev XK := Value → Option Addr → Hp → Prop
abbrev St := List (Option V)
abbrev VK := V → Hp → Prop
abbrev TE := St → Hp → VK → Prop
abbrev TT := St → Hp → (Bool → Hp → Prop) → Prop
abbrev TA := St → Hp → (List V → Hp → Prop) → Prop
structure Ends where
  nx : St → Hp → Prop
  rt : VK
  bk : St → Hp → Prop := fun _ _ => False
  ct : St → Hp → Prop := fun _ _ => False
abbrev TS := Ends → St → Hp → Prop
def EP (X : Cx) (pins : List (Addr × Obj)) (σ : St) (Q : VK) (u : Value) (s' : Shared) : Prop := ∃ v H', Inv X pins σ H' s' ∧ RelV v u ∧ Q v H'
def TP (X : Cx) (pins : List (Addr × Obj)) (σ : St) (Q : Bool → Hp → Prop) (b : Bool) (s' : Shared) : Prop := ∃ H', Inv X pins σ H' s' ∧ Q b H'
def AP (X : Cx) (pins : List (Addr × Obj)) (σ : St) (Q : List V → Hp → Prop) (us : List Value) (s' : Shared) : Prop := ∃ vs H', Inv X pins σ H' s' ∧ Vals vs us ∧ Q vs H'
def SP (X : Cx) (pins : List (Addr × Obj)) (D : Ends) (f : Flow) (s' : Shared) : Prop :=
  match f with
  | .next => ∃ σ' H', Inv X pins σ' H' s' ∧ D.nx σ' H'
  | .brk => ∃ σ' H', Inv X pins σ' H' s' ∧ D.bk σ' H'
  | .cont => ∃ σ' H', Inv X pins σ' H' s' ∧ D.ct σ' H'
  | .ret u => ∃ v σ' H', Inv X pins σ' H' s' ∧ RelV v u ∧ D.rt v H'
def PE (X : Cx) (e : Expr) (t : TE) : Prop :=
  ∀ (pins : List (Addr × Obj)) (s : Shared) (σ : St) (H : Hp) (Q : VK), Inv X pins σ H s → t σ H Q → wpAny (model X.prog X.w) X.A (eval e X.env) (EP X pins σ Q) X.xe s
def PT (X : Cx) (e : Expr) (t : TT) : Prop :=
  ∀ (pins : List (Addr × Obj)) (s : Shared) (σ : St) (H : Hp) (Q : Bool → Hp → Prop), Inv X pins σ H s → t σ H Q → wpAny (model X.prog X.w) X.A (isTrue e X.env (eval e X.env)) (TP X pins σ Q) X.xe s
def PW (X : Cx) (e : Expr) (t : TT) : Prop :=
  ∀ (whole : Sem Value) (pins : List (Addr × Obj)) (s : Shared) (σ : St) (H : Hp) (Q : Bool → Hp → Prop), Inv X pins σ H s → t σ H Q → wpAny (model X.prog X.w) X.A (isTrue e X.env whole) (TP X pins σ Q) X.xe s
theorem PW.pt {X : Cx} {e : Expr} {t : TT} (h : PW X e t) : PT X e t := h _
def PA (X : Cx) (es : List Expr) (t : TA) : Prop :=
  ∀ (pos : Pos) (pins : List (Addr × Obj)) (s : Shared) (σ : St) (H : Hp) (Q : List V → Hp → Prop), Inv X pins σ H s → t σ H Q → wpAny (model X.prog X.w) X.A (spliced (backTo pos (starEach es X.env))) (AP X pins σ Q) X.xe s
def PS (X : Cx) (st : Stmt) (t : TS) : Prop :=
  ∀ (pins : List (Addr × Obj)) (s : Shared) (σ : St) (H : Hp) (D : Ends), Inv X pins σ H s → t D σ H → wpAny (model X.prog X.w) X.A (exec st X.env) (SP X pins D) X.xe s
def PSs (X : Cx) (st : List Stmt) (t : TS) : Prop :=
  ∀ (pins : List (Addr × Obj)) (s : Shared) (σ : St) (H : Hp) (D : Ends), Inv X pins σ H s → t D σ H → wpAny (model X.prog X.w) X.A (execs st X.env) (SP X pins D) X.xe s
theorem thn {α : Type} {t : Sem α} {Q Q' : α → Shared → Prop} {M : Model} {A : Around} {E : Value → Shared → Prop} {s : Shared} (h : wpAny M A t Q E s) (hQ : ∀ a s, Q a s → Q' a s) : wpAny M A t Q' E s := wpAny_mono h hQ fun _ _ x => x
end L2
namespace L2
open PySem PySem.Spec PyProof.Rows
section
variable {X : Cx}
def tVar (i : Nat) : TE := fun σ H Q => ∃ v, σ[i]? = some (some v) ∧ Q v H
def tC (v : V) : TE := fun _ H Q => Q v H
theorem pe_var {i : Nat} {x : Str} {pos : Pos} (hN : X.N[i]? = some x) (hv : Vis X.env.scope x) (hd : (x == ("__debug__" : Str)) = false := by decide) (hcd : (x == ("__classdict__" : Str)) = false := by decide) : PE X (.Name x pos) (tVar i) := by
  intro pins s σ H Q I h
  obtain ⟨v, e, h⟩ := h
  obtain ⟨m, hn, hl⟩ := I.loc
  obtain ⟨u, r, l⟩ := hl i x v hN e hv
  have fin : EP X pins σ Q u s := ⟨v, H, I, r, h⟩
  rcases l with ⟨hk, hm⟩ | ⟨hk, c, hc, hcell⟩
  · exact wpAny_Name (wpAny_loadName_local I.ok.kind hk hn hm fin) hd
  · rcases hk with hk | hk
    · exact wpAny_Name (wpAny_loadName_cell I.ok.kind hk hc hcell fin) hd
    · exact wpAny_Name (wpAny_loadName_free I.ok.kind hk hc hcell fin hcd) hd
theorem pe_int {i j pos} : PE X (.Constant (.int i) j pos) (tC (.int i)) := fun _ _ _ H _ I h => wpAny_Constant_int ⟨.int i, H, I.tok _, ⟨_, rfl⟩, h⟩
theorem pe_bl {b j pos} : PE X (.Constant (.bool b) j pos) (tC (.bl b)) := fun _ _ _ H _ I h => Constant_bool ⟨.bl b, H, I, rfl, h⟩
theorem pe_non {j pos} : PE X (.Constant .none j pos) (tC .non) := fun _ _ _ H _ I h => Constant_none ⟨.non, H, I, rfl, h⟩
theorem pe_str {x j pos} : PE X (.Constant (.str x) j pos) (tC (.str x)) := fun _ _ _ H _ I h => Calls.Constant_str ⟨.str x, H, I.tok _, ⟨_, rfl⟩, h⟩
def Gl (X : Cx) (x : Str) : Prop := X.env.kindOf x = some .globalImplicit
theorem ld_glob {E : Value → Shared → Prop} {pins : List (Addr × Obj)} {s : Shared} {σ : St} {H : Hp} {x : Str} {u : Value} {pos : Pos} {Q : Value → Shared → Prop} (I : Inv X pins σ H s) (hg : Gl X x) (hm : X.mg x = some u) (h : Q u s)
    (hd : (x == ("__debug__" : Str)) = false := by decide) : wpAny (model X.prog X.w) X.A (eval (.Name x pos) X.env) Q E s :=
  Calls.Name_function_global I.ok.kind hg (Calls.loadGlobal_global (by rw [I.ok.glob]; exact I.mod.glob.keeps I.bk) hm h) hd
theorem ld_blt {E : Value → Shared → Prop} {pins : List (Addr × Obj)} {s : Shared} {σ : St} {H : Hp} {x : Str} {u : Value} {pos : Pos} {Q : Value → Shared → Prop} (I : Inv X pins σ H s) (hg : Gl X x) (hm : X.mg x = none) (hv : bootBuiltins x = some u) (h : Q u s)
    (hn : x ≠ "__name__" := by decide) (hd : (x == ("__debug__" : Str)) = false := by decide) : wpAny (model X.prog X.w) X.A (eval (.Name x pos) X.env) Q E s := by
  obtain ⟨mb, h1, h2⟩ := I.mod.blt
  exact Calls.Name_function_global I.ok.kind hg (Calls.loadGlobal_builtin (by rw [I.ok.glob]; exact I.mod.glob.keeps I.bk) hm (by rw [I.ok.blt]; exact h1.keeps I.bk) ((h2 x hn).trans hv) h) hd
theorem pe_glob {x : Str} {v : V} {u : Value} {pos : Pos} (hg : Gl X x) (hm : X.mg x = some u) (r : RelV v u) (hd : (x == ("__debug__" : Str)) = false := by decide) : PE X (.Name x pos) (tC v) :=
  fun _ _ _ H _ I h => ld_glob I hg hm ⟨v, H, I, r, h⟩ hd
theorem pe_bltn {x : Str} {v : V} {u : Value} {pos : Pos} (hg : Gl X x) (hm : X.mg x = none) (hv : bootBuiltins x = some u) (r : RelV v u) (hn : x ≠ "__name__" := by decide) (hd : (x == ("__debug__" : Str)) = false := by decide) : PE X (.Name x pos) (tC v) :=
  fun _ _ _ H _ I h => ld_blt I hg hm hv ⟨v, H, I, r, h⟩ hn hd
variable {a b : Expr} {ta tb : TE} {pos : Pos}
def PC (X : Cx) (op : CmpOp) (a b : Expr) (t : TE) : Prop :=
  ∀ (pins : List (Addr × Obj)) (s : Shared) (σ : St) (H : Hp) (Q : VK), Inv X pins σ H s → t σ H Q →
    wpAny (model X.prog X.w) X.A (eval a X.env) (fun v s₁ => wpAny (model X.prog X.w) X.A (eval b X.env) (fun u s₂ => wpAny (model X.prog X.w) X.A (compareOp op v u) (EP X pins σ Q) X.xe s₂) X.xe s₁) X.xe s
theorem nobehind (b : Expr) {op : CmpOp} (h : op ≠ .In) (h2 : op ≠ .NotIn) : behindInMarks op b = false := by
  have e1 : (op == CmpOp.In) = false := by cases op <;> first | rfl | exact absurd rfl h
  have e2 : (op == CmpOp.NotIn) = false := by cases op <;> first | rfl | exact absurd rfl h2
  cases b <;> simp [behindInMarks, e1, e2]
def tB (t : TE) : TT := fun σ H Q => t σ H fun x H1 => ∃ c, x = .bl c ∧ Q c H1
theorem pt_cmp {op : CmpOp} {t : TE} (h : PC X op a b t) (h1 : behindInMarks op b = false := by first | exact nobehind _ (by decide) (by decide) | rfl) : PT X (.Compare a [op] [b] pos) (tB t) := by
  intro pins s σ H Q I hw
  refine wpAny_isTrue_Compare1 (thn (h pins s σ H _ I hw) fun v s1 h1 => thn h1 fun u s2 h2 => thn h2 fun c s3 ⟨x, H1, I1, r1, q1⟩ => ?_) h1
  obtain ⟨d, rfl, q⟩ := q1
  cases r1
  exact wpAny_truthy_bool ⟨H1, I1, q⟩
variable {tA tB' : TT} {rest : List Expr}
def tAnd (t u : TT) : TT := fun σ H Q => t σ H fun c H1 => if c = true then u σ H1 Q else Q false H1
def tOr (t u : TT) : TT := fun σ H Q => t σ H fun c H1 => if c = true then Q true H1 else u σ H1 Q
def tNot (t : TT) : TT := fun σ H Q => t σ H fun c H1 => Q (!c) H1
theorem pw_and1 (ha : PT X a tA) : PW X (.BoolOp .And [a] pos) tA := by
  intro wh pins s σ H Q I h
  refine isTrue_and (thn (ha pins s σ H Q I h) fun c s1 e => ?_)
  cases c with
  | true => exact isTrue_and_nil e
  | false => exact e
theorem pw_or1 (ha : PT X a tA) : PW X (.BoolOp .Or [a] pos) tA := by
  intro wh pins s σ H Q I h
  refine isTrue_or (thn (ha pins s σ H Q I h) fun c s1 e => ?_)
  cases c with
  | false => exact isTrue_or_nil e
  | true => exact e
theorem pw_and (ha : PT X a tA) (hb : PW X (.BoolOp .And (b :: rest) pos) tB') : PW X (.BoolOp .And (a :: b :: rest) pos) (tAnd tA tB') := by
  intro wh pins s σ H Q I h
  refine isTrue_and (thn (ha pins s σ H _ I h) fun c s1 ⟨H1, I1, q1⟩ => ?_)
  cases c with
  | true => exact hb wh pins s1 σ H1 Q I1 q1
  | false => exact ⟨H1, I1, q1⟩
theorem pw_or (ha : PT X a tA) (hb : PW X (.BoolOp .Or (b :: rest) pos) tB') : PW X (.BoolOp .Or (a :: b :: rest) pos) (tOr tA tB') := by
  intro wh pins s σ H Q I h
  refine isTrue_or (thn (ha pins s σ H _ I h) fun c s1 ⟨H1, I1, q1⟩ => ?_)
  cases c with
  | true => exact ⟨H1, I1, q1⟩
  | false => exact hb wh pins s1 σ H1 Q I1 q1
theorem pt_not (ha : PT X a tA) : PT X (.UnaryOp .Not a pos) (tNot tA) := by
  intro pins s σ H Q I h
  exact isTrue_not (ha pins s σ H (fun c H1 => Q (!c) H1) I h)
theorem pe_one {op} {t : TE} (h : PE X a t) : PE X (.BoolOp op [a] pos) t := fun pins s σ H Q I hw => BoolOp_one (h pins s σ H Q I hw)
def tIf (t : TT) (ta tb : TE) : TE := fun σ H Q => t σ H fun c H1 => if c = true then ta σ H1 Q else tb σ H1 Q
theorem pe_ifExp {c : Expr} (hc : PT X c tA) (ha : PE X a ta) (hb : PE X b tb) : PE X (.IfExp c a b pos) (tIf tA ta tb) := by
  intro pins s σ H Q I h
  refine wpAny_IfExp (thn (hc pins s σ H _ I h) fun d s1 ⟨H1, I1, q1⟩ => ?_)
  cases d with
  | true => exact ha pins s1 σ H1 Q I1 q1
  | false => exact hb pins s1 σ H1 Q I1 q1
end
end L2
namespace L2
open PySem PySem.Spec PyProof.Rows
def SqL (K : PySem.W.Frag) (H : Hp) (a : Addr) (xs : List V) : Prop :=
  Rd H a (.lst xs) ∨
    ∃ (o : Obj) (its : Array Value) (n : Nat), K.lookup a = some o ∧ o.cls = .type "list" ∧ o.dict = none ∧ o.data = .seq its n ∧ its.size ≤ sizeLine ∧ Vals xs its.toList
def SqT (K : PySem.W.Frag) (H : Hp) (a : Addr) (xs : List V) : Prop :=
  Rd H a (.tup xs) ∨
    ∃ (o : Obj) (its : Array Value) (n : Nat), K.lookup a = some o ∧ o.cls = .type "tuple" ∧ o.data = .seq its n ∧ its.size ≤ sizeLine ∧ Vals xs its.toList
def absV : Value → Option V
  | .none => some .non
  | .bool b => some (.bl b)
  | .int i _ => some (.int i)
  | .str x _ => some (.str x)
  | .bytes b _ => some (.byt b)
  | .float b _ => some (.flt b)
  | .ref a => some (.ref a)
  | .type n => some (.ty n)
  | _ => none
theorem RelV.abs {x : V} {u : Value} (r : RelV x u) : absV u = some x := by
  cases x with
  | non => cases r; rfl
  | bl _ => cases r; rfl
  | int _ => obtain ⟨t, rfl⟩ := r; rfl
  | str _ => obtain ⟨t, rfl⟩ := r; rfl
  | byt _ => obtain ⟨t, rfl⟩ := r; rfl
  | flt _ => obtain ⟨t, rfl⟩ := r; rfl
  | ref _ => cases r; rfl
  | ty _ => cases r; rfl
theorem RelV.inj {x y : V} {u : Value} (r : RelV x u) (q : RelV y u) : x = y := Option.some.inj (r.abs.symm.trans q.abs)
theorem Vals.inj : ∀ {xs ys : List V} {us : List Value}, Vals xs us → Vals ys us → xs = ys
  | _, _, _, .nil, .nil => rfl
  | _, _, _, .cons r t, .cons r' t' => by rw [r.inj r', Vals.inj t t']
section
variable {X : Cx} {pins : List (Addr × Obj)} {σ : St} {H : Hp} {s : Shared} {a : Addr} {xs ys : List V}
theorem SqL.of {K : PySem.W.Frag} (h : H a = some (.lst xs)) : SqL K H a xs := .inl (.inl h)
theorem SqT.of {K : PySem.W.Frag} (h : H a = some (.tup xs)) : SqT K H a xs := .inl (.inl h)
theorem Inv.list (I : Inv X pins σ H s) (h : SqL X.K H a xs) : ∃ its : List Value, Vals xs its ∧ PlainL s.heap a its.toArray ∧ xs.length ≤ sizeLine := by
  rcases h with h | ⟨o, its, n, hk, hc, hd, hs, hz, r⟩
  · obtain ⟨z, its, n, r, e⟩ := h.ok I.hok
    exact ⟨its, r, ⟨_, n, e, rfl, rfl, rfl⟩, z⟩
  · refine ⟨its.toList, r, ⟨o, n, I.kIn a o hk, hc, hd, by simpa using hs⟩, ?_⟩
    have e := r.length
    simp only [Array.length_toList] at e
    omega
theorem Inv.tuple (I : Inv X pins σ H s) (h : SqT X.K H a xs) : ∃ its : List Value, Vals xs its ∧ IsTup s.heap a its.toArray ∧ xs.length ≤ sizeLine := by
  rcases h with h | ⟨o, its, n, hk, hc, hs, hz, r⟩
  · obtain ⟨z, its, r, p⟩ := h.ok I.hok
    exact ⟨its, r, p, z⟩
  · refine ⟨its.toList, r, ⟨o, I.kIn a o hk, hc, n, by simpa using hs⟩, ?_⟩
    have e := r.length
    simp only [Array.length_toList] at e
    omega
theorem Inv.list_inj (I : Inv X pins σ H s) (h : SqL X.K H a xs) (h' : SqL X.K H a ys) : xs = ys := by
  obtain ⟨its, r, ⟨o, n, e, _, _, d⟩, _⟩ := I.list h
  obtain ⟨its', r', ⟨o', n', e', _, _, d'⟩, _⟩ := I.list h'
  rw [e] at e'; cases e'
  rw [d] at d'
  injection d' with d1 _
  have : its = its' := by simpa using congrArg Array.toList d1
  subst this
  exact r.inj r'
theorem Inv.tuple_inj (I : Inv X pins σ H s) (h : SqT X.K H a xs) (h' : SqT X.K H a ys) : xs = ys := by
  obtain ⟨its, r, ⟨o, e, _, n, d⟩, _⟩ := I.tuple h
  obtain ⟨its', r', ⟨o', e', _, n', d'⟩, _⟩ := I.tuple h'
  rw [e] at e'; cases e'
  rw [d] at d'
  injection d' with d1 _
  have : its = its' := by simpa using congrArg Array.toList d1
  subst this
  exact r.inj r'
end
abbrev Cx.wish (X : Cx) (E : Value → Shared → Prop) : Cx := { X with xe := E }
abbrev Cx.nox (X : Cx) : Cx := X.wish fun _ _ => False
theorem Cx.Ok.wish {X : Cx} (ok : X.Ok) (E : Value → Shared → Prop) : (X.wish E).Ok :=
  ⟨ok.mod, ok.kind, ok.glob, ok.blt, ok.above, ok.inj, ok.has, ok.cab, ok.hd, ok.frames, ok.stk, ok.exf, ok.bs, ok.bsz, ok.noex, ok.exfs, ok.funs, ok.frf⟩
theorem Cx.Ok.unwish {X : Cx} {E : Value → Shared → Prop} (ok : (X.wish E).Ok) : X.Ok :=
  ⟨ok.mod, ok.kind, ok.glob, ok.blt, ok.above, ok.inj, ok.has, ok.cab, ok.hd, ok.frames, ok.stk, ok.exf, ok.bs, ok.bsz, ok.noex, ok.exfs, ok.funs, ok.frf⟩
section
variable {X : Cx} {pins : List (Addr × Obj)} {σ : St} {H : Hp} {s : Shared} {E : Value → Shared → Prop}
theorem Inv.wish (I : Inv X pins σ H s) (E : Value → Shared → Prop) : Inv (X.wish E) pins σ H s := ⟨I.ok.wish E, I.os, I.bare, I.base, I.loc, I.cell, I.free, I.freeC, I.pin, I.hok, I.len⟩
theorem Inv.unwish (I : Inv (X.wish E) pins σ H s) : Inv X pins σ H s := ⟨I.ok.unwish, I.os, I.bare, I.base, I.loc, I.cell, I.free, I.freeC, I.pin, I.hok, I.len⟩
theorem SP.unwish {D : Ends} {f : Flow} {s' : Shared} (h : SP (X.wish E) pins D f s') : SP X pins D f s' := by
  cases f with
  | next => obtain ⟨σ', H', I, q⟩ := h; exact ⟨σ', H', I.unwish, q⟩
  | brk => obtain ⟨σ', H', I, q⟩ := h; exact ⟨σ', H', I.unwish, q⟩
  | cont => obtain ⟨σ', H', I, q⟩ := h; exact ⟨σ', H', I.unwish, q⟩
  | ret u => obtain ⟨v, σ', H', I, r, q⟩ := h; exact ⟨v, σ', H', I.unwish, r, q⟩
theorem PSs.nox {st : List Stmt} {t : TS} (h : PSs X.nox st t) : PSs X st t := fun pins s σ H D I hw =>
  wpAny_mono (h pins s σ H D (I.wish _) hw) (fun _ _ q => q.unwish) fun _ _ z => False.elim z
end
section
variable {X : Cx} {st : Stmt} {rest : List Stmt} {t u : TS} {e : Expr} {te : TE} {pos : Pos}
def tNext : TS := fun D σ H => D.nx σ H
def tSeq (t u : TS) : TS := fun D σ H => t { D with nx := u D } σ H
theorem pss_nil : PSs X [] tNext := fun _ _ σ H _ I h => wpAny_execs_nil ⟨σ, H, I, h⟩
theorem pss_cons (h1 : PS X st t) (h2 : PSs X rest u) : PSs X (st :: rest) (tSeq t u) := by
  intro pins s σ H D I h
  refine wpAny_execs_cons (thn (h1 pins s σ H { D with nx := u D } I h) fun f s1 q => ?_)
  cases f with
  | next =>
    obtain ⟨σ', H', I', q⟩ := q
    exact h2 pins s1 σ' H' D I' q
  | ret v => exact q
  | brk => exact q
  | cont => exact q
theorem pss_one (h1 : PS X st t) : PSs X [st] t := by
  intro pins s σ H D I h
  refine wpAny_execs_cons (thn (h1 pins s σ H D I h) fun f s1 q => ?_)
  cases f with
  | next => exact wpAny_execs_nil q
  | ret v => exact q
  | brk => exact q
  | cont => exact q
theorem Inv.quiet {pins : List (Addr × Obj)} {σ : St} {H : Hp} {s : Shared} (I : Inv X pins σ H s) : interactive X.env = false := by simp [interactive, I.ok.kind]
def tDrop (te : TE) : TS := fun D σ H => te σ H fun _ H1 => D.nx σ H1
theorem ps_expr (he : PE X e te) (hs : swapsWith e none pos.line X.env = pure false := by rfl) : PS X (.Expr e pos) (tDrop te) := by
  intro pins s σ H D I h
  exact wpAny_Expr_any (thn (he pins s σ H _ I h) fun v s1 ⟨x, H1, I1, r1, q1⟩ => ⟨σ, H1, I1, q1⟩) I.quiet hs
def tRet (te : TE) : TS := fun D σ H => te σ H D.rt
theorem ps_ret (he : PE X e te) : PS X (.Return (some e) pos) (tRet te) := by
  intro pins s σ H D I h
  exact wpAny_Return_some (thn (he pins s σ H _ I h) fun v s1 ⟨x, H1, I1, r1, q1⟩ => ⟨x, σ, H1, I1, r1, q1⟩)
def tIfS (c : TT) (t u : TS) : TS := fun D σ H => c σ H fun b H1 => if b = true then t D σ H1 else u D σ H1
theorem ps_if {c : Expr} {a b : List Stmt} {tc : TT} (hc : PT X c tc) (ha : PSs X a t) (hb : PSs X b u) : PS X (.If c a b pos) (tIfS tc t u) := by
  intro pins s σ H D I h
  refine wpAny_If (thn (hc pins s σ H _ I h) fun d s1 ⟨H1, I1, q1⟩ => ?_)
  cases d with
  | true => exact ha pins s1 σ H1 D I1 q1
  | false => exact hb pins s1 σ H1 D I1 q1
end
abbrev TG := V → St → Hp → (St → Hp → Prop) → Prop
abbrev TGs := List V → St → Hp → (St → Hp → Prop) → Prop
def PG (X : Cx) (target : Expr) (t : TG) : Prop :=
  ∀ (pins : List (Addr × Obj)) (s : Shared) (σ : St) (H : Hp) (v : V) (u : Value) (Q : St → Hp → Prop), Inv X pins σ H s → RelV v u → t v σ H Q →
    wpAny (model X.prog X.w) X.A (assign target X.env u) (fun _ s' => ∃ σ' H', Inv X pins σ' H' s' ∧ Q σ' H') X.xe s
def PGs (X : Cx) (ts : List Expr) (t : TGs) : Prop :=
  ∀ (pins : List (Addr × Obj)) (s : Shared) (σ : St) (H : Hp) (vs : List V) (us : List Value) (Q : St → Hp → Prop), Inv X pins σ H s → Vals vs us → t vs σ H Q →
    wpAny (model X.prog X.w) X.A (assignInOrder ((assignEach ts X.env).map (·.2)) us) (fun _ s' => ∃ σ' H', Inv X pins σ' H' s' ∧ Q σ' H') X.xe s
abbrev TSet := V → V → V → Hp → (Hp → Prop) → Prop
def PSet (X : Cx) (t : TSet) : Prop :=
  ∀ (pins : List (Addr × Obj)) (s : Shared) (σ : St) (H : Hp) (o i v : V) (ov iv u : Value) (Q : Hp → Prop), Inv X pins σ H s → RelV o ov → RelV i iv → RelV v u → t o i v H Q →
    wpAny (model X.prog X.w) X.A (setItem ov iv u) (fun _ s' => ∃ H', Inv X pins σ H' s' ∧ Q H') X.xe s
section
variable {X : Cx} {pos : Pos}
def gName (i : Nat) : TG := fun v σ H Q => Q (σ.set i (some v)) H
theorem pg_name {i : Nat} {x : Str} (hN : X.N.Nodup) (hi : X.N[i]? = some x) (hx : Loc X.env.scope x) (hf : X.fn x = true ∨ X.env.scope.names.lookup x = some .local := by first | exact .inl rfl | exact .inr rfl | assumption) : PG X (.Name x pos) (gName i) := by
  intro pins s σ H v u Q I r h
  exact wpAny_assign_Name (store_ok I hN hi hx r (fun s' I' => ⟨_, H, I', h⟩) hf)
def gNil : TGs := fun vs σ H Q => vs = [] ∧ Q σ H
def gCons (t : TG) (u : TGs) : TGs := fun vs σ H Q => ∃ v r, vs = v :: r ∧ t v σ H fun σ' H' => u r σ' H' Q
theorem pgs_nil : PGs X [] gNil := by
  intro pins s σ H vs us Q I r h
  obtain ⟨e, h⟩ := h
  subst e
  cases r
  exact assignInOrder_nil ⟨σ, H, I, h⟩
theorem pgs_cons {e : Expr} {es : List Expr} {t : TG} {u : TGs} (h1 : PG X e t) (h2 : PGs X es u)
    (hs : (assignEach (e :: es) X.env).map (·.2) = assign e X.env :: (assignEach es X.env).map (·.2) := by rfl) : PGs X (e :: es) (gCons t u) := by
  intro pins s σ H vs us Q I r h
  obtain ⟨v, vr, e1, h⟩ := h
  subst e1
  cases r with
  | cons r rr =>
    rw [hs]
    refine assignInOrder_cons (thn (h1 pins s σ H _ _ _ I r h) fun _ s1 ⟨σ1, H1, I1, q1⟩ => ?_)
    exact h2 pins s1 σ1 H1 _ _ Q I1 rr q1
def gTup (K : PySem.W.Frag) (n : Nat) (t : TGs) : TG := fun v σ H Q => ∃ a xs, v = .ref a ∧ SqT K H a xs ∧ xs.length = n ∧ t xs σ H Q
theorem pg_tup {es : List Expr} {k : Nat} {t : TGs} {n : Nat} (hc : X.calm = true) (h : PGs X es t)
    (hn : (assignEach es X.env).length = n := by rfl) (hst : (assignEach es X.env).findIdx? (·.1) = none := by rfl) : PG X (.Tuple es k pos) (gTup X.K n t) := by
  intro pins s σ H v u Q I r hw
  obtain ⟨a, xs, e1, hq, hl, hw⟩ := hw
  subst e1
  cases r
  obtain ⟨its, rv, ht, hz⟩ := I.tuple hq
  refine assign_Tuple_tuple (I.ok.hd hc) ht (by simp [hn, ← hl, rv.length]) hst fun h' hx => ?_
  have I1 : Inv X pins σ H { s with heap := h' } := I.kept (t' := s.toks) fun b o e => hx b o (Nat.ne_of_lt (Heap.lt_size e)) e
  exact h pins _ σ H xs _ Q I1 (by simpa using rv) hw
def gSub (to ti : TE) (t : TSet) : TG := fun v σ H Q => to σ H fun o H1 => ti σ H1 fun i H2 => t o i v H2 fun H3 => Q σ H3
theorem pg_sub {o i : Expr} {to ti : TE} {t : TSet} (ho : PE X o to) (hi : PE X i ti) (hs : PSet X t)
    (ha : ∀ v, assign (.Subscript o i pos) X.env v = (do
      let ov ← holding [v] (eval o X.env)
      let iv ← holding [v, ov] (eval i X.env)
      standAt pos
      holding [v, ov, iv] (setItem ov iv v)
      release [v, ov, iv] []) := by intro _; rfl) : PG X (.Subscript o i pos) (gSub to ti t) := by
  intro pins s σ H v u Q I r h
  rw [ha]
  refine wpAny_bind (wpAny_holding (thn (ho pins s σ H _ I h) fun ov s1 ⟨x, H1, I1, r1, q1⟩ => ?_))
  refine wpAny_bind (wpAny_holding (thn (hi pins s1 σ H1 _ I1 q1) fun iv s2 ⟨y, H2, I2, r2, q2⟩ => ?_))
  refine wpAny_bind (wpAny_standAt (wpAny_bind (wpAny_holding (thn (hs pins s2 σ H2 x y v ov iv u _ I2 r1 r2 r q2) fun _ s3 ⟨H3, I3, q3⟩ => ?_))))
  exact wpAny_release ⟨σ, H3, I3, q3⟩
def tAsg (te : TE) (g : TG) : TS := fun D σ H => te σ H fun x H1 => g x σ H1 D.nx
theorem ps_asg {tg e : Expr} {te : TE} {g : TG} (he : PE X e te) (hg : PG X tg g) (hs : swapsWithSole [tg] e pos.line X.env = pure false := by rfl) (hw : swappedStores [tg] e X.env = pure none := by rfl)
    (h1 : (assignEach [tg] X.env).map (·.2) = [assign tg X.env] := by rfl) : PS X (.Assign [tg] e pos) (tAsg te g) := by
  intro pins s σ H D I h
  refine wpAny_Assign_stores (thn (he pins s σ H _ I h) fun v s1 ⟨x, H1, I1, r1, q1⟩ => ?_) hs hw
  rw [h1]
  exact thn (hg pins s1 σ H1 x v _ I1 r1 q1) fun _ s2 q => q
theorem ps_set {i : Nat} {x : Str} {e : Expr} {te : TE} {pos' : Pos} (hN : X.N.Nodup) (hi : X.N[i]? = some x) (hx : Loc X.env.scope x) (he : PE X e te) (hs : swapsWith e (some (.Name x pos')) pos.line X.env = pure false := by rfl) (hf : X.fn x = true ∨ X.env.scope.names.lookup x = some .local := by first | exact .inl rfl | exact .inr rfl | assumption) :
    PS X (.Assign [.Name x pos'] e pos) (tAsg te (gName i)) := by
  intro pins s σ H D I h
  refine wpAny_Assign_Name (thn (he pins s σ H _ I h) fun v s1 ⟨y, H1, I1, r1, q1⟩ => ?_) hs
  exact store_ok I1 hN hi hx r1 (fun s2 I2 => ⟨_, H1, I2, q1⟩) hf
end
section
variable {X : Cx} {pos : Pos}
end
structure It where
  go : Nat → Hp → Prop
  yld : Nat → Hp → V → Hp → Prop
  stop : Nat → Hp → Prop
def FpOk (X : Cx) (pins : List (Addr × Obj)) (H : Hp) (b : Addr) : Prop :=
  H b = none ∧ b ≠ X.env.locals ∧ b ∉ X.fs ∧ (b ∈ X.ex ∨ X.s₀.heap.objs.size ≤ b) ∧ (∀ x c, X.env.cells.lookup x = some c → c ≠ b) ∧ ∀ p ∈ X.pn ++ pins, p.1 ≠ b
theorem Inv.fpOk {X : Cx} {pins : List (Addr × Obj)} {σ : St} {H H' : Hp} {s : Shared} {b : Addr} (I : Inv X pins σ H s) (hb : s.heap.objs.size ≤ b) (hn : H' b = none) : FpOk X pins H' b := by
  refine ⟨hn, Nat.ne_of_gt (Nat.lt_of_lt_of_le I.lt hb), I.nofs hb, .inr (Nat.le_trans I.sz hb), fun x c e z => ?_, fun p hp z => ?_⟩
  · obtain ⟨v, q⟩ := I.cell x c e
    exact absurd (Nat.lt_of_lt_of_le q.lt (by rw [z]; exact hb)) (Nat.lt_irrefl _)
  · exact absurd (Nat.lt_of_lt_of_le (Heap.lt_size (I.pin p hp).1) (by rw [z]; exact hb)) (Nat.lt_irrefl _)
structure Turn (P : Program) (w : World) (K : PySem.W.Frag) (tg : Expr) (J : It) (fp : List Addr) (it : Addr) (tn : Nat → Heap → Prop) : Prop where
  mem : it ∈ fp
  obj : ∀ i h, tn i h → ∀ b ∈ fp, ∃ o, h.get? b = some o ∧ ∀ v, o.data ≠ .cell v
  keep : ∀ i h h', tn i h → (∀ b ∈ fp, ∀ o, h.get? b = some o → h'.get? b = some o) → tn i h'
  item : ∀ (X : Cx), X.prog = P → X.w = w → X.K = K → X.calm = true → ∀ (i : Nat) (pins : List (Addr × Obj)) (s : Shared) (σ : St) (H : Hp) (E : Value → Shared → Prop), Inv X pins σ H s → (∀ b ∈ fp, FpOk X pins H b) → tn i s.heap → J.go i H →
    wpAny (model P w) X.A (pyNext (.ref it)) (fun r s1 => ∃ u, r = some u ∧
      wpAny (model P w) X.A (letOwnedTupleGo tg (.ref it) u) (fun _ s2 => ∃ x H', Inv X pins σ H' s2 ∧ RelV x u ∧ J.yld i H x H' ∧ tn (i + 1) s2.heap ∧ ∀ b ∈ fp, H' b = none) E s1) E s
  done : ∀ (X : Cx), X.prog = P → X.w = w → X.K = K → X.calm = true → ∀ (i : Nat) (pins : List (Addr × Obj)) (s : Shared) (σ : St) (H : Hp) (E : Value → Shared → Prop), Inv X pins σ H s → (∀ b ∈ fp, FpOk X pins H b) → tn i s.heap → J.stop i H →
    wpAny (model P w) X.A (pyNext (.ref it)) (fun r s1 => r = none ∧ Inv X pins σ H s1) E s
  self : ∀ (A : Around) (i : Nat) (s : Shared) (Q : Value → Shared → Prop) (E : Value → Shared → Prop), tn i s.heap → Q (.ref it) s → wpAny (model P w) A (pyIter (.ref it)) Q E s
abbrev TI := St → Hp → (It → Hp → Prop) → Prop
def PIE (X : Cx) (pins : List (Addr × Obj)) (σ : St) (tg : Expr) (R : It → Hp → Prop) (itv : Value) (s2 : Shared) : Prop :=
  ∃ (it : Addr) (fp : List Addr) (tn : Nat → Heap → Prop) (J : It) (H' : Hp), itv = .ref it ∧ Inv X pins σ H' s2 ∧ Turn X.prog X.w X.K tg J fp it tn ∧ tn 0 s2.heap ∧ (∀ b ∈ fp, FpOk X pins H' b) ∧ R J H'
def PI (X : Cx) (tg iter : Expr) (wi : TI) : Prop :=
  ∀ (pins : List (Addr × Obj)) (s : Shared) (σ : St) (H : Hp) (R : It → Hp → Prop), Inv X pins σ H s → wi σ H R →
    wpAny (model X.prog X.w) X.A (eval iter X.env) (fun v s1 => wpAny (model X.prog X.w) X.A (pyIter v) (PIE X pins σ tg R) X.xe s1) X.xe s
theorem go_of {M : Model} {A : Around} {E : Value → Shared → Prop} {s : Shared} {tg : Expr} {it : Addr} {u : Value} {o : Obj} {n : String} {vs : Array Value} {Q : Unit → Shared → Prop} (ho : s.heap.get? it = some o) (hc : o.cls = .type n) (hd : o.data = .fields vs)
    (hn : ["enumerate", "zip", "dict_itemiterator", "dict_reverseitemiterator", "odict_iterator", "itertools.zip_longest", "itertools.pairwise"].contains n = false) (hQ : Q () s) : wpAny M A (letOwnedTupleGo tg (.ref it) u) Q E s := by
  unfold letOwnedTupleGo
  cases tg <;> first
    | exact wpAny_pure hQ
    | (cases u <;> first
        | exact wpAny_pure hQ
        | (refine wpAny_bind (wpAny_load ho ?_)
           rw [hc, hd]
           show wpAny M A (if (["enumerate", "zip", "dict_itemiterator", "dict_reverseitemiterator", "odict_iterator", "itertools.zip_longest", "itertools.pairwise"].contains n && vs[0]? == some (rawInt _)) = true then _ else _) Q E s
           rw [if_neg (by intro h; rw [hn, Bool.false_and] at h; cases h)]
           exact wpAny_pure hQ))
def Itl (K : PySem.W.Frag) (a : Addr) : It :=
  ⟨fun i H => ∃ xs x, SqL K H a xs ∧ xs[i]? = some x, fun i H x H' => H' = H ∧ ∀ xs, SqL K H a xs → xs[i]? = some x, fun i H => ∃ xs, SqL K H a xs ∧ xs.length ≤ i⟩
def Itt (K : PySem.W.Frag) (a : Addr) : It :=
  ⟨fun i H => ∃ xs x, SqT K H a xs ∧ xs[i]? = some x, fun i H x H' => H' = H ∧ ∀ xs, SqT K H a xs → xs[i]? = some x, fun i H => ∃ xs, SqT K H a xs ∧ xs.length ≤ i⟩
def Itr (lo : Int) (n : Nat) : It := ⟨fun i _ => i < n, fun i H x H' => H' = H ∧ x = .int (lo + i), fun i _ => n ≤ i⟩
theorem turn_list {P : Program} {w : World} {K : PySem.W.Frag} {tg : Expr} (a it : Addr) : Turn P w K tg (Itl K a) [it] it (fun i h => h.IsListIter it a i) where
  mem := by simp
  obj := fun i h st b hb => by
    have e : b = it := by simpa using hb
    subst e
    obtain ⟨o, e, c, d⟩ := st
    exact ⟨o, e, fun v z => by rw [d] at z; cases z⟩
  keep := fun i h h' st k => st.at fun o e => k it (by simp) o e
  item := by
    intro X hP hw hK hc i pins s σ H E I hf st hg
    subst hP hw hK
    obtain ⟨xs, x, hq, hx⟩ := hg
    obtain ⟨its, rv, p, hz⟩ := I.list hq
    obtain ⟨u, hu, ru⟩ := rv.get hx
    obtain ⟨f0, f1, f2, f3, f4, f5⟩ := hf it (by simp)
    refine wpAny_pyNext_list_item st p.isList (x := u) (by simpa using hu) fun h' st' sb => ?_
    have I1 : Inv X pins σ H { s with heap := h' } := I.turned (t' := s.toks) (fun b o hb e => (sb.2 b hb).trans e) f0 f1 f3 f4 f5
    obtain ⟨o, e, c, d⟩ := id st'
    exact ⟨u, rfl, go_of (s := { s with heap := h' }) e c d (by decide) ⟨x, H, I1, ru, ⟨rfl, fun ys hy => by rw [I.list_inj hy hq]; exact hx⟩, st', fun b hb => (hf b hb).1⟩⟩
  done := by
    intro X hP hw hK hc i pins s σ H E I hf st hg
    subst hP hw hK
    obtain ⟨xs, hq, hx⟩ := hg
    obtain ⟨its, rv, p, hz⟩ := I.list hq
    obtain ⟨f0, f1, f2, f3, f4, f5⟩ := hf it (by simp)
    have hl := rv.length
    exact wpAny_pyNext_list_end (I.ok.hd hc) st p.isList (by simp; omega) fun h' eb => ⟨rfl, I.turned (t' := s.toks) (fun b o hb e => eb b o hb e) f0 f1 f3 f4 f5⟩
  self := fun _ _ _ _ _ st h => wpAny_pyIter_listiter st h
theorem turn_tuple {P : Program} {w : World} {K : PySem.W.Frag} {tg : Expr} (a it : Addr) : Turn P w K tg (Itt K a) [it] it (fun i h => h.IsTupleIter it a i) where
  mem := by simp
  obj := fun i h st b hb => by
    have e : b = it := by simpa using hb
    subst e
    obtain ⟨o, e, c, d⟩ := st
    exact ⟨o, e, fun v z => by rw [d] at z; cases z⟩
  keep := fun i h h' st k => st.at fun o e => k it (by simp) o e
  item := by
    intro X hP hw hK hc i pins s σ H E I hf st hg
    subst hP hw hK
    obtain ⟨xs, x, hq, hx⟩ := hg
    obtain ⟨its, rv, p, hz⟩ := I.tuple hq
    obtain ⟨u, hu, ru⟩ := rv.get hx
    obtain ⟨f0, f1, f2, f3, f4, f5⟩ := hf it (by simp)
    refine wpAny_pyNext_tuple_item st (show s.heap.IsTuple a its.toArray from p) (x := u) (by simpa using hu) fun h' st' sb => ?_
    have I1 : Inv X pins σ H { s with heap := h' } := I.turned (t' := s.toks) (fun b o hb e => (sb.2 b hb).trans e) f0 f1 f3 f4 f5
    obtain ⟨o, e, c, d⟩ := id st'
    exact ⟨u, rfl, go_of (s := { s with heap := h' }) e c d (by decide) ⟨x, H, I1, ru, ⟨rfl, fun ys hy => by rw [I.tuple_inj hy hq]; exact hx⟩, st', fun b hb => (hf b hb).1⟩⟩
  done := by
    intro X hP hw hK hc i pins s σ H E I hf st hg
    subst hP hw hK
    obtain ⟨xs, hq, hx⟩ := hg
    obtain ⟨its, rv, p, hz⟩ := I.tuple hq
    obtain ⟨f0, f1, f2, f3, f4, f5⟩ := hf it (by simp)
    have hl := rv.length
    exact wpAny_pyNext_tuple_end (I.ok.hd hc) st (show s.heap.IsTuple a its.toArray from p) (by simp; omega) fun h' eb => ⟨rfl, I.turned (t' := s.toks) (fun b o hb e => eb b o hb e) f0 f1 f3 f4 f5⟩
  self := fun _ _ _ _ _ st h => wpAny_pyIter_tupleiter st h
theorem turn_range {P : Program} {w : World} {K : PySem.W.Frag} {tg : Expr} (it : Addr) (lo : Int) (n : Nat) : Turn P w K tg (Itr lo n) [it] it (fun i h => IsRangeIter h it (lo + (i : Nat) * 1) ((n : Int) - (i : Nat)) 1) where
  mem := by simp
  obj := fun i h st b hb => by
    have e : b = it := by simpa using hb
    subst e
    exact ⟨_, st, fun v z => by
      have z' : Data.fields _ = Data.cell v := z
      cases z'⟩
  keep := fun i h h' st k => k it (by simp) _ st
  item := by
    intro X hP hw hK hc i pins s σ H E I hf st hg
    subst hP hw hK
    obtain ⟨f0, f1, f2, f3, f4, f5⟩ := hf it (by simp)
    have W := Walks.range (prog := X.prog) (w := X.w) (I.ok.hd hc) it lo 1 n
    refine W.item i s _ _ hg st fun v h' tk hv st' kk => ?_
    obtain ⟨t, rfl⟩ := hv
    have I1 : Inv X pins σ H { s with heap := h', toks := tk } := I.turned (fun b o hb e => kk b o (by simpa using hb) e) f0 f1 f3 f4 f5
    refine ⟨_, rfl, go_of (s := { s with heap := h', toks := tk }) (n := "range_iterator") st' rfl rfl (by decide) ⟨.int (lo + i), H, I1, ⟨t, ?_⟩, ⟨rfl, rfl⟩, st', fun b hb => (hf b hb).1⟩⟩
    rw [Int.mul_one]
  done := by
    intro X hP hw hK hc i pins s σ H E I hf st hg
    subst hP hw hK
    obtain ⟨f0, f1, f2, f3, f4, f5⟩ := hf it (by simp)
    exact wpAny_pyNext_range_end (I.ok.hd hc) st (by have : n ≤ i := hg; omega) fun h' eb => ⟨rfl, I.turned (t' := s.toks) (fun b o hb e => eb b o hb e) f0 f1 f3 f4 f5⟩
  self := fun _ _ _ _ _ st h => wpAny_pyIter_rangeiter st h
end L2
namespace L2
open PySem PySem.Spec PyProof.Rows
section
variable {X : Cx} {tg : Expr}
theorem range_it {pins : List (Addr × Obj)} {σ : St} {H : Hp} {s : Shared} {R : It → Hp → Prop} {E : Value → Shared → Prop} {lo hi : Int} {t u v : Tok} {tk : Nat} (I : Inv X pins σ H s) (h1 : -(2 ^ 62) ≤ lo) (h2 : lo < 2 ^ 62) (h3 : -(2 ^ 62) ≤ hi) (h4 : hi < 2 ^ 62)
    (q : R (Itr lo (hi - lo).toNat) H) : wpAny (model X.prog X.w) X.A (pyIter (.ref s.heap.objs.size)) (PIE X pins σ tg R) E { s with heap := s.heap.push { cls := .type "range", data := .fields #[.int lo t, .int hi u, .int 1 v] }, toks := tk } := by
  refine wpAny_pyIter_range (IsRange.new ..) (small_one h1 h2 h3 h4) ?_
  have I1 : Inv X pins σ H { s with heap := s.heap.push { cls := .type "range", data := .fields #[.int lo t, .int hi u, .int 1 v] }, toks := tk } := I.kept fun b o e => Heap.get?_push_of_some _ e
  refine ⟨(s.heap.push { cls := .type "range", data := .fields #[.int lo t, .int hi u, .int 1 v] }).objs.size, [(s.heap.push { cls := .type "range", data := .fields #[.int lo t, .int hi u, .int 1 v] }).objs.size], _, _, H, rfl,
    I1.kept (t' := tk) fun b o e => Heap.get?_push_of_some _ e, turn_range _ lo (hi - lo).toNat, ?_, fun b hb => ?_, q⟩
  · have e1 : lo + ((0 : Nat) : Int) * 1 = lo := by simp
    have e2 : (((hi - lo).toNat : Nat) : Int) - ((0 : Nat) : Int) = Builtin.Range.rangeSize lo hi 1 := by rw [rangeSize_one]; split <;> omega
    show IsRangeIter _ _ (lo + ((0 : Nat) : Int) * 1) ((((hi - lo).toNat : Nat) : Int) - ((0 : Nat) : Int)) 1
    rw [e1, e2]
    exact Heap.get?_push_size _ rfl
  · have e : b = (s.heap.push { cls := .type "range", data := .fields #[.int lo t, .int hi u, .int 1 v] }).objs.size := by simpa using hb
    subst e
    exact I1.fpOk (Nat.le_refl _) (I1.hok.fresh (Nat.le_refl _))
def iRng1 (ta : TA) : TI := fun σ H R => ta σ H fun vs H1 => ∃ j : Int, vs = [.int j] ∧ -(2 ^ 62) ≤ j ∧ j < 2 ^ 62 ∧ R (Itr 0 j.toNat) H1
def iRng2 (ta : TA) : TI := fun σ H R => ta σ H fun vs H1 => ∃ i j : Int, vs = [.int i, .int j] ∧ (-(2 ^ 62) ≤ i ∧ i < 2 ^ 62 ∧ -(2 ^ 62) ≤ j ∧ j < 2 ^ 62) ∧ R (Itr i (j - i).toNat) H1
theorem pi_range1 {a : Expr} {ta : TA} {p pos : Pos} (hg : Gl X "range") (hm : X.mg "range" = none) (ha : PA X [a] ta) (hs : starEach [a] X.env = [(false, eval a X.env)] := by rfl) : PI X tg (.Call (.Name "range" p) [a] [] pos) (iRng1 ta) := by
  intro pins s σ H R I h
  refine Call_ (ld_blt I hg hm boot_range (PyProof.Rows.callWith_type1 (thn (ha pos pins s σ H _ I h) fun us s1 ⟨vs, H1, I1, r1, q1⟩ => ?_) hs rfl))
  obtain ⟨j, e, q1, q2, q⟩ := q1
  subst e
  cases r1 with
  | cons r rr =>
    cases rr
    obtain ⟨t, rfl⟩ := r
    exact call_range_1 (range_it I1 (by omega) (by omega) q1 q2 (by simpa using q))
theorem pi_range2 {a b : Expr} {ta : TA} {p pos : Pos} (hg : Gl X "range") (hm : X.mg "range" = none) (ha : PA X [a, b] ta) (hs : starEach [a, b] X.env = [(false, eval a X.env), (false, eval b X.env)] := by rfl) (hs2 : starEach [b] X.env = [(false, eval b X.env)] := by rfl) :
    PI X tg (.Call (.Name "range" p) [a, b] [] pos) (iRng2 ta) := by
  intro pins s σ H R I h
  refine Call_ (ld_blt I hg hm boot_range (PyProof.Rows.callWith_type1 (thn (ha pos pins s σ H _ I h) fun us s1 ⟨vs, H1, I1, r1, q1⟩ => ?_) (by rw [hs, hs2]) (by rw [hs2]; rfl)))
  obtain ⟨i, j, e, ⟨q1, q2, q3, q4⟩, q⟩ := q1
  subst e
  cases r1 with
  | cons r rr =>
    cases rr with
    | cons r' rr =>
      cases rr
      obtain ⟨t, rfl⟩ := r
      obtain ⟨t', rfl⟩ := r'
      exact call_range_2 (range_it I1 q1 q2 q3 q4 q)
def tFor (wi : TI) (g : TG) (tb : TS) : TS := fun D σ H => wi σ H fun J H1 => ∃ W : Nat → Nat → St → Hp → Prop, (∃ m, W 0 m σ H1) ∧ ∀ i m σ H, W i m σ H →
  (J.stop i H ∧ D.nx σ H) ∨ (J.go i H ∧ ∃ N : St → Hp → Prop, (∀ σ' H', N σ' H' → ∃ m', m' < m ∧ W (i + 1) m' σ' H') ∧ ∀ x H', J.yld i H x H' → g x σ H' fun σ2 H2 => tb { D with nx := N, ct := N, bk := D.nx } σ2 H2)
def pinsAt (fp : List Addr) (h : Heap) : List (Addr × Obj) := fp.filterMap fun b => (h.get? b).map fun o => (b, o)
theorem mem_pinsAt {fp : List Addr} {h : Heap} {b : Addr} {o : Obj} (hb : b ∈ fp) (e : h.get? b = some o) : (b, o) ∈ pinsAt fp h := List.mem_filterMap.mpr ⟨b, hb, by rw [e]; rfl⟩
theorem of_pinsAt {fp : List Addr} {h : Heap} {p : Addr × Obj} (hp : p ∈ pinsAt fp h) : p.1 ∈ fp ∧ h.get? p.1 = some p.2 := by
  obtain ⟨b, hb, e⟩ := List.mem_filterMap.mp hp
  cases q : h.get? b with
  | none => rw [q] at e; cases e
  | some o =>
    rw [q] at e
    have e' : (b, o) = p := Option.some.inj e
    subst e'
    exact ⟨hb, q⟩
theorem Inv.pinned {pins : List (Addr × Obj)} {σ : St} {H : Hp} {s : Shared} {fp : List Addr} (I : Inv X pins σ H s) (hf : ∀ b ∈ fp, FpOk X pins H b) (ho : ∀ b ∈ fp, ∃ o, s.heap.get? b = some o ∧ ∀ v, o.data ≠ .cell v) : Inv X (pins ++ pinsAt fp s.heap) σ H s :=
  I.pins_of fun p hp => (List.mem_append.mp hp).elim (fun z => I.pin p (List.mem_append_right _ z)) fun z => by
    obtain ⟨hb, e⟩ := of_pinsAt z
    obtain ⟨f0, f1, f2, _⟩ := hf p.1 hb
    obtain ⟨o, e', d⟩ := ho p.1 hb
    rw [e] at e'; cases e'
    exact ⟨e, f0, f1, f2, d⟩
theorem Inv.unpinned {pins pl : List (Addr × Obj)} {σ : St} {H : Hp} {s : Shared} (I : Inv X (pins ++ pl) σ H s) : Inv X pins σ H s := I.pins_of fun p hp => I.pin p (List.mem_append_right _ (List.mem_append_left _ hp))
theorem ps_for {iter : Expr} {body : List Stmt} {wi : TI} {g : TG} {tb : TS} {pos : Pos} (hp : PassesOwn (model X.prog X.w) X.A X.env X.xe) (hc : X.calm = true) (hi : PI X tg iter wi) (hg : PG X tg g) (hb : PSs X body tb)
    (hs : ∀ x, foldedSetIterable iter X.env x = pure x := by intro _; rfl) : PS X (.For tg iter body [] pos) (tFor wi g tb) := by
  intro pins s σ H D I h
  refine wpAny_For (thn (hi pins s σ H _ I h) fun v s1 h1 => thn h1 fun itv s2 h2 => ?_) hs
  obtain ⟨it, fp, tn, J, H2, e, I2, T, st2, f2, W, ⟨m0, w0⟩, turn⟩ := h2
  subst e
  have stat : ∀ {H' : Hp}, (∀ b ∈ fp, H' b = none) → ∀ b ∈ fp, FpOk X pins H' b := fun hn b hb => ⟨hn b hb, (f2 b hb).2⟩
  refine codeAny_forLoop_any (fun n s' => ∃ i σ' H', Inv X pins σ' H' s' ∧ tn i s'.heap ∧ (∀ b ∈ fp, H' b = none) ∧ W i n σ' H') ?_ m0 ⟨0, σ, H2, I2, st2, fun b hb => (f2 b hb).1, w0⟩
  rintro n s3 ⟨i, σ3, H3, I3, st3, fr3, w3⟩
  rcases turn i n σ3 H3 w3 with ⟨stop, qn⟩ | ⟨go, N, hN, step⟩
  · refine wpAny_passesOwn hp (thn (T.done X rfl rfl rfl hc i pins s3 σ3 H3 X.xe I3 (stat fr3) st3 stop) fun r s4 ⟨hr, I4⟩ => ?_)
    subst hr
    exact wpAny_execs_nil ⟨σ3, H3, I4, qn⟩
  · refine wpAny_passesOwn hp (thn (T.item X rfl rfl rfl hc i pins s3 σ3 H3 X.xe I3 (stat fr3) st3 go) fun r s4 ⟨u, hr, h4⟩ => ?_)
    subst hr
    refine wpAny_passesOwn hp (thn h4 fun _ s5 ⟨x, H5, I5, r5, y5, st5, fr5⟩ => ?_)
    have I5' := I5.pinned (stat fr5) (T.obj _ _ st5)
    refine wpAny_passesOwn hp (thn (hg _ s5 σ3 H5 x u _ I5' r5 (step x H5 y5)) fun _ s6 ⟨σ6, H6, I6, q6⟩ => ?_)
    refine wpAny_passesOwn hp (thn (hb _ s6 σ6 H6 _ I6 q6) fun f s7 q7 => ?_)
    have again : ∀ {σ7 : St} {H7 : Hp}, Inv X (pins ++ pinsAt fp s5.heap) σ7 H7 s7 → N σ7 H7 → ∃ m, m < n ∧ ∃ i σ' H', Inv X pins σ' H' s7 ∧ tn i s7.heap ∧ (∀ b ∈ fp, H' b = none) ∧ W i m σ' H' := fun {σ7 H7} I7 n7 => by
      obtain ⟨m', hm, w7⟩ := hN σ7 H7 n7
      refine ⟨m', hm, i + 1, σ7, H7, I7.unpinned, T.keep _ _ _ st5 fun b hb o e => (I7.pin (b, o) (List.mem_append_right _ (List.mem_append_right _ (mem_pinsAt hb e)))).1, fun b hb => ?_, w7⟩
      obtain ⟨o, e, d⟩ := T.obj _ _ st5 b hb
      exact (I7.pin (b, o) (List.mem_append_right _ (List.mem_append_right _ (mem_pinsAt hb e)))).2.1
    cases f with
    | next => obtain ⟨σ7, H7, I7, n7⟩ := q7; exact again I7 n7
    | cont => obtain ⟨σ7, H7, I7, n7⟩ := q7; exact again I7 n7
    | brk => obtain ⟨σ7, H7, I7, q7⟩ := q7; exact ⟨σ7, H7, I7.unpinned, q7⟩
    | ret v => obtain ⟨x7, σ7, H7, I7, r7, q7⟩ := q7; exact ⟨x7, σ7, H7, I7.unpinned, r7, q7⟩
end
end L2
namespace L2
open PySem PySem.Spec PyProof.Rows
abbrev R2 := V → V → Hp → VK → Prop
def OpR (X : Cx) (f : Value → Value → Sem Value) (r : R2) : Prop :=
  ∀ (pins : List (Addr × Obj)) (s : Shared) (σ : St) (H : Hp) (x y : V) (v u : Value) (Q : VK), Inv X pins σ H s → RelV x v → RelV y u → r x y H Q →
    wpAny (model X.prog X.w) X.A (f v u) (EP X pins σ Q) X.xe s
def UnR (X : Cx) (f : Value → Sem Value) (r : V → Hp → VK → Prop) : Prop :=
  ∀ (pins : List (Addr × Obj)) (s : Shared) (σ : St) (H : Hp) (x : V) (v : Value) (Q : VK), Inv X pins σ H s → RelV x v → r x H Q →
    wpAny (model X.prog X.w) X.A (f v) (EP X pins σ Q) X.xe s
def CallR (X : Cx) (f : Value) (r : List V → Hp → VK → Prop) : Prop :=
  ∀ (pins : List (Addr × Obj)) (s : Shared) (σ : St) (H : Hp) (xs : List V) (us : List Value) (Q : VK), Inv X pins σ H s → Vals xs us → r xs H Q →
    wpAny (model X.prog X.w) X.A (call f us) (EP X pins σ Q) X.xe s
def TruR (X : Cx) (r : V → Hp → (Bool → Hp → Prop) → Prop) : Prop :=
  ∀ (pins : List (Addr × Obj)) (s : Shared) (σ : St) (H : Hp) (x : V) (v : Value) (Q : Bool → Hp → Prop), Inv X pins σ H s → RelV x v → r x H Q →
    wpAny (model X.prog X.w) X.A (truthy v) (TP X pins σ Q) X.xe s
def tOp (r : R2) (ta tb : TE) : TE := fun σ H Q => ta σ H fun x H1 => tb σ H1 fun y H2 => r x y H2 Q
def tUn (r : V → Hp → VK → Prop) (ta : TE) : TE := fun σ H Q => ta σ H fun x H1 => r x H1 Q
def rI (C : Int → Int → Prop) (g : Int → Int → V) : R2 := fun x y H Q => ∃ i j, x = .int i ∧ y = .int j ∧ C i j ∧ Q (g i j) H
def rI0 (g : Int → Int → V) : R2 := fun x y H Q => ∃ i j, x = .int i ∧ y = .int j ∧ Q (g i j) H
def rU (g : Int → V) : V → Hp → VK → Prop := fun x H Q => ∃ i, x = .int i ∧ Q (g i) H
section
variable {X : Cx} {a b c : Expr} {ta tb tc : TE} {pos : Pos}
theorem binT (ha : PE X a ta) (hb : PE X b tb) {pins : List (Addr × Obj)} {s : Shared} {σ : St} {H : Hp} {R : V → V → Hp → Prop} (I : Inv X pins σ H s)
    (h : ta σ H fun x H1 => tb σ H1 fun y H2 => R x y H2) {Q : Value → Shared → Prop} {f : Value → Value → Sem Value}
    (hf : ∀ v u s2 x y H2, Inv X pins σ H2 s2 → RelV x v → RelV y u → R x y H2 → wpAny (model X.prog X.w) X.A (f v u) Q X.xe s2) :
    wpAny (model X.prog X.w) X.A (eval a X.env) (fun v s₁ => wpAny (model X.prog X.w) X.A (eval b X.env) (fun u s₂ => wpAny (model X.prog X.w) X.A (f v u) Q X.xe s₂) X.xe s₁) X.xe s := by
  refine thn (ha pins s σ H _ I h) fun v s1 ⟨x, H1, I1, r1, q1⟩ => ?_
  refine thn (hb pins s1 σ H1 _ I1 q1) fun u s2 ⟨y, H2, I2, r2, q2⟩ => ?_
  exact hf v u s2 x y H2 I2 r1 r2 q2
theorem pe_op {op : Operator} {r : R2} (ho : OpR X (binaryOp op) r) (ha : PE X a ta) (hb : PE X b tb) : PE X (.BinOp a op b pos) (tOp r ta tb) := by
  intro pins s σ H Q I h
  exact wpAny_BinOp (binT ha hb I h fun v u s2 x y H2 I2 rx ry q => ho pins s2 σ H2 x y v u Q I2 rx ry q)
theorem pe_un {op : UnaryOp} {r : V → Hp → VK → Prop} (ho : UnR X (unaryOp op) r) (ha : PE X a ta) : PE X (.UnaryOp op a pos) (tUn r ta) := by
  intro pins s σ H Q I h
  exact UnaryOp_ (thn (ha pins s σ H _ I h) fun v s1 ⟨x, H1, I1, r1, q1⟩ => ho pins s1 σ H1 x v Q I1 r1 q1)
theorem opI {f : Value → Value → Sem Value} {C : Int → Int → Prop} {g : Int → Int → Int}
    (rule : ∀ (i j : Int) (t u : Tok) (s : Shared) (Q : Value → Shared → Prop) (E : Value → Shared → Prop), C i j → Q (.int (g i j) s.toks) { s with toks := s.toks + 1 } → wpAny (model X.prog X.w) X.A (f (.int i t) (.int j u)) Q E s) :
    OpR X f (rI C fun i j => .int (g i j)) := by
  intro pins s σ H x y v u Q I rx ry h
  obtain ⟨i, j, rfl, rfl, hc, q⟩ := h
  obtain ⟨t, rfl⟩ := rx
  obtain ⟨t', rfl⟩ := ry
  exact rule i j t t' s _ _ hc ⟨.int (g i j), H, I.tok _, ⟨_, rfl⟩, q⟩
theorem opI0 {f : Value → Value → Sem Value} {g : Int → Int → Int}
    (rule : ∀ (i j : Int) (t u : Tok) (s : Shared) (Q : Value → Shared → Prop) (E : Value → Shared → Prop), Q (.int (g i j) s.toks) { s with toks := s.toks + 1 } → wpAny (model X.prog X.w) X.A (f (.int i t) (.int j u)) Q E s) :
    OpR X f (rI0 fun i j => .int (g i j)) := by
  intro pins s σ H x y v u Q I rx ry h
  obtain ⟨i, j, rfl, rfl, q⟩ := h
  obtain ⟨t, rfl⟩ := rx
  obtain ⟨t', rfl⟩ := ry
  exact rule i j t t' s _ _ ⟨.int (g i j), H, I.tok _, ⟨_, rfl⟩, q⟩
theorem opB0 {f : Value → Value → Sem Value} {g : Int → Int → Bool}
    (rule : ∀ (i j : Int) (t u : Tok) (s : Shared) (Q : Value → Shared → Prop) (E : Value → Shared → Prop), Q (.bool (g i j)) s → wpAny (model X.prog X.w) X.A (f (.int i t) (.int j u)) Q E s) :
    OpR X f (rI0 fun i j => .bl (g i j)) := by
  intro pins s σ H x y v u Q I rx ry h
  obtain ⟨i, j, rfl, rfl, q⟩ := h
  obtain ⟨t, rfl⟩ := rx
  obtain ⟨t', rfl⟩ := ry
  exact rule i j t t' s _ _ ⟨.bl (g i j), H, I, rfl, q⟩
def CDiv (i j : Int) : Prop := 0 < j ∧ j < 1073741824
def CMul (i j : Int) : Prop := (-(2 ^ 64) < i ∧ i < 2 ^ 64) ∨ (-(2 ^ 64) < j ∧ j < 2 ^ 64)
theorem CMul.ok {i j : Int} (h : CMul i j) : IntMulOk i j := by
  rcases h with ⟨h1, h2⟩ | ⟨h1, h2⟩
  · exact .of_left (intBits_le_64 h1 h2)
  · exact .of_right (intBits_le_64 h1 h2)
theorem op_add : OpR X (binaryOp .Add) (rI0 fun i j => .int (i + j)) := opI0 fun _ _ _ _ _ _ _ q => add_int q
theorem op_mul : OpR X (binaryOp .Mult) (rI CMul fun i j => .int (i * j)) := opI fun _ _ _ _ _ _ _ hc q => mul_int q hc.ok
theorem op_fdiv : OpR X (binaryOp .FloorDiv) (rI CDiv fun i j => .int (i / j)) := opI fun i j _ _ _ _ _ hc q => by
  have h1 : (0 : Int) < j := hc.1
  have h2 : j < 1073741824 := hc.2
  exact floordiv_int (by omega) (by rw [Int.fdiv_eq_ediv_of_nonneg i (by omega)]; exact q) (.inl (PyProof.noPylong_small (by omega)))
theorem op_mod : OpR X (binaryOp .Mod) (rI (fun _ j => 0 < j) fun i j => .int (i % j)) := opI fun i j _ _ _ _ _ hc q => by
  have h1 : (0 : Int) < j := hc
  exact mod_int' (by omega) (by rw [Int.fmod_eq_emod_of_nonneg i (by omega)]; exact q)
theorem unI {f : Value → Sem Value} {g : Int → Int}
    (rule : ∀ (i : Int) (t : Tok) (s : Shared) (Q : Value → Shared → Prop) (E : Value → Shared → Prop), Q (.int (g i) s.toks) { s with toks := s.toks + 1 } → wpAny (model X.prog X.w) X.A (f (.int i t)) Q E s) :
    UnR X f (rU fun i => .int (g i)) := by
  intro pins s σ H x v Q I rx h
  obtain ⟨i, rfl, q⟩ := h
  obtain ⟨t, rfl⟩ := rx
  exact rule i t s _ _ ⟨.int (g i), H, I.tok _, ⟨_, rfl⟩, q⟩
theorem un_neg : UnR X (unaryOp .USub) (rU fun i => .int (-i)) := unI fun _ _ _ _ _ q => neg_int q
end
def scal : V → V → Bool
  | .non, .non => true | .non, .int _ => true | .int _, .non => true | .non, .bl _ => true | .bl _, .non => true | .non, .str _ => true | .str _, .non => true
  | .int _, .int _ => true | .bl _, .bl _ => true | .str _, .str _ => true | .byt _, .byt _ => true
  | .int _, .str _ => true | .str _, .int _ => true | .bl _, .str _ => true | .str _, .bl _ => true
  | _, _ => false
def rEq : R2 := fun x y H Q => scal x y = true ∧ Q (.bl (decide (x = y))) H
def rNe : R2 := fun x y H Q => scal x y = true ∧ Q (.bl (!decide (x = y))) H
theorem dec_int {i j : Int} : decide (V.int i = V.int j) = (i == j) := by
  rw [Bool.eq_iff_iff]
  simp
theorem dec_bl {i j : Bool} : decide (V.bl i = V.bl j) = (i == j) := by
  rw [Bool.eq_iff_iff]
  simp
theorem dec_str {i j : Str} : decide (V.str i = V.str j) = (i == j) := by
  rw [Bool.eq_iff_iff]
  simp
theorem dec_byt {i j : Array UInt8} : decide (V.byt i = V.byt j) = (i.toList == j.toList) := by
  rw [Bool.eq_iff_iff]
  cases i
  cases j
  simp
section
variable {X : Cx} {a b c : Expr} {ta tb tc : TE} {pos : Pos}
theorem fin_bl {pins : List (Addr × Obj)} {σ : St} {H : Hp} {s : Shared} {Q : VK} {k k' : Bool} (I : Inv X pins σ H s) (q : Q (.bl k) H) (e : k = k') : EP X pins σ Q (.bool k') s := by
  subst e
  exact ⟨.bl k, H, I, rfl, q⟩
theorem op_eq : OpR X (compareOp .Eq) rEq := by
  intro pins s σ H x y v u Q I rx ry h
  obtain ⟨hs, q⟩ := h
  cases x with
  | non =>
    cases rx
    cases y with
    | non => cases ry; exact PySem.EqNone.eq_none_none (fin_bl I q (by simp))
    | bl j => cases ry; exact PySem.EqNone.eq_none_bool (fin_bl I q (by simp))
    | int j => obtain ⟨t', rfl⟩ := ry; exact PySem.EqNone.eq_none_int (fin_bl I q (by simp))
    | str j => obtain ⟨t', rfl⟩ := ry; exact PySem.EqNone.eq_none_str (fin_bl I q (by simp))
    | _ => exact absurd (show false = true from hs) Bool.false_ne_true
  | bl i =>
    cases rx
    cases y with
    | non => cases ry; exact PySem.EqNone.eq_bool_none (fin_bl I q (by simp))
    | bl j => cases ry; exact eq_bool (fin_bl I q dec_bl)
    | str j => obtain ⟨t', rfl⟩ := ry; exact PySem.EqMixed.eq_bool_str (fin_bl I q (by simp))
    | _ => exact absurd (show false = true from hs) Bool.false_ne_true
  | int i =>
    obtain ⟨t, rfl⟩ := rx
    cases y with
    | non => cases ry; exact PySem.EqNone.eq_int_none (fin_bl I q (by simp))
    | int j => obtain ⟨t', rfl⟩ := ry; exact eq_int (fin_bl I q dec_int)
    | str j => obtain ⟨t', rfl⟩ := ry; exact PySem.EqMixed.eq_int_str (fin_bl I q (by simp))
    | _ => exact absurd (show false = true from hs) Bool.false_ne_true
  | str i =>
    obtain ⟨t, rfl⟩ := rx
    cases y with
    | non => cases ry; exact PySem.EqNone.eq_str_none (fin_bl I q (by simp))
    | bl j => cases ry; exact PySem.EqMixed.eq_str_bool (fin_bl I q (by simp))
    | int j => obtain ⟨t', rfl⟩ := ry; exact PySem.EqMixed.eq_str_int (fin_bl I q (by simp))
    | str j => obtain ⟨t', rfl⟩ := ry; exact eq_str (fin_bl I q dec_str)
    | _ => exact absurd (show false = true from hs) Bool.false_ne_true
  | byt i =>
    obtain ⟨t, rfl⟩ := rx
    cases y with
    | byt j => obtain ⟨t', rfl⟩ := ry; exact PySem.W.eq_bytes (fin_bl I q dec_byt)
    | _ => exact absurd (show false = true from hs) Bool.false_ne_true
  | _ => cases y <;> exact absurd (show false = true from hs) Bool.false_ne_true
theorem op_ne : OpR X (compareOp .NotEq) rNe := by
  intro pins s σ H x y v u Q I rx ry h
  obtain ⟨hs, q⟩ := h
  cases x with
  | non =>
    cases rx
    cases y with
    | non => cases ry; exact PySem.EqNone.ne_none_none (fin_bl I q (by simp))
    | bl j => cases ry; exact PySem.EqNone.ne_none_bool (fin_bl I q (by simp))
    | int j => obtain ⟨t', rfl⟩ := ry; exact PySem.EqNone.ne_none_int (fin_bl I q (by simp))
    | str j => obtain ⟨t', rfl⟩ := ry; exact PySem.EqNone.ne_none_str (fin_bl I q (by simp))
    | _ => exact absurd (show false = true from hs) Bool.false_ne_true
  | bl i =>
    cases rx
    cases y with
    | non => cases ry; exact PySem.EqNone.ne_bool_none (fin_bl I q (by simp))
    | bl j => cases ry; exact ne_bool (fin_bl I q (congrArg not dec_bl))
    | str j => obtain ⟨t', rfl⟩ := ry; exact PySem.EqMixed.ne_bool_str (fin_bl I q (by simp))
    | _ => exact absurd (show false = true from hs) Bool.false_ne_true
  | int i =>
    obtain ⟨t, rfl⟩ := rx
    cases y with
    | non => cases ry; exact PySem.EqNone.ne_int_none (fin_bl I q (by simp))
    | int j => obtain ⟨t', rfl⟩ := ry; exact ne_int (fin_bl I q (congrArg not dec_int))
    | str j => obtain ⟨t', rfl⟩ := ry; exact PySem.EqMixed.ne_int_str (fin_bl I q (by simp))
    | _ => exact absurd (show false = true from hs) Bool.false_ne_true
  | str i =>
    obtain ⟨t, rfl⟩ := rx
    cases y with
    | non => cases ry; exact PySem.EqNone.ne_str_none (fin_bl I q (by simp))
    | bl j => cases ry; exact PySem.EqMixed.ne_str_bool (fin_bl I q (by simp))
    | int j => obtain ⟨t', rfl⟩ := ry; exact PySem.EqMixed.ne_str_int (fin_bl I q (by simp))
    | str j => obtain ⟨t', rfl⟩ := ry; exact ne_str (fin_bl I q (congrArg not dec_str))
    | _ => exact absurd (show false = true from hs) Bool.false_ne_true
  | byt i =>
    obtain ⟨t, rfl⟩ := rx
    cases y with
    | byt j => obtain ⟨t', rfl⟩ := ry; exact PySem.W.ne_bytes (fin_bl I q (congrArg not dec_byt))
    | _ => exact absurd (show false = true from hs) Bool.false_ne_true
  | _ => cases y <;> exact absurd (show false = true from hs) Bool.false_ne_true
theorem op_lt : OpR X (compareOp .Lt) (rI0 fun i j => .bl (decide (i < j))) := opB0 fun _ _ _ _ _ _ _ q => lt_int q
theorem op_gt : OpR X (compareOp .Gt) (rI0 fun i j => .bl (decide (j < i))) := opB0 fun _ _ _ _ _ _ _ q => gt_int q
theorem op_in_str : OpR X (compareOp .In) (fun x y H Q => ∃ i j, x = .str i ∧ y = .str j ∧ Q (.bl (!(Builtin.Str.occurrences j i 0 j.length 1).isEmpty)) H) := by
  intro pins s σ H x y v u Q I rx ry h
  obtain ⟨i, j, rfl, rfl, q⟩ := h
  obtain ⟨t, rfl⟩ := rx
  obtain ⟨t', rfl⟩ := ry
  exact in_str (fin_bl I q rfl)
theorem op_isN : OpR X (compareOp .Is) (fun x y H Q => y = .non ∧ Q (.bl (decide (x = .non))) H) := by
  intro pins s σ H x y v u Q I rx ry h
  obtain ⟨rfl, q⟩ := h
  cases ry
  refine is_none_gen (fin_bl I q ?_)
  cases x <;> first
    | (cases rx; rfl)
    | (obtain ⟨t, rfl⟩ := rx; rfl)
theorem op_notN : OpR X (compareOp .IsNot) (fun x y H Q => y = .non ∧ Q (.bl (!decide (x = .non))) H) := by
  intro pins s σ H x y v u Q I rx ry h
  obtain ⟨rfl, q⟩ := h
  cases ry
  refine isnot_none_gen (fin_bl I q ?_)
  cases x <;> first
    | (cases rx; rfl)
    | (obtain ⟨t, rfl⟩ := rx; rfl)
theorem OpR.or {f : Value → Value → Sem Value} {r r' : R2} (h : OpR X f r) (h' : OpR X f r') : OpR X f (fun x y H Q => r x y H Q ∨ r' x y H Q) := by
  intro pins s σ H x y v u Q I rx ry q
  rcases q with q | q
  · exact h pins s σ H x y v u Q I rx ry q
  · exact h' pins s σ H x y v u Q I rx ry q
theorem nomark (b : Expr) {op : CmpOp} (h : op ≠ .In := by decide) (h2 : op ≠ .NotIn := by decide) : behindInMarks op b = false := by
  have e1 : (op == CmpOp.In) = false := by cases op <;> first | rfl | exact absurd rfl h
  have e2 : (op == CmpOp.NotIn) = false := by cases op <;> first | rfl | exact absurd rfl h2
  cases b <;> simp [behindInMarks, e1, e2]
theorem pe_cmpR {op : CmpOp} {r : R2} (ho : OpR X (compareOp op) r) (ha : PE X a ta) (hb : PE X b tb) (hm : behindInMarks op b = false) : PE X (.Compare a [op] [b] pos) (tOp r ta tb) := by
  intro pins s σ H Q I h
  exact wpAny_Compare1 (binT ha hb I h fun v u s2 x y H2 I2 rx ry q => ho pins s2 σ H2 x y v u Q I2 rx ry q) hm
def tTest (t : TE) : TT := fun σ H Q => t σ H fun x H' => ∃ k, x = .bl k ∧ Q k H'
theorem pt_cmpR {op : CmpOp} {r : R2} (ho : OpR X (compareOp op) r) (ha : PE X a ta) (hb : PE X b tb) (hm : behindInMarks op b = false) : PT X (.Compare a [op] [b] pos) (tTest (tOp r ta tb)) := by
  intro pins s σ H Q I h
  refine wpAny_isTrue_Compare1 (thn (ha pins s σ H _ I h) fun v s1 ⟨x, H1, I1, r1, q1⟩ => thn (hb pins s1 σ H1 _ I1 q1) fun u s2 ⟨y, H2, I2, r2, q2⟩ =>
    thn (ho pins s2 σ H2 x y v u _ I2 r1 r2 q2) fun c s3 ⟨z, H3, I3, r3, k, e, q3⟩ => ?_) hm
  subst e
  cases r3
  exact wpAny_truthy_bool ⟨H3, I3, q3⟩
def TruV (K : PySem.W.Frag) (x : V) (H : Hp) (k : Bool) : Prop :=
  match x with
  | .non => k = false
  | .bl b => k = b
  | .int i => k = (i != 0)
  | .str y => y.length ≤ sizeLine ∧ k = ((y.length : Int) != 0)
  | .byt y => y.size ≤ sizeLine ∧ k = ((y.size : Int) != 0)
  | .ref p => (∃ xs, SqL K H p xs ∧ k = !xs.isEmpty) ∨ (∃ xs, SqT K H p xs ∧ k = !xs.isEmpty) ∨ ∃ kvs, H p = some (.dK kvs) ∧ k = !kvs.isEmpty
  | _ => False
theorem isEmpty_kv {κ : Type} {kvs : List (κ × V)} {vs : List (κ × Value)} (r : KV kvs vs) : (!vs.isEmpty) = !kvs.isEmpty := by
  cases r <;> rfl
theorem isEmpty_of {xs : List V} {its : List Value} (r : Vals xs its) : (!its.toArray.isEmpty) = !xs.isEmpty := by
  cases r <;> simp
theorem line63 : (sizeLine : Nat) < 2 ^ 63 := by rw [sizeLine_eq]; decide
theorem tru_ok : TruR X (fun x H Q => ∃ k, TruV X.K x H k ∧ Q k H) := by
  intro pins s σ H x v Q I rx h
  obtain ⟨k, e, q⟩ := h
  have hl := line63
  have hs : sizeLine = 16777216 := sizeLine_eq
  cases x with
  | non =>
    cases rx
    have e' : k = false := e
    subst e'
    exact truthy_none ⟨H, I, q⟩
  | bl b =>
    cases rx
    have e' : k = b := e
    subst e'
    exact wpAny_truthy_bool ⟨H, I, q⟩
  | int i =>
    obtain ⟨t, rfl⟩ := rx
    have e' : k = (i != 0) := e
    subst e'
    exact PySem.P.truthy_int ⟨H, I, q⟩
  | str y =>
    obtain ⟨t, rfl⟩ := rx
    obtain ⟨hy, e'⟩ : y.length ≤ sizeLine ∧ k = ((y.length : Int) != 0) := e
    subst e'
    exact PySem.P.truthy_str (by omega) ⟨H, I.tok _, q⟩
  | byt y =>
    obtain ⟨t, rfl⟩ := rx
    obtain ⟨hy, e'⟩ : y.size ≤ sizeLine ∧ k = ((y.size : Int) != 0) := e
    subst e'
    exact PySem.W.truthy_bytes (by omega) ⟨H, I.tok _, q⟩
  | ref p =>
    cases rx
    have e' : (∃ xs, SqL X.K H p xs ∧ k = !xs.isEmpty) ∨ (∃ xs, SqT X.K H p xs ∧ k = !xs.isEmpty) ∨ ∃ kvs, H p = some (.dK kvs) ∧ k = !kvs.isEmpty := e
    rcases e' with ⟨xs, hx, e'⟩ | ⟨xs, hx, e'⟩ | ⟨kvs, hx, e'⟩
    · subst e'
      obtain ⟨its, r, pl, hz⟩ := I.list hx
      have hlen := r.length
      exact wpAny_truthy_list pl.isList (by simp only [List.size_toArray]; omega) ⟨H, I.tok _, by rw [isEmpty_of r]; exact q⟩
    · subst e'
      obtain ⟨its, r, pl, hz⟩ := I.tuple hx
      have hlen := r.length
      exact truthy_tuple pl (by simp only [List.size_toArray]; omega) ⟨H, I.tok _, by rw [isEmpty_of r]; exact q⟩
    · subst e'
      obtain ⟨hz, hS, vs, r, m⟩ : kvs.length ≤ sizeLine ∧ (p == sysModules) = false ∧ ∃ vs, KV kvs vs ∧ s.heap.DictOf (mixKind X.prog X.w) p vs := I.hok p _ hx
      have hlen : kvs.length = vs.length := Paired.length r
      exact wpAny_truthy_dict hS m (by omega) ⟨H, I.tok _, by rw [isEmpty_kv r]; exact q⟩
  | _ => exact (show False from e).elim
theorem pt_truth (ha : PE X a ta) (he : ∀ whole, isTrue a X.env whole = (do let v ← whole; standAt a.pos; holding [v] (truthy v))) :
    PT X a (fun σ H Q => ta σ H fun x H' => ∃ k, TruV X.K x H' k ∧ Q k H') := by
  intro pins s σ H Q I h
  exact isTrue_plain (thn (ha pins s σ H _ I h) fun v s1 ⟨x, H1, I1, r1, q1⟩ => tru_ok pins s1 σ H1 x v Q I1 r1 q1) (he _)
theorem op_add_str : OpR X (binaryOp .Add) (fun x y H Q => ∃ i j, x = .str i ∧ y = .str j ∧ i.length + j.length ≤ sizeLine ∧ Q (.str (i ++ j)) H) := by
  intro pins s σ H x y v u Q I rx ry h
  obtain ⟨i, j, rfl, rfl, hz, q⟩ := h
  obtain ⟨t, rfl⟩ := rx
  obtain ⟨t', rfl⟩ := ry
  exact add_str (fun t' tk => ⟨.str (i ++ j), H, I.tok _, ⟨_, rfl⟩, q⟩) hz
theorem vals1 {x : V} {us : List Value} (r : Vals [x] us) : ∃ u, us = [u] ∧ RelV x u := by
  cases r with
  | cons r1 r2 => cases r2; exact ⟨_, rfl, r1⟩
theorem vals2 {x y : V} {us : List Value} (r : Vals [x, y] us) : ∃ u w', us = [u, w'] ∧ RelV x u ∧ RelV y w' := by
  cases r with
  | cons r1 r2 =>
    cases r2 with
    | cons r3 r4 => cases r4; exact ⟨_, _, rfl, r1, r3⟩
end
end L2
namespace L2
open PySem PySem.Spec PyProof.Rows
section
variable {prog : Program} {w : World} {A : Around} {E : Value → Shared → Prop} {s : Shared} {K : PySem.W.Frag} {x dx C f : Addr} {mA : Str → Option Value} {name : Str} {v : Value}
end
theorem RelO.some_of {v : V} {o : Option Value} (r : RelO (some v) o) : ∃ u, o = some u ∧ RelV v u := by
  cases o with
  | none => exact (show False from r).elim
  | some u => exact ⟨u, rfl, r⟩
section
variable {P : Program} {w : World} {H H' : Hp} {h h' : Heap} {a C dx : Addr} {fs fs' : List (Str × V)}
end
section
variable {X : Cx} {pins : List (Addr × Obj)} {σ : St} {H : Hp} {s : Shared} {a C dx : Addr} {fs : List (Str × V)} {f : Str} {v : V} {A : Around} {E : Value → Shared → Prop}
end
section
variable {X : Cx} {o e value : Expr} {f : Str} {pos pos' tpos : Pos} {ta tv : TE}
end
section
variable {X : Cx} {pins : List (Addr × Obj)} {σ : St} {H : Hp} {s : Shared} {A : Around} {E : Value → Shared → Prop} {Q : Value → Shared → Prop} {c : Value} {b : Bool}
end
end L2
namespace L2
open PySem PySem.Spec PyProof.Rows
structure Room (k : Nat) (A : Around) : Prop where
  hd : A.handled = none
  dp : A.depth + 3 * k + 5 < recursionLimit
  un : A.units + 16 * k + 200 < cLine
theorem Room.mono {j k : Nat} {A : Around} (r : Room k A) (h : j ≤ k) : Room j A := ⟨r.hd, by have := r.dp; omega, by have := r.un; omega⟩
theorem Room.deeper {k : Nat} {A : Around} (r : Room (k + 1) A) (env : Env) : Room k (A.deeper env) :=
  ⟨r.hd, by have := r.dp; show A.depth + 1 + 3 * k + 5 < _; omega, by have := r.un; show A.units + 3 + 16 * k + 200 < _; omega⟩
theorem Room.depth {k : Nat} {A : Around} (r : Room k A) : A.depth < recursionLimit := by have := r.dp; omega
theorem Room.units {k : Nat} {A : Around} (r : Room k A) : A.units + 64 < cLine := by have := r.un; omega
def tNil : TA := fun _ H Q => Q [] H
def tCons (ta : TE) (tr : TA) : TA := fun σ H Q => ta σ H fun x H1 => tr σ H1 fun xs H2 => Q (x :: xs) H2
section
variable {X : Cx} {e : Expr} {es : List Expr} {te : TE} {t : TA} {pos : Pos}
theorem pa_nil : PA X [] tNil := fun _ _ _ _ H Q I h => Calls.spliced_nil ⟨[], H, I, .nil, h⟩
theorem pa_cons (ha : PE X e te) (hr : PA X es t) (hs : starEach (e :: es) X.env = (false, eval e X.env) :: starEach es X.env := by rfl) : PA X (e :: es) (tCons te t) := by
  intro pos pins s σ H Q I h
  rw [hs]
  show wpAny _ _ (spliced ((false, eval e X.env) :: backTo pos (starEach es X.env))) _ _ s
  refine Calls.spliced_cons (thn (ha pins s σ H _ I h) fun u s1 ⟨x, H1, I1, r1, q1⟩ => ?_)
  exact thn (hr pos pins s1 σ H1 _ I1 q1) fun us s2 ⟨xs, H2, I2, r2, q2⟩ => ⟨x :: xs, H2, I2, .cons r1 r2, q2⟩
def tLst (t : TA) : TE := fun σ H Q => t σ H fun xs H1 => xs.length ≤ sizeLine ∧ ∀ p, H1 p = none → Q (.ref p) (upd H1 p (.lst xs))
theorem pe_lst (h : PA X es t) : PE X (.List es pos) (tLst t) := by
  intro pins s σ H Q I hq
  refine wpAny_List_spliced (thn (h pos pins s σ H _ I hq) fun us s1 ⟨xs, H1, I1, r, z, q⟩ => ⟨by rw [← r.length]; exact z, ?_⟩)
  have hf : H1 s1.heap.objs.size = none := I1.hok.fresh (Nat.le_refl _)
  refine ⟨.ref s1.heap.objs.size, upd H1 s1.heap.objs.size (.lst xs), I1.laid (t' := s1.toks) (fun b u e => Heap.get?_push_of_some _ e) (Nat.le_refl _) ?_, rfl, q _ hf⟩
  exact ⟨z, us, 0, r, Heap.get?_push_size _ rfl⟩
end
abbrev Sp := List V → Hp → VK → XK → Prop
abbrev CXT := List Env → Hp → Shared → XK → Value → Shared → Prop
structure Env0 (P : Program) (w : World) (K : PySem.W.Frag) (mg : Str → Option Value) (base : Heap) (A : Around) (outer : List Env) (s : Shared) (H : Hp) : Prop where
  frames : A.frames = some outer
  mod : Mod K mg base
  bs : ∀ b o, base.get? b = some o → s.heap.get? b = some o ∧ H b = none
  bsz : base.objs.size ≤ s.heap.objs.size
  funs : s.heap.FunFrames base outer
  frf : ∀ b ∈ frs outer, H b = none
  hok : HOk P w H s.heap
  bare : AllBare s.gens
def CE (outer : List Env) (P : Program) (w : World) (H : Hp) (s : Shared) (Q : VK) (u : Value) (s' : Shared) : Prop :=
  ∃ v H', s'.os = s.os ∧ AllBare s'.gens ∧ Un (frs outer) [] H H' s.heap s'.heap ∧ HOk P w H' s'.heap ∧ RelV v u ∧ Q v H'
def CR (CX : CXT) (outer : List Env) (P : Program) (w : World) (H : Hp) (s : Shared) (Q : VK) (E : XK) (r : Result) (s' : Shared) : Prop :=
  match r with
  | .ok (.ret u) => CE outer P w H s Q u s'
  | .ok _ => False
  | .error e => CX outer H s E e s'
structure FnOk (P : Program) (w : World) (K : PySem.W.Frag) (mg : Str → Option Value) (base : Heap) (CX : CXT) (k : Nat) (f : Addr) (fd : FuncData) (ps : List Str) (sp : Sp) : Prop where
  len : ∀ vs H Q E, sp vs H Q E → vs.length = ps.length
  run : ∀ (A : Around) (outer : List Env) (s : Shared) (H : Hp) (args : Args) (us : List Value) (vs : List V) (Q : VK) (E : XK), Room k A → Env0 P w K mg base A outer s H → BindsTo s fd args (ps.zip us) → Vals vs us → sp vs H Q E →
    codeAny (model P w) A (.call (.ref f) args) (CR CX outer P w H s Q E) s
theorem FnOk.imp {P : Program} {w : World} {K : PySem.W.Frag} {mg : Str → Option Value} {base : Heap} {CX : CXT} {k : Nat} {f : Addr} {fd : FuncData} {ps : List Str} {sp sp' : Sp} (F : FnOk P w K mg base CX k f fd ps sp)
    (h : ∀ vs H Q E, sp' vs H Q E → sp vs H Q E) : FnOk P w K mg base CX k f fd ps sp' :=
  ⟨fun vs H Q E q => F.len vs H Q E (h _ _ _ _ q), fun A outer s H args us vs Q E hr he hb hv hs => F.run A outer s H args us vs Q E hr he hb hv (h _ _ _ _ hs)⟩
section
variable {X : Cx} {pins : List (Addr × Obj)} {σ : St} {H : Hp} {s s' : Shared}
theorem Inv.env0 (I : Inv X pins σ H s) : Env0 X.prog X.w X.K X.mg X.base X.A X.stack s H :=
  ⟨I.ok.frames, I.ok.mod, I.bs, Nat.le_trans I.ok.bsz I.sz, I.stack, I.stkFree, I.hok, I.bare⟩
theorem Inv.after {Q : VK} {u : Value} (I : Inv X pins σ H s) (h : CE X.stack X.prog X.w H s Q u s') : EP X pins σ Q u s' := by
  obtain ⟨v, H', os, bare, un, hok, r, q⟩ := h
  obtain ⟨hh, g, d, t, os'⟩ := s'
  obtain rfl : os' = s.os := os
  exact ⟨v, H', I.call (h' := hh) (g' := g) (d' := d) (t' := t) (ch := []) un hok bare (fun b z => absurd z (by simp)), r, q⟩
end
def tCall (sp : Sp) (dvs : List V) (E : XK) (t : TA) : TE := fun σ H Q => t σ H fun vs H1 => sp (vs ++ dvs) H1 Q E
def Binds (K : PySem.W.Frag) (fd : FuncData) (ps : List Str) (ds : List Value) : Prop :=
  ∀ (s : Shared) (us : List Value), K.In s.heap → (us ++ ds).length = ps.length → BindsTo s fd ⟨us, []⟩ (ps.zip (us ++ ds))
theorem Binds.all {K : PySem.W.Frag} {fd : FuncData} {ps : List Str} (h : ∀ us : List Value, us.length = ps.length → bindArgs fd ⟨us, []⟩ = pure (ps.zip us)) : Binds K fd ps [] := fun s us _ hl => by
  rw [List.append_nil] at hl ⊢
  exact .of_eq (h us hl)
def Passes (CX : CXT) (X : Cx) (E : XK) : Prop := ∀ (pins : List (Addr × Obj)) (σ : St) (H : Hp) (s : Shared) (e : Value) (s' : Shared), Inv X pins σ H s → CX X.stack H s E e s' → X.xe e s'
section
variable {X : Cx} {CX : CXT} {k : Nat} {f C : Addr} {fd : FuncData} {ps : List Str} {sp : Sp} {dvs : List V} {ds : List Value} {E : XK} {x m : Str} {p pos apos : Pos} {e o : Expr} {es : List Expr} {ta : TE} {t : TA}
theorem run_fn {pins : List (Addr × Obj)} {σ : St} {H : Hp} {s : Shared} {Q : VK} {us : List Value} {vs : List V} (F : FnOk X.prog X.w X.K X.mg X.base CX k f fd ps sp) (hr : Room k X.A) (hb : Binds X.K fd ps ds) (hd : Vals dvs ds) (hx : Passes CX X E)
    (I : Inv X pins σ H s) (r : Vals vs us) (h : sp (vs ++ dvs) H Q E) : wpAny (model X.prog X.w) X.A (call (.ref f) us) (EP X pins σ Q) X.xe s := by
  have r2 : Vals (vs ++ dvs) (us ++ ds) := r.append hd
  have hl : (us ++ ds).length = ps.length := by rw [← r2.length]; exact F.len _ _ _ _ h
  refine wpAny_call (codeAny_mono (F.run X.A X.stack s H ⟨us, []⟩ (us ++ ds) (vs ++ dvs) Q E hr I.env0 (hb s us I.kIn hl) r2 h) fun r s' hq => ?_)
  cases r with
  | error e => exact hx pins σ H s e s' I hq
  | ok fl =>
    cases fl with
    | ret u => exact I.after hq
    | next => exact False.elim hq
    | brk => exact False.elim hq
    | cont => exact False.elim hq
theorem pe_call (F : FnOk X.prog X.w X.K X.mg X.base CX k f fd ps sp) (hr : Room k X.A) (hg : Gl X x) (hm : X.mg x = some (.ref f)) (hk : PySem.W.keepIn X.K (.ref f) = true) (hb : Binds X.K fd ps ds) (hd : Vals dvs ds) (hx : Passes CX X E)
    (ha : PA X (e :: es) t) (hdb : (x == ("__debug__" : Str)) = false := by decide) (he : starEach (e :: es) X.env = (false, eval e X.env) :: starEach es X.env := by rfl) (hpl : (backTo pos (starEach es X.env)).any (·.1) = false := by rfl) :
    PE X (.Call (.Name x p) (e :: es) [] pos) (tCall sp dvs E t) := by
  intro pins s σ H Q I h
  refine wpAny_Call_Name_kw (ld_glob I hg hm ?_ hdb)
  refine PySem.W.callWith_K (h₀ := X.base) I.ok.mod.kin hk (thn (ha pos pins s σ H _ I h) fun us s1 ⟨vs, H1, I1, r, q⟩ => ⟨I1.kIn, ?_⟩) he hpl
  exact run_fn F hr hb hd hx I1 r q
end
section
variable {X : Cx} {CX : CXT} {k : Nat} {f C : Addr} {fd : FuncData} {ps ks : List Str} {sp : Sp} {E : XK} {x m : Str} {p pos apos kpos : Pos} {e o : Expr} {es : List Expr} {kws : List Keyword} {te ta : TE} {t tk : TA} {nm : Option Str}
variable {g : List Value → List Value → List Value} {gV : List V → List V → List V}
end
structure FnScope (N P : List Str) (sc : Scope) : Prop where
  kind : sc.kind = .function
  co : sc.isCoroutine = false
  gen : sc.isGenerator = false
  nd : N.Nodup
  pre : N.take P.length = P
  par : ∀ x ∈ P, sc.names.lookup x = some .local ∨ sc.names.lookup x = some .cell
  nofree : ∀ y ∈ sc.names, y.2 ≠ .free
theorem bindL_out {kindOf : Str → Option NameKind} {x : Str} : ∀ {binds : List (Str × Value)} {m : Str → Option Value}, (∀ v, (x, v) ∉ binds) → bindL kindOf binds m x = m x
  | [], _, _ => rfl
  | (n, v) :: r, m, h => by
    unfold bindL
    rw [bindL_out fun w hw => h w (List.mem_cons_of_mem _ hw)]
    split
    · have : x ≠ n := by rintro rfl; exact h v List.mem_cons_self
      simp [this]
    · rfl
theorem bindC_out {kindOf : Str → Option NameKind} {x : Str} : ∀ {binds : List (Str × Value)} {m : Str → Option Value}, (∀ v, (x, v) ∉ binds) → bindC kindOf binds m x = m x
  | [], _, _ => rfl
  | (n, v) :: r, m, h => by
    unfold bindC
    rw [bindC_out fun w hw => h w (List.mem_cons_of_mem _ hw)]
    split
    · rfl
    · have : x ≠ n := by rintro rfl; exact h v List.mem_cons_self
      simp [this]
theorem bindL_get {kindOf : Str → Option NameKind} {x : Str} {v : Value} : ∀ {P : List Str} {vs : List Value} {i : Nat} {m : Str → Option Value}, P.Nodup → P[i]? = some x → vs[i]? = some v → kindOf x = some .local →
    bindL kindOf (P.zip vs) m x = some v
  | [], _, _, _, _, h, _, _ => by simp at h
  | _ :: _, [], _, _, _, _, h, _ => by simp at h
  | p :: P, w :: vs, 0, m, nd, h1, h2, hk => by
    simp at h1 h2; subst h1; subst h2
    show bindL kindOf ((p, w) :: P.zip vs) m p = _
    unfold bindL
    rw [bindL_out fun v hv => (List.nodup_cons.mp nd).1 (List.of_mem_zip hv).1, if_pos hk]
    simp
  | p :: P, w :: vs, i + 1, m, nd, h1, h2, hk => by
    show bindL kindOf ((p, w) :: P.zip vs) m x = _
    unfold bindL
    exact bindL_get (i := i) (List.nodup_cons.mp nd).2 (by simpa using h1) (by simpa using h2) hk
theorem bindC_get {kindOf : Str → Option NameKind} {x : Str} {v : Value} : ∀ {P : List Str} {vs : List Value} {i : Nat} {m : Str → Option Value}, P.Nodup → P[i]? = some x → vs[i]? = some v → kindOf x ≠ some .local →
    bindC kindOf (P.zip vs) m x = some v
  | [], _, _, _, _, h, _, _ => by simp at h
  | _ :: _, [], _, _, _, _, h, _ => by simp at h
  | p :: P, w :: vs, 0, m, nd, h1, h2, hk => by
    simp at h1 h2; subst h1; subst h2
    show bindC kindOf ((p, w) :: P.zip vs) m p = _
    unfold bindC
    rw [bindC_out fun v hv => (List.nodup_cons.mp nd).1 (List.of_mem_zip hv).1, if_neg hk]
    simp
  | p :: P, w :: vs, i + 1, m, nd, h1, h2, hk => by
    show bindC kindOf ((p, w) :: P.zip vs) m x = _
    unfold bindC
    exact bindC_get (i := i) (List.nodup_cons.mp nd).2 (by simpa using h1) (by simpa using h2) hk
def start (N : List Str) (vs : List V) : St := vs.map some ++ List.replicate (N.length - vs.length) none
def cxOf (CX : CXT) (P : Program) (w : World) (K : PySem.W.Frag) (mg : Str → Option Value) (base : Heap) (N : List Str) (qual : Str) (scope : Scope) (f : Addr) (cd : Value) (A : Around) (outer : List Env) (s : Shared) (H : Hp) (E : XK) : Cx where
  prog := P
  w := w
  K := K
  mg := mg
  base := base
  A := A.deeper (envOfC qual scope s.heap.objs.size f cd)
  N := N
  s₀ := s
  H₀ := H
  env := envOfC qual scope s.heap.objs.size f cd
  outer := outer
  stack := envOfC qual scope s.heap.objs.size f cd :: outer
  ex := []
  calm := true
  fn := fun _ => true
  pn := []
  xe := fun e s' => wpAny (model P w) (A.deeper (envOfC qual scope s.heap.objs.size f cd)) (leaving (envOfC qual scope s.heap.objs.size f cd) e) (fun _ s'' => CX outer H s E e s'') (fun e' s'' => CX outer H s E e' s'') s'
theorem cell_has {sc : Scope} {n : Nat} {x : Str} (h : sc.names.lookup x = some .cell) : ∃ c, (cellsFrom n sc.names []).lookup x = some c := by
  have q := PySem.W.cellsFrom_some sc.names n [] (.inl h)
  exact Option.isSome_iff_exists.mp q
theorem inv_start {CX : CXT} {P : Program} {w : World} {K : PySem.W.Frag} {mg : Str → Option Value} {base : Heap} {N ps : List Str} {qual : Str} {scope : Scope} {f : Addr} {cd : Value} {A : Around} {outer : List Env} {s s1 : Shared} {H : Hp} {E : XK} {us : List Value} {vs : List V}
    (S : FnScope N ps scope) (hd : A.handled = none) (e0 : Env0 P w K mg base A outer s H) (hl : vs.length = ps.length) (r : Vals vs us)
    (x : InCallC s s.heap.objs.size (bindL (envOfC qual scope s.heap.objs.size f cd).kindOf (ps.zip us) fun _ => none) (cellsFrom (s.heap.objs.size + 1) scope.names []) (bindC (envOfC qual scope s.heap.objs.size f cd).kindOf (ps.zip us) fun _ => none) s1) :
    Inv (cxOf CX P w K mg base N qual scope f cd A outer s H E) [] (start N vs) H s1 := by
  have hpl : ps.length ≤ N.length := by have := congrArg List.length S.pre; rw [List.length_take] at this; omega
  obtain ⟨h1, tk, rfl, hk⟩ := x.done
  have noA : ∀ b : Addr, b ∉ (cxOf CX P w K mg base N qual scope f cd A outer s H E).ex := fun b z => absurd (show b ∈ ([] : List Addr) from z) (by simp)
  refine ⟨⟨e0.mod, S.kind, rfl, rfl, Nat.le_refl _, fun y z c h1 h2 => ?_, fun y hy => ?_, fun y c _ h => ?_, fun _ => hd, Around.frames_deeper e0.frames, .inr ⟨rfl, rfl⟩, fun b z => absurd z (noA b), e0.bs, e0.bsz, fun b _ _ => noA b, fun b z => absurd z (noA b), e0.funs, e0.frf⟩,
    rfl, e0.bare, Un.kept hk, ⟨_, x.toInCall.ns, fun i y v h1 h2 h3 => ?_⟩, fun y c h => ⟨_, x.cell y c h⟩, e0.hok.fresh (Nat.le_refl _), fun y c h => ?_, fun p hp => absurd (show p ∈ ([] : List (Addr × Obj)) from hp) (by simp), e0.hok.kept hk, ?_⟩
  · exact name_of_addr x.apart (PySem.mem_of_lookup h1) (PySem.mem_of_lookup h2)
  · have hy : scope.names.lookup y = some .cell ∨ scope.names.lookup y = some .free := hy
    rcases hy with hy | hy
    · exact cell_has hy
    · exact absurd rfl (S.nofree _ (PySem.mem_of_lookup hy))
  · exact Nat.le_of_lt (x.above y c (PySem.mem_of_lookup h))
  · have hi : i < vs.length := by
      unfold start at h2
      by_cases hi : i < vs.length
      · exact hi
      · rw [List.getElem?_append_right (by simpa using hi)] at h2
        rw [List.getElem?_replicate] at h2
        split at h2 <;> cases h2
    have ha : vs[i]? = some v := by
      unfold start at h2
      rw [List.getElem?_append_left (by simpa using hi), List.getElem?_map] at h2
      cases e : vs[i]? with
      | none => rw [e] at h2; cases h2
      | some a => rw [e] at h2; cases h2; rfl
    obtain ⟨u, hu, rv⟩ := r.get ha
    have hp : ps[i]? = some y := by
      rw [← S.pre, List.getElem?_take_of_lt (by omega)]; exact h1
    have ndP : ps.Nodup := by rw [← S.pre]; exact S.nd.sublist (List.take_sublist _ _)
    refine ⟨u, rv, ?_⟩
    rcases S.par y (List.mem_of_getElem? hp) with k | k
    · exact .inl ⟨k, bindL_get ndP hp hu k⟩
    · obtain ⟨c, e⟩ := cell_has (n := s.heap.objs.size + 1) k
      refine .inr ⟨.inl k, c, e, ?_⟩
      have q := x.cell y c e
      rw [bindC_get ndP hp hu (by show scope.names.lookup y ≠ _; rw [k]; decide)] at q
      exact q
  · exact e0.hok.fresh (Nat.le_of_lt (x.above y c (PySem.mem_of_lookup h)))
  · unfold start
    show _ = N.length
    rw [List.length_append, List.length_map, List.length_replicate]
    omega
theorem fn_of {CX : CXT} {P : Program} {w : World} {K : PySem.W.Frag} {mg : Str → Option Value} {base : Heap} {k : Nat} {f : Addr} {name qual : Str} {params : Arguments} {body : List Stmt} {scope : Scope} {dV kV doc pm cdv ct oc : Value} {an od : Option Addr}
    {osl : Array (Option Value)} {N ps : List Str} {sp : Sp} (lk : K.lookup f = some ⟨oc, od, .func (PySem.W.fnOf name qual params body scope dV kV doc pm an cdv ct), osl⟩) (hcd : PySem.W.codeIn K cdv qual = true) (S : FnScope N ps scope)
    (len : ∀ vs H Q E, sp vs H Q E → vs.length = ps.length)
    (hbody : ∀ (A : Around) (outer : List Env) (s : Shared) (H : Hp) (vs : List V) (Q : VK) (E : XK), Room k (A.deeper (envOfC qual scope s.heap.objs.size f cdv)) → sp vs H Q E →
      ∃ t, PSs (cxOf CX P w K mg base N qual scope f cdv A outer s H E) body t ∧ t { nx := fun _ H' => Q .non H', rt := Q } (start N vs) H) :
    FnOk P w K mg base CX (k + 1) f (PySem.W.fnOf name qual params body scope dV kV doc pm an cdv ct) ps sp := by
  refine ⟨len, fun A outer s H args us vs Q E hr e0 hb r hsp => ?_⟩
  have hl := len _ _ _ _ hsp
  have KX : K.In s.heap := e0.mod.kin.keeps fun b o e => (e0.bs b o e).1
  have lim : s.heap.NoLimit := e0.mod.nolimit.keeps fun b o e => (e0.bs b o e).1
  have hkind : ∀ y ∈ ps.zip us, scope.names.lookup y.1 = some .local ∨ (scope.names.lookup y.1 = some .cell ∧ ((cellsFrom (s.heap.objs.size + 1) scope.names []).lookup y.1).isSome = true) := fun ⟨n, v⟩ hy => by
    rcases S.par n (List.of_mem_zip hy).1 with q | q
    · exact .inl q
    · exact .inr ⟨q, PySem.W.cellsFrom_some _ _ _ (.inl q)⟩
  refine codeAny_call_function hr.depth (KX _ _ lk) rfl S.co S.gen rfl (PySem.W.codeRec_of KX hcd) (hb _ _ _ _ ?_)
  refine wpAny_newFunctionEnv_cells S.kind hkind fun env he s1 x => ?_
  subst he
  refine ⟨lim.keeps x.toInCall.keep, codeAny_func ?_⟩
  obtain ⟨t, ht, hq⟩ := hbody A outer s H vs Q E (hr.deeper _) hsp
  have I : Inv (cxOf CX P w K mg base N qual scope f cdv A outer s H E) [] (start N vs) H s1 := inv_start S hr.hd e0 hl r x
  refine wpAny_mono (ht [] s1 (start N vs) H _ I hq) (fun fl s' hs => ?_) fun e s' hs => hs
  have fin : ∀ {σ' : St} {H' : Hp} {v : V} {u : Value}, Inv (cxOf CX P w K mg base N qual scope f cdv A outer s H E) [] σ' H' s' → RelV v u → Q v H' → CE outer P w H s Q u s' :=
    fun {σ' H' v u} J rv q => ⟨v, H', J.os, J.bare, J.base, J.hok, rv, q⟩
  cases fl with
  | ret u =>
    obtain ⟨v, σ', H', J, rv, q⟩ := hs
    exact fin J rv q
  | next =>
    obtain ⟨σ', H', J, q⟩ := hs
    exact fin (v := V.non) (u := Value.none) J rfl q
  | brk =>
    obtain ⟨_, _, _, q⟩ := hs
    exact False.elim q
  | cont =>
    obtain ⟨_, _, _, q⟩ := hs
    exact False.elim q
end L2
namespace L2
open PySem PySem.Spec PyProof.Rows
section
variable {X : Cx} {x : Str} {p pos : Pos} {e : Expr} {es : List Expr} {t : TA} {id T : String} {r : List V → Hp → VK → Prop}
def tCB (r : List V → Hp → VK → Prop) (t : TA) : TE := fun σ H Q => t σ H fun vs H1 => r vs H1 Q
theorem pe_callB (hc : CallR X (.builtin id) r) (hg : Gl X x) (hm : X.mg x = none) (hv : bootBuiltins x = some (.builtin id)) (ha : PA X (e :: es) t) (hn : x ≠ "__name__" := by decide) (hdb : (x == ("__debug__" : Str)) = false := by decide)
    (he : starEach (e :: es) X.env = (false, eval e X.env) :: starEach es X.env := by rfl) (hpl : (backTo pos (starEach es X.env)).any (·.1) = false := by rfl) : PE X (.Call (.Name x p) (e :: es) [] pos) (tCB r t) := by
  intro pins s σ H Q I h
  refine wpAny_Call_Name_kw (ld_blt I hg hm hv ?_ hn hdb)
  exact PyProof.Rows.callWith_builtin1 (thn (ha pos pins s σ H _ I h) fun us s1 ⟨vs, H1, I1, r1, q1⟩ => hc pins s1 σ H1 vs us Q I1 r1 q1) he hpl
theorem pe_callTy (hc : CallR X (.type T) r) (hg : Gl X x) (hm : X.mg x = none) (hv : bootBuiltins x = some (.type T)) (ha : PA X (e :: es) t) (hn : x ≠ "__name__" := by decide) (hdb : (x == ("__debug__" : Str)) = false := by decide)
    (he : starEach (e :: es) X.env = (false, eval e X.env) :: starEach es X.env := by rfl) (hpl : (backTo pos (starEach es X.env)).any (·.1) = false := by rfl) : PE X (.Call (.Name x p) (e :: es) [] pos) (tCB r t) := by
  intro pins s σ H Q I h
  refine wpAny_Call_Name_kw (ld_blt I hg hm hv ?_ hn hdb)
  exact PyProof.Rows.callWith_type1 (thn (ha pos pins s σ H _ I h) fun us s1 ⟨vs, H1, I1, r1, q1⟩ => hc pins s1 σ H1 vs us Q I1 r1 q1) he hpl
end
end L2
namespace HT
open PySem PyProof.Rows
section
open PySem.SeqAt
open PySem.AutoSeq1 (wpAny_loadPart')
open PySem.MeetsSeq PySem.MeetsSeq2 PySem.MeetsSeq3
end
section
variable {prog : Program} {w : World} {A : Around} {E : Value → Shared → Prop} {s : Shared}
def sIx (n d : Nat) : Option Int → Nat
  | none => d
  | some v => if v < 0 then (v + (n : Int)).toNat else min v.toNat n
theorem sIx_none (n d : Nat) : sIx n d none = d := rfl
theorem sIx_nat (n d k : Nat) : sIx n d (some (k : Int)) = min k n := by
  show (if (k : Int) < 0 then ((k : Int) + (n : Int)).toNat else min (k : Int).toNat n) = min k n
  rw [if_neg (by omega), Int.toNat_natCast]
end
end HT
namespace L2
open PySem PySem.Spec PyProof.Rows
abbrev TO := St → Hp → (Option Int → Hp → Prop) → Prop
def PO (X : Cx) (e : Option Expr) (t : TO) : Prop :=
  ∀ (pins : List (Addr × Obj)) (s : Shared) (σ : St) (H : Hp) (Q : Option Int → Hp → Prop), Inv X pins σ H s → t σ H Q →
    wpAny (model X.prog X.w) X.A (evalPart e X.env) (fun u s' => ∃ o H', Inv X pins σ H' s' ∧ IsPart u o ∧ Q o H') X.xe s
def tNoPart : TO := fun _ H Q => Q none H
def tPart (t : TE) : TO := fun σ H Q => t σ H fun x H1 => ∃ i, x = .int i ∧ Q (some i) H1
section
variable {X : Cx} {e : Expr} {te : TE} {lo hi : Option Expr} {tl th : TO} {pos p2 : Pos}
theorem po_none : PO X none tNoPart := by
  intro pins s σ H Q I h
  rw [evalPart_none]
  exact wpAny_pure ⟨none, H, I, .none, h⟩
theorem po_some (h : PE X e te) : PO X (some e) (tPart te) := by
  intro pins s σ H Q I hw
  rw [evalPart_some]
  refine thn (h pins s σ H _ I hw) fun u s1 ⟨x, H1, I1, r1, q1⟩ => ?_
  obtain ⟨i, rfl, q⟩ := q1
  obtain ⟨t, rfl⟩ := r1
  exact ⟨some i, H1, I1, .int i t, q⟩
def SlR (X : Cx) (r : V → Option Int → Option Int → Hp → VK → Prop) : Prop :=
  ∀ (pins : List (Addr × Obj)) (s : Shared) (σ : St) (H : Hp) (x : V) (v vl vu : Value) (lo hi : Option Int) (sl : Addr) (Q : VK), Inv X pins σ H s → RelV x v → s.heap.IsSliceOf sl vl vu .none → IsPart vl lo → IsPart vu hi → r x lo hi H Q →
    ∃ T id, typeLookup (.type T) "__getitem__" = pure (some (.builtin id)) ∧ s.TypeIs v T ∧ wpAny (model X.prog X.w) X.A (getItem v (.ref sl)) (EP X pins σ Q) X.xe s
theorem SlR.or {r r' : V → Option Int → Option Int → Hp → VK → Prop} (h : SlR X r) (h' : SlR X r') : SlR X (fun x lo hi H Q => r x lo hi H Q ∨ r' x lo hi H Q) := by
  intro pins s σ H x v vl vu lo hi sl Q I rx hs pl pu q
  rcases q with q | q
  · exact h pins s σ H x v vl vu lo hi sl Q I rx hs pl pu q
  · exact h' pins s σ H x v vl vu lo hi sl Q I rx hs pl pu q
def tSl (r : V → Option Int → Option Int → Hp → VK → Prop) (te : TE) (tl th : TO) : TE := fun σ H Q => te σ H fun x H1 => tl σ H1 fun l H2 => th σ H2 fun u H3 => r x l u H3 Q
theorem pe_slice {r : V → Option Int → Option Int → Hp → VK → Prop} (hr : SlR X r) (he : PE X e te) (hl : PO X lo tl) (hu : PO X hi th) : PE X (.Subscript e (.Slice lo hi none p2) pos) (tSl r te tl th) := by
  intro pins s σ H Q I h
  refine Subscript_ (thn (he pins s σ H _ I h) fun v s1 ⟨x, H1, I1, r1, q1⟩ => ?_)
  refine wpAny_Slice (thn (hl pins s1 σ H1 _ I1 q1) fun vl s2 ⟨l, H2, I2, pl, q2⟩ => thn (hu pins s2 σ H2 _ I2 q2) fun vu s3 ⟨u, H3, I3, pu, q3⟩ => ?_)
  rw [evalPart_none]
  refine wpAny_pure ?_
  have I4 : Inv X pins σ H3 { s3 with heap := s3.heap.push { cls := .type "slice", data := .fields #[vl, vu, .none] } } := I3.kept (t' := s3.toks) fun b ob q => Heap.get?_push_of_some _ q
  obtain ⟨T, id, hT, ht, hg⟩ := hr pins { s3 with heap := s3.heap.push { cls := .type "slice", data := .fields #[vl, vu, .none] } } σ H3 x v vl vu l u s3.heap.objs.size Q I4 r1 (Heap.IsSliceOf.new ..) pl pu q3
  show wpAny (model X.prog X.w) X.A (subscriptTail e (.Slice lo hi none p2) v (.ref s3.heap.objs.size)) (EP X pins σ Q) X.xe { s3 with heap := s3.heap.push { cls := .type "slice", data := .fields #[vl, vu, .none] } }
  exact tail_any (ops := [.ref s3.heap.objs.size, v]) ht hT hg (by with_unfolding_all rfl)
def cutV (xs : List V) (lo hi : Option Int) : List V := (xs.drop (HT.sIx xs.length 0 lo)).take (HT.sIx xs.length xs.length hi - HT.sIx xs.length 0 lo)
theorem cutV_length (xs : List V) (lo hi : Option Int) : (cutV xs lo hi).length ≤ xs.length := by
  unfold cutV
  rw [List.length_take, List.length_drop]
  omega
end
end L2
namespace L2
open PySem PySem.Spec PyProof.Rows
def ixN (n : Nat) (i : Int) : Option Nat := if 0 ≤ i then (if i < n then some i.toNat else none) else if -(n : Int) ≤ i then some (i + n).toNat else none
def atI {α : Type} (xs : List α) (i : Int) : Option α := (ixN xs.length i).bind fun j => xs[j]?
theorem ixN_seq {n : Nat} {i : Int} {j : Nat} (h : ixN n i = some j) : seqIndex? i n = some j ∧ j < n ∧ -(n : Int) ≤ i ∧ i < n := by
  unfold ixN at h
  by_cases h0 : 0 ≤ i
  · rw [if_pos h0] at h
    by_cases h1 : i < n
    · rw [if_pos h1] at h
      have e : i.toNat = j := Option.some.inj h
      exact ⟨by rw [seqIndex_of h0 h1, e], by omega, by omega, h1⟩
    · rw [if_neg h1] at h; cases h
  · rw [if_neg h0] at h
    by_cases h1 : -(n : Int) ≤ i
    · rw [if_pos h1] at h
      have e : (i + n).toNat = j := Option.some.inj h
      exact ⟨by rw [seqIndex_neg (by omega) h1, e], by omega, h1, by omega⟩
    · rw [if_neg h1] at h; cases h
theorem atI_get {α : Type} {xs : List α} {i : Int} {v : α} (h : atI xs i = some v) : ∃ j, seqIndex? i xs.length = some j ∧ xs[j]? = some v ∧ j < xs.length ∧ -(xs.length : Int) ≤ i ∧ i < xs.length := by
  unfold atI at h
  cases e : ixN xs.length i with
  | none => rw [e] at h; cases h
  | some j =>
    rw [e] at h
    obtain ⟨h1, h2, h3, h4⟩ := ixN_seq e
    exact ⟨j, h1, h, h2, h3, h4⟩
theorem atI_nat {α : Type} {xs : List α} {j : Nat} {v : α} (h : xs[j]? = some v) : atI xs (j : Int) = some v := by
  have hj : j < xs.length := (List.getElem?_eq_some_iff.mp h).1
  have e : ixN xs.length (j : Int) = some j := by
    unfold ixN
    rw [if_pos (by omega), if_pos (by omega)]; simp
  unfold atI; rw [e]; exact h
def PlainIx (b : Expr) : Prop := ∀ o i, subscripted b false o i = operate [o, i] (getItem o i)
def IxR (X : Cx) (r : R2) : Prop :=
  ∀ (value slice : Expr) (pins : List (Addr × Obj)) (s : Shared) (σ : St) (H : Hp) (x y : V) (v u : Value) (Q : VK), Inv X pins σ H s → RelV x v → RelV y u → r x y H Q →
    subscripted slice false v u = operate [v, u] (getItem v u) → wpAny (model X.prog X.w) X.A (subscriptTail value slice v u) (EP X pins σ Q) X.xe s
def MtR (X : Cx) (id : String) (r : V → List V → Hp → VK → Prop) : Prop :=
  ∀ (pins : List (Addr × Obj)) (s : Shared) (σ : St) (H : Hp) (x : V) (xs : List V) (v : Value) (us : List Value) (Q : VK), Inv X pins σ H s → RelV x v → Vals xs us → r x xs H Q →
    wpAny (model X.prog X.w) X.A (call (.builtin id) (v :: us)) (EP X pins σ Q) X.xe s
section
variable {X : Cx} {a b : Expr} {ta tb : TE} {pos : Pos}
theorem IxR.or {r r' : R2} (h : IxR X r) (h' : IxR X r') : IxR X (fun x y H Q => r x y H Q ∨ r' x y H Q) := by
  intro value slice pins s σ H x y v u Q I rx ry q hs
  rcases q with q | q
  · exact h value slice pins s σ H x y v u Q I rx ry q hs
  · exact h' value slice pins s σ H x y v u Q I rx ry q hs
theorem pe_ix {r : R2} (hr : IxR X r) (ha : PE X a ta) (hb : PE X b tb) (hs : PlainIx b) : PE X (.Subscript a b pos) (tOp r ta tb) := by
  intro pins s σ H Q I h
  exact Subscript_ (binT ha hb I h fun v u s2 x y H2 I2 rx ry q => hr a b pins s2 σ H2 x y v u Q I2 rx ry q (hs _ _))
def rIxL (K : PySem.W.Frag) : R2 := fun x y H Q => ∃ p xs i v, x = .ref p ∧ y = .int i ∧ SqL K H p xs ∧ atI xs i = some v ∧ Q v H
def rIxT (K : PySem.W.Frag) : R2 := fun x y H Q => ∃ p xs i v, x = .ref p ∧ y = .int i ∧ SqT K H p xs ∧ atI xs i = some v ∧ Q v H
def rIxS : R2 := fun x y H Q => ∃ z i c, x = .str z ∧ y = .int i ∧ z.length ≤ sizeLine ∧ atI z.cps.toList i = some c ∧ Q (.str ⟨#[c]⟩) H
theorem ix_list : IxR X (rIxL X.K) := by
  intro value slice pins s σ H x y v u Q I rx ry h hs
  obtain ⟨p, xs, i, z, rfl, rfl, hq, he, q⟩ := h
  cases rx
  obtain ⟨t, rfl⟩ := ry
  obtain ⟨its, r, pl, hz⟩ := I.list hq
  obtain ⟨j, h1, h2, h3, h4, h5⟩ := atI_get he
  obtain ⟨w, ew, rw'⟩ := r.get h2
  have hl := r.length
  have hn := line63
  have fin : EP X pins σ Q w s := ⟨z, H, I, rw', q⟩
  by_cases h0 : 0 ≤ i
  · have hj : i.toNat = j := by
      rw [seqIndex_of h0 h5] at h1
      exact Option.some.inj h1
    exact item_listR pl.isList h0 (by omega) (by rw [hj]; simpa using ew) fin hs
  · have hj : (i + (its.toArray.size : Int)).toNat = j := by
      rw [seqIndex_neg (by omega) h4] at h1
      rw [List.size_toArray, ← hl]
      exact Option.some.inj h1
    exact subscriptTail_builtinR (x := w) pl.isList.typeIs slot_list_getitem.lookup
      (wpAny_getItem_list_neg (Q := fun r s' => r = w ∧ EP X pins σ Q r s') pl.isList (by omega) (by rw [List.size_toArray] <;> omega) (by omega) (by rw [hj]; simpa using ew) ⟨rfl, fin⟩) hs
theorem ix_tup : IxR X (rIxT X.K) := by
  intro value slice pins s σ H x y v u Q I rx ry h hs
  obtain ⟨p, xs, i, z, rfl, rfl, hq, he, q⟩ := h
  cases rx
  obtain ⟨t, rfl⟩ := ry
  obtain ⟨its, r, pl, hz⟩ := I.tuple hq
  obtain ⟨j, h1, h2, h3, h4, h5⟩ := atI_get he
  obtain ⟨w, ew, rw'⟩ := r.get h2
  have hl := r.length
  have hn := line63
  have fin : EP X pins σ Q w s := ⟨z, H, I, rw', q⟩
  exact subscriptTail_builtinR (x := w) pl.typeIs slot_tuple_getitem.lookup
    (getItem_tuple (j := j) (Q := fun r s' => r = w ∧ EP X pins σ Q r s') pl (by omega) (by omega) (by rw [List.size_toArray, ← hl]; exact h1) (by simpa using ew) ⟨rfl, fin⟩) hs
theorem ix_str : IxR X rIxS := by
  intro value slice pins s σ H x y v u Q I rx ry h hs
  obtain ⟨z, i, c, rfl, rfl, hz, he, q⟩ := h
  obtain ⟨t, rfl⟩ := rx
  obtain ⟨t', rfl⟩ := ry
  obtain ⟨j, h1, h2, h3, h4, h5⟩ := atI_get he
  have hl : z.cps.toList.length = z.length := by simp [Str.length]
  rw [hl] at h1 h4 h5
  have hn := line63
  exact tail_any (typeIs_str s z t) slot_str_getitem.lookup (getItem_str (c := c) (by
    have e1 : decide (i < -(2 ^ 63 : Int)) = false := decide_eq_false (by omega)
    have e2 : decide (i ≥ 2 ^ 63) = false := decide_eq_false (by omega)
    rw [e1, e2, Bool.or_false]) (by rw [h1]; simpa using h2) ⟨.str ⟨#[c]⟩, H, I.tok _, ⟨_, rfl⟩, q⟩) hs
def rIx (K : PySem.W.Frag) : R2 := fun x y H Q => rIxL K x y H Q ∨ rIxT K x y H Q ∨ rIxS x y H Q
theorem ix_seq : IxR X (rIx X.K) := ix_list.or (ix_tup.or ix_str)
theorem mapSeq_set (its : List Value) (n j : Nat) (u : Value) : Obj.mapSeq (·.setIfInBounds j u) { cls := .type "list", data := .seq its.toArray n } = { cls := .type "list", data := .seq (its.set j u).toArray n } := by
  simp [Obj.mapSeq]
theorem Inv.lst {pins : List (Addr × Obj)} {σ : St} {H : Hp} {s : Shared} {p : Addr} {xs : List V} (I : Inv X pins σ H s) (h : H p = some (.lst xs)) :
    ∃ (its : List Value) (n : Nat), Vals xs its ∧ s.heap.get? p = some { cls := .type "list", data := .seq its.toArray n } ∧ xs.length ≤ sizeLine := by
  obtain ⟨z, its, n, r, e⟩ := I.hok p _ h
  exact ⟨its, n, r, e, z⟩
theorem Inv.lstUpd {pins : List (Addr × Obj)} {σ : St} {H : Hp} {s : Shared} {p : Addr} {xs ys : List V} {its its' : List Value} {n n' : Nat} {f : Obj → Obj} (I : Inv X pins σ H s) (h : H p = some (.lst xs))
    (ho : s.heap.get? p = some { cls := .type "list", data := .seq its.toArray n }) (hf : f { cls := .type "list", data := .seq its.toArray n } = { cls := .type "list", data := .seq its'.toArray n' }) (r : Vals ys its') (hz : ys.length ≤ sizeLine) (t : Nat) :
    Inv X pins σ (upd H p (.lst ys)) { s with heap := s.heap.update p f, toks := t } := by
  have e : (s.heap.update p f).get? p = some { cls := .type "list", data := .seq its'.toArray n' } := by
    rw [Heap.get?_update_self f ho (by rw [hf] <;> rfl), hf]
  refine I.write (x := p) (e := p) (by rw [h]; trivial) (.inl rfl) (fun b u hb q => (Heap.get?_update_other _ _ (Ne.symm hb)).trans q) ⟨_, e⟩ ?_
  exact ⟨hz, its', n', r, e⟩
def rSetL : V → V → V → Hp → (Hp → Prop) → Prop := fun o i v H Q => ∃ p xs k j, o = .ref p ∧ i = .int k ∧ H p = some (.lst xs) ∧ ixN xs.length k = some j ∧ Q (upd H p (.lst (xs.set j v)))
theorem set_list : PSet X rSetL := by
  intro pins s σ H o i v ov iv u Q I ro ri rv h
  obtain ⟨p, xs, k, j, rfl, rfl, hp, hj, q⟩ := h
  cases ro
  obtain ⟨t, rfl⟩ := ri
  obtain ⟨its, n, r, ho, hz⟩ := I.lst hp
  obtain ⟨h1, h2, h3, h4⟩ := ixN_seq hj
  have hl := r.length
  have hn := line63
  have I' : Inv X pins σ (upd H p (.lst (xs.set j v))) { s with heap := s.heap.update p (Obj.mapSeq (·.setIfInBounds j u)) } :=
    I.lstUpd hp ho (mapSeq_set its n j u) (r.set rv j) (by rw [List.length_set]; exact hz) s.toks
  by_cases h0 : 0 ≤ k
  · have hk : k.toNat = j := by
      rw [seqIndex_of h0 h4] at h1
      exact Option.some.inj h1
    exact PySem.W.ki_setAt ho h0 (by omega) (by rw [List.size_toArray, ← hl]; exact h4) (by rw [hk]; exact ⟨_, I', q⟩)
  · have hk : (k + (its.toArray.size : Int)).toNat = j := by
      rw [seqIndex_neg (by omega) h3] at h1
      rw [List.size_toArray, ← hl]
      exact Option.some.inj h1
    exact PySem.W.ki_setBack ho (by omega) (by rw [List.size_toArray, ← hl]; exact h3) (by omega) (by rw [hk]; exact ⟨_, I', q⟩)
theorem slice_bounds (lo hi : Option Int) (n : Nat) : (sliceBounds lo hi none n).1 = ((HT.sIx n 0 lo : Nat) : Int) ∧ (sliceBounds lo hi none n).2.1 = ((HT.sIx n n hi : Nat) : Int) ∧ (sliceBounds lo hi none n).2.2 = 1 := by
  refine ⟨?_, ?_, rfl⟩
  · cases lo with
    | none => simp [sliceBounds, HT.sIx]
    | some i =>
      simp only [sliceBounds, HT.sIx, Option.getD_none, show (1 : Int) > 0 by decide, if_true]
      by_cases h : i < 0
      · simp only [h, if_true] <;> omega
      · simp only [h, if_false] <;> omega
  · cases hi with
    | none => simp [sliceBounds, HT.sIx]
    | some i =>
      simp only [sliceBounds, HT.sIx, Option.getD_none, show (1 : Int) > 0 by decide, if_true]
      by_cases h : i < 0
      · simp only [h, if_true] <;> omega
      · simp only [h, if_false] <;> omega
theorem slicePick_cut (its : List Value) (lo hi : Option Int) : slicePick its.toArray lo hi none = ((its.drop (HT.sIx its.length 0 lo)).take (HT.sIx its.length its.length hi - HT.sIx its.length 0 lo)).toArray := by
  obtain ⟨h1, h2, h3⟩ := slice_bounds lo hi its.toArray.size
  unfold slicePick
  rw [h1, h2, h3]
  simp only [sliceRange_one, pick_run, List.size_toArray] <;> rfl
def rSlL (K : PySem.W.Frag) : V → Option Int → Option Int → Hp → VK → Prop := fun x lo hi H Q => ∃ a xs, x = .ref a ∧ SqL K H a xs ∧ ∀ p, H p = none → Q (.ref p) (upd H p (.lst (cutV xs lo hi)))
theorem sl_list : SlR X (rSlL X.K) := by
  intro pins s σ H x v vl vu lo hi sl Q I rx hs pl pu h
  obtain ⟨a, xs, rfl, hx, q⟩ := h
  cases rx
  obtain ⟨its, r, ht, hz⟩ := I.list hx
  have hlen := r.length
  refine ⟨"list", _, slot_list_getitem.lookup, ht.isList.typeIs, ?_⟩
  refine wpAny_getItem_list_slice ht.isList hs pl pu .none (by simp) ?_ (by rw [List.size_toArray] <;> omega)
  rw [slicePick_cut, ← hlen]
  refine ⟨.ref s.heap.objs.size, _, I.laid (t' := s.toks) (o := .lst (cutV xs lo hi)) (fun b ob q => Heap.get?_push_of_some _ q) (Nat.le_refl _) ?_, rfl, q _ (I.hok.fresh (Nat.le_refl _))⟩
  exact ⟨Nat.le_trans (cutV_length xs lo hi) hz, _, 0, (r.drop (HT.sIx xs.length 0 lo)).take (HT.sIx xs.length xs.length hi - HT.sIx xs.length 0 lo), Heap.get?_push_size _ rfl⟩
theorem call_len_seq : CallR X (.builtin "len") (fun xs H Q => ∃ p ys, xs = [.ref p] ∧ (SqL X.K H p ys ∨ SqT X.K H p ys) ∧ Q (.int ys.length) H) := by
  intro pins s σ H xs us Q I r h
  obtain ⟨p, ys, rfl, hq, q⟩ := h
  obtain ⟨u, rfl, rx⟩ := vals1 r
  cases rx
  have hn := line63
  rcases hq with hq | hq
  · obtain ⟨its, r', pl, hz⟩ := I.list hq
    have hlen := r'.length
    exact Calls.call_len_list pl.isList (by simp only [List.size_toArray] <;> omega) ⟨.int ys.length, H, I.tok _, ⟨s.toks + 1, by rw [List.size_toArray, hlen]⟩, q⟩
  · obtain ⟨its, r', pl, hz⟩ := I.tuple hq
    have hlen := r'.length
    exact len_tuple pl (by simp only [List.size_toArray] <;> omega) ⟨.int ys.length, H, I.tok _, ⟨s.toks + 1, by rw [List.size_toArray, hlen]⟩, q⟩
theorem call_len_str : CallR X (.builtin "len") (fun xs H Q => ∃ z, xs = [.str z] ∧ z.length ≤ sizeLine ∧ Q (.int z.length) H) := by
  intro pins s σ H xs us Q I r h
  obtain ⟨z, rfl, hz, q⟩ := h
  obtain ⟨u, rfl, t, rfl⟩ := vals1 r
  have hn := line63
  exact len_str (by omega) ⟨.int z.length, H, I.tok _, ⟨_, rfl⟩, q⟩
theorem CallR.or {f : Value} {r r' : List V → Hp → VK → Prop} (h : CallR X f r) (h' : CallR X f r') : CallR X f (fun xs H Q => r xs H Q ∨ r' xs H Q) := by
  intro pins s σ H xs us Q I rs q
  rcases q with q | q
  · exact h pins s σ H xs us Q I rs q
  · exact h' pins s σ H xs us Q I rs q
def tyV (K : PySem.W.Frag) (T : String) (x : V) (H : Hp) : Prop := match x with
  | .str _ => T = "str"
  | .int _ => T = "int"
  | .ref p => (T = "list" ∧ ∃ xs, SqL K H p xs) ∨ (T = "tuple" ∧ ∃ o, K.lookup p = some o ∧ o.cls = .type "tuple" ∧ o.dict = none) ∨
      (T = "dict" ∧ ((∃ kvs, H p = some (.dK kvs)) ∨ ∃ kvs, H p = some (.dT kvs))) ∨ (T = "set" ∧ ∃ S n, H p = some (.set S n))
  | _ => False
theorem tyV_is {pins : List (Addr × Obj)} {σ : St} {H : Hp} {s : Shared} {T : String} {x : V} {v : Value} (I : Inv X pins σ H s) (r : RelV x v) (ty : tyV X.K T x H) :
    s.TypeIs v T ∧ ∀ a, v = .ref a → ∃ ob, s.heap.get? a = some ob ∧ ob.dict = none := by
  cases x with
  | str z =>
    obtain ⟨t, rfl⟩ := r
    cases (show T = "str" from ty)
    exact ⟨typeIs_str s z t, fun _ e => nomatch e⟩
  | int i =>
    obtain ⟨t, rfl⟩ := r
    cases (show T = "int" from ty)
    exact ⟨typeIs_int s i t, fun _ e => nomatch e⟩
  | ref p =>
    cases r
    rcases ty with ⟨rfl, xs, hq⟩ | ⟨rfl, o, hk, hc, hd⟩ | ⟨rfl, hk⟩ | ⟨rfl, S, n, hk⟩
    · obtain ⟨its, _, pl, _⟩ := I.list hq
      refine ⟨pl.isList.typeIs, fun a e => ?_⟩
      cases e
      obtain ⟨o, n, e, c, hd, _⟩ := pl
      exact ⟨o, e, hd⟩
    · refine ⟨⟨o, I.kIn p o hk, hc⟩, fun a e => ?_⟩
      cases e
      exact ⟨o, I.kIn _ o hk, hd⟩
    · have z : ∃ o, s.heap.get? p = some o ∧ o.ExactDict := by
        rcases hk with ⟨kvs, hk⟩ | ⟨kvs, hk⟩
        · obtain ⟨_, _, _, _, o, _, _, e, ex, _⟩ := I.hok p _ hk
          exact ⟨o, e, ex⟩
        · obtain ⟨_, _, _, _, o, _, _, e, ex, _⟩ := I.hok p _ hk
          exact ⟨o, e, ex⟩
      obtain ⟨o, e, ex⟩ := z
      refine ⟨⟨o, e, ex.1⟩, fun a e2 => ?_⟩
      cases e2
      exact ⟨o, e, ex.2.1⟩
    · obtain ⟨o, _, _, _, e, ex, _⟩ := I.hok p _ hk
      refine ⟨⟨o, e, ex.1⟩, fun a e2 => ?_⟩
      cases e2
      exact ⟨o, e, ex.2.1⟩
  | _ => exact False.elim ty
def tBM0 (K : PySem.W.Frag) (T : String) (r : V → List V → Hp → VK → Prop) (to : TE) : TE := fun σ H Q => to σ H fun x H1 => tyV K T x H1 ∧ r x [] H1 Q
def tBM (K : PySem.W.Frag) (T : String) (r : V → List V → Hp → VK → Prop) (to : TE) (t : TA) : TE := fun σ H Q => to σ H fun x H1 => tyV K T x H1 ∧ t σ H1 fun xs H2 => r x xs H2 Q
variable {o e : Expr} {es : List Expr} {to : TE} {t : TA} {name : Str} {apos cpos : Pos} {T id : String} {r : V → List V → Hp → VK → Prop}
theorem pe_bm0 (pa : PlainAttrs T) (slot : Slot T name id) (hty : typeOf (.builtin id) = pure (.type "method_descriptor")) (hm : MtR X id r) (ho : PE X o to)
    (hbase : attributeBase o name X.env (eval o X.env) = eval o X.env := by rfl) (hline : (apos.endLine == cpos.line) = true := by rfl) : PE X (.Call (.Attribute o name apos) [] [] cpos) (tBM0 X.K T r to) := by
  intro pins s σ H Q I h
  refine wpAny_Call_method0_late hbase hline (thn (ho pins s σ H _ I h) fun v s1 ⟨x, H1, I1, r1, ty, q1⟩ => ?_)
  obtain ⟨h1, h2⟩ := tyV_is I1 r1 ty
  exact ⟨T, id, pa, slot, hty, h1, h2, Calls.callWith_builtin rfl (PySem.evalArgs_none (hm pins s1 σ H1 x [] v [] Q I1 r1 .nil q1))⟩
theorem pe_bm (pa : PlainAttrs T) (slot : Slot T name id) (hty : typeOf (.builtin id) = pure (.type "method_descriptor")) (hm : MtR X id r) (ho : PE X o to) (ha : PA X (e :: es) t)
    (hbase : attributeBase o name X.env (eval o X.env) = eval o X.env := by rfl)
    (hfew : ((backTo cpos (starEach (e :: es) X.env)).all (fun x => !x.1) && (backToKw cpos (keywordEach [] X.env)).all (fun x => x.1.isSome)
      && decide ((e :: es).length + ([] : List Keyword).length + (if ([] : List Keyword).isEmpty then 0 else 1) < 30)) = true := by rfl)
    (hline : (apos.endLine == cpos.line) = true := by rfl) (hs : starEach (e :: es) X.env = (false, eval e X.env) :: starEach es X.env := by rfl) (hplain : (backTo cpos (starEach es X.env)).any (·.1) = false := by rfl) :
    PE X (.Call (.Attribute o name apos) (e :: es) [] cpos) (tBM X.K T r to t) := by
  intro pins s σ H Q I h
  refine wpAny_Call_method_late hbase hfew hline rfl (thn (ho pins s σ H _ I h) fun v s1 ⟨x, H1, I1, r1, ty, q1⟩ => ?_)
  obtain ⟨h1, h2⟩ := tyV_is I1 r1 ty
  refine ⟨T, id, pa, slot, hty, h1, h2, ?_⟩
  have hA := ha cpos pins s1 σ H1 _ I1 q1
  rw [hs] at hA ⊢
  refine Calls.callWith_builtin (by show (false || (backTo cpos (starEach es X.env)).any (·.1)) = false; rw [hplain] <;> rfl) (Calls.evalArgs_plain ?_)
  exact thn hA fun us s2 ⟨vs, H2, I2, r2, q2⟩ => hm pins s2 σ H2 x vs v us Q I2 r1 r2 q2
end
end L2
namespace L2
open PySem PySem.Spec PyProof.Rows
def MtM (X : Cx) (id : String) (r : V → List V → Hp → VK → Prop) : Prop :=
  ∀ (pins : List (Addr × Obj)) (s : Shared) (σ : St) (H : Hp) (x : V) (xs : List V) (v : Value) (us : List Value) (Q : VK), Inv X pins σ H s → RelV x v → Vals xs us → r x xs H Q →
    wpAny (model X.prog X.w) X.A (call (.builtin id) (v :: us)) (EP X pins σ Q) X.xe s
theorem Vals.one : ∀ {x : V} {us : List Value}, Vals [x] us → ∃ u, us = [u] ∧ RelV x u
  | _, _, .cons r .nil => ⟨_, rfl, r⟩
theorem Vals.rep {xs : List V} {us : List Value} (h : Vals xs us) : ∀ k : Nat, Vals (List.replicate k xs).flatten (List.replicate k us).flatten
  | 0 => .nil
  | k + 1 => by
    rw [List.replicate_succ, List.replicate_succ, List.flatten_cons, List.flatten_cons]
    exact Vals.append h (Vals.rep h k)
theorem foldl_rep (its : List Value) : ∀ (k : Nat) (acc : List Value),
    List.foldl (fun x1 x2 => x1 ++ x2) acc.toArray (List.replicate k its.toArray) = (acc ++ (List.replicate k its).flatten).toArray
  | 0, acc => by simp
  | k + 1, acc => by
    have e : acc.toArray ++ its.toArray = (acc ++ its).toArray := by simp
    have e2 : (acc ++ its) ++ (List.replicate k its).flatten = acc ++ (List.replicate (k + 1) its).flatten := by
      rw [List.replicate_succ, List.flatten_cons, List.append_assoc]
    rw [← e2, ← foldl_rep its k (acc ++ its), ← e, List.replicate_succ, List.foldl_cons]
section
variable {X : Cx} {pins : List (Addr × Obj)} {σ : St} {H : Hp} {s : Shared} {l b : Addr} {xs ys zs : List V}
theorem Inv.lset {its its' : List Value} {n : Nat} {f : Array Value → Array Value} {t' : Nat} (I : Inv X pins σ H s) (hH : H l = some (.lst xs))
    (e : s.heap.get? l = some { cls := .type "list", data := .seq its.toArray n }) (hf : f its.toArray = its'.toArray) (hv : Vals ys its') (hz : ys.length ≤ sizeLine) :
    Inv X pins σ (upd H l (.lst ys)) { s with heap := s.heap.update l (Obj.mapSeq f), toks := t' } := by
  have q := PySem.IsL.update e f
  rw [hf] at q
  refine I.write (x := l) (e := l) (by rw [hH]; exact trivial) (.inl rfl) (fun b' u hb hu => (Heap.get?_update_other s.heap (Obj.mapSeq f) (Ne.symm hb)).trans hu) ⟨_, q⟩ ?_
  exact ⟨hz, its', _, hv, q⟩
theorem Inv.lnew {its : List Value} {t' : Nat} (I : Inv X pins σ H s) (hv : Vals ys its) (hz : ys.length ≤ sizeLine) :
    Inv X pins σ (upd H s.heap.objs.size (.lst ys)) { s with heap := s.heap.push { cls := .type "list", data := .seq its.toArray }, toks := t' } :=
  I.laid (fun _ _ q => Heap.get?_push_of_some _ q) (Nat.le_refl _) ⟨hz, its, 0, hv, Heap.get?_push_size _ rfl⟩
theorem Inv.fresh (I : Inv X pins σ H s) : H s.heap.objs.size = none := I.hok.fresh (Nat.le_refl _)
theorem Inv.lstM (I : Inv X pins σ H s) (hH : H l = some (.lst xs)) : xs.length ≤ sizeLine ∧ ∃ (its : List Value) (n : Nat), Vals xs its ∧ xs.length = its.length ∧ s.heap.get? l = some { cls := .type "list", data := .seq its.toArray n } := by
  obtain ⟨z, its, n, r, e⟩ := I.hok l _ hH
  exact ⟨z, its, n, r, r.length, e⟩
theorem notLongL {n : Nat} (h : n ≤ sizeLine) : Builtin.List.listTooLong n = false := by
  unfold Builtin.List.listTooLong
  exact decide_eq_false (by omega)
end
section
variable {X : Cx}
def rAppend : V → List V → Hp → VK → Prop := fun x vs H Q => ∃ l xs y, x = .ref l ∧ vs = [y] ∧ H l = some (.lst xs) ∧ xs.length < sizeLine ∧ Q .non (upd H l (.lst (xs ++ [y])))
theorem mt_append : MtM X "list.append" rAppend := by
  intro pins s σ H x vs v us Q I rx rv h
  obtain ⟨l, xs, y, rfl, rfl, hH, hz, q⟩ := h
  cases rx
  obtain ⟨u, rfl, ru⟩ := rv.one
  obtain ⟨z, its, n, r, hl, e⟩ := I.lstM hH
  refine call_meets F.slot_list_append ⟨_, e, rfl⟩ F.entry_list_append (F.args_list_append_2 _ _) (PySem.list_append l its.toArray n u (by rw [List.size_toArray]; omega)) ⟨e, ?_⟩
  refine ⟨.non, _, I.lset (its' := its ++ [u]) hH e (by simp) (r.append (.cons ru .nil)) ?_, rfl, q⟩
  rw [List.length_append, List.length_singleton]
  omega
def rCat : R2 := fun x y H Q => ∃ l b xs zs, x = .ref l ∧ y = .ref b ∧ H l = some (.lst xs) ∧ H b = some (.lst zs) ∧ xs.length + zs.length ≤ sizeLine ∧ ∀ p, H p = none → Q (.ref p) (upd H p (.lst (xs ++ zs)))
theorem op_cat : OpR X (binaryOp .Add) rCat := by
  intro pins s σ H x y v u Q I rx ry h
  obtain ⟨l, b, xs, zs, rfl, rfl, hH, hB, hz, q⟩ := h
  cases rx
  cases ry
  obtain ⟨z, its, n, r, hl, e⟩ := I.lstM hH
  obtain ⟨z2, its2, n2, r2, hl2, e2⟩ := I.lstM hB
  refine PySem.P.add_list e e2 ?_ (by rw [List.size_toArray, List.size_toArray]; omega)
  have ea : its.toArray ++ its2.toArray = (its ++ its2).toArray := by simp
  rw [ea]
  exact ⟨.ref _, _, I.lnew (t' := s.toks) (r.append r2) (by rw [List.length_append]; omega), rfl, q _ I.fresh⟩
def rRep : R2 := fun x y H Q => ∃ l k xs, x = .ref l ∧ y = .int k ∧ H l = some (.lst xs) ∧ -(2 ^ 63) ≤ k ∧ k < 2 ^ 63 ∧ xs.length * k.toNat ≤ sizeLine ∧
  ∀ p, H p = none → Q (.ref p) (upd H p (.lst (List.replicate k.toNat xs).flatten))
theorem len_rep {α : Type} (xs : List α) (k : Nat) : (List.replicate k xs).flatten.length = k * xs.length := by
  induction k with
  | zero => simp
  | succ k ih => rw [List.replicate_succ, List.flatten_cons, List.length_append, ih, Nat.succ_mul, Nat.add_comm]
theorem op_rep : OpR X (binaryOp .Mult) rRep := by
  intro pins s σ H x y v u Q I rx ry h
  obtain ⟨l, k, xs, rfl, rfl, hH, h1, h2, hz, q⟩ := h
  cases rx
  obtain ⟨t, rfl⟩ := ry
  obtain ⟨z, its, n, r, hl, e⟩ := I.lstM hH
  have hlen : its.toArray.size * k.toNat ≤ sizeLine := by rw [List.size_toArray, ← hl]; exact hz
  have hcap : ¬ its.toArray.size * k.toNat > (2 ^ 63 - 1) / 8 := by
    have : (sizeLine : Nat) ≤ (2 ^ 63 - 1) / 8 := by decide
    omega
  have hfit : ¬ (!Builtin.List.listFitsIndex k) = true := by
    rw [fitsIndex_both h1 h2]
    exact Bool.false_ne_true
  have hlong : ¬ Builtin.List.listTooLong (its.toArray.size * k.toNat) = true := by
    rw [notLongL hlen]
    exact Bool.false_ne_true
  have hnew : List.foldl (fun x1 x2 => x1 ++ x2) #[] (List.replicate (if its.toArray.isEmpty = true then 0 else k.toNat) its.toArray) = (List.replicate k.toNat its).flatten.toArray := by
    have f0 : ∀ m : Nat, List.foldl (fun x1 x2 => x1 ++ x2) #[] (List.replicate m its.toArray) = (List.replicate m its).flatten.toArray := fun m => by
      have := foldl_rep its m []
      rw [List.nil_append] at this
      exact this
    rw [f0]
    cases its with
    | nil => simp
    | cons a r' => rw [if_neg (by simp)]
  refine wpAny_binaryOp_repeat_ref (T := "list") (U := "int") (by decide) ⟨_, e, rfl⟩ (fun s' => typeIs_int s' k t) noFill_list_mul F.fills_int_mul F.slot_int_rmul repeat_list F.slot_int_index.lookup
    (call_meets F.slot_int_rmul (typeIs_int s k t) F.entry_int_rmul (F.args_int_rmul_2 _ _) (int___rmul___int_list k t l its.toArray n)
      ⟨e, rfl, ⟨_, e, rfl⟩, call_meets F.slot_list_mul ⟨_, e, rfl⟩ F.entry_list_mul (F.args_list_mul_2 _ _) (AutoListH.list___mul___list_int_3 l its.toArray n k t hfit hcap hlong) ⟨e, ?_⟩⟩)
  rw [hnew]
  exact ⟨.ref _, _, I.lnew (t' := s.toks) (r.rep k.toNat) (by rw [len_rep, Nat.mul_comm]; exact hz), rfl, q _ I.fresh⟩
end
section
variable {prog : Program} {w : World} {A : Around} {E : Value → Shared → Prop} {s : Shared}
end
section
variable {X : Cx}
end
end L2
namespace Att
open PySem PySem.W PySem.Calls PyProof.Rows
theorem ints_of_wellAll {P : Params} {h : Heap} : ∀ (ns : List Int) (vs : List Value), WellAll P h vs (ns.map WData.int) → IntsAre vs ns := by
  intro ns
  induction ns with
  | nil =>
    intro vs w
    rw [List.map_nil] at w
    cases w
    exact .nil
  | cons n ns ih =>
    intro vs w
    rw [List.map_cons] at w
    cases w with
    | cons a b =>
      cases a
      exact .cons _ _ (ih _ b)
theorem script_of {l : OpenLaw} {n : Nat} (hn : l.most = some n) {P : Params} {h : Heap} {args : List WData} {vals : List Value}
    (hpre : l.row.toRowW.claim.pre args = true) (hwl : WellAll P h vals args) :
    ∃ a vs ns, vals = [Value.ref a] ∧ args = [WData.list (ns.map WData.int)] ∧ h.get? a = some { cls := .type "list", data := .seq vs.toArray } ∧ IntsAre vs ns ∧ ns.length ≤ n := by
  have hsh : WShape.hasAll [] args [.list .int] = true := (pre_splitW hpre).1
  have hc : l.pre.holds [] { args := args } = true := (pre_splitW hpre).2
  obtain ⟨d, r, rfl, h1, h2⟩ := hasAllW_cons hsh
  obtain rfl := hasAllW_nil h2
  obtain ⟨xs, rfl, h3⟩ := hasW_list h1
  obtain ⟨ns, rfl⟩ := items_int h3
  have hlen : ns.length ≤ n := by
    unfold OpenLaw.pre at hc
    have h4 : (WTm.not (.lt (.lit (.int (n : Int))) (.len (.arg 0)))).holds [] { args := [.list (ns.map .int)] } = true := by
      have h4 := (holds_andW hc).1
      rw [hn] at h4
      exact h4
    have h5 := condW_of h4 (w_not (w_lt w_lit (w_len_list (w_arg rfl))))
    rw [List.length_map] at h5
    refine Nat.le_of_not_lt fun q => ?_
    have q' : (n : Int) < ((ns.length : Nat) : Int) := by omega
    first
      | (rw [decide_eq_true q'] at h5; exact absurd h5 (by decide))
      | (simp at h5; omega)
  cases hwl with
  | cons w1 w2 =>
    cases w2
    cases w1 with
    | list ho hall => exact ⟨_, _, ns, rfl, rfl, ho, ints_of_wellAll ns _ hall, hlen⟩
theorem post_true (l : OpenLaw) (args : List WData) : l.row.toRowW.claim.post args (.bool true) args = true :=
  postW_of (r := l.row.toRowW) (X := (true == true))
    (show WShape.has [] (.bool true) .bool = true by first | rfl | decide | simp [WShape.has, WShape.arms, WShape.armsAll])
    (show (WTm.eq .res (.lit (.bool true))).value [] { args := args, res := some (.bool true), after := args } = some (.bool (true == true)) from w_eq_bool (w_res rfl) w_lit) rfl
theorem attach_call {l : OpenLaw} {n : Nat} {q : Program} {loose : List Str} {XP : (Str → Option Value) → Heap → Prop} {YP : World → Heap → Prop} {d : DefRec}
    (hn : l.most = some n) (hdf : d.params.defaults = [])
    (call : ∀ (w : World) (s₀ s₁ : Shared) (mg mb : Str → Option Value) (fa : Addr) (o : Obj) (pm cd doc : Value) (a : Addr) (vs : List Value) (ns : List Int),
      Ground q loose [] XP w s₀ mg mb s₁.heap → YP w s₁.heap →
      s₁.heap.get? fa = some o → o.data = .func (docDef d.name d.params d.body d.scope pm cd doc) → s₁.heap.CodeRec cd d.name → mg d.name = some (.ref fa) →
      s₁.heap.get? a = some { cls := .type "list", data := .seq vs.toArray } → IntsAre vs ns → ns.length ≤ n → s₁.gens = #[] →
      codeAny (model l.prog w) callerA (.call (.ref fa) ⟨[.ref a], []⟩) (fun r s' => r = .ok (.ret (.bool true)) ∧ OldK s₁.heap s'.heap ∧ s'.os = s₁.os ∧ AllBare s'.gens) s₁) :
    WalkO q loose XP YP l.row.toRowW d [] (fun f vs => PySem.call f vs) := by
  intro w s₀ s₁ mg mb G Y fa o pm cd doc dV kV ho hd hcd hD hmg hg args vals as hpre hlay hrd hwl hlo
  obtain rfl : dV = .none := Dflts.none hD hdf
  obtain rfl : kV = .none := Dflts.noKw hD
  obtain ⟨a, vs, ns, rfl, rfl, hobj, hints, hlen⟩ := script_of hn hpre hwl
  refine enter_call (codeAny_mono (call w s₀ s₁ mg mb fa o pm cd doc a vs ns G Y ho (fd_plain hd) hcd hmg hobj hints hlen hg) fun r s' hq => ?_)
  obtain ⟨rfl, h2, h3, h4⟩ := hq
  exact ⟨.inl ⟨.bool true, .bool true, [], rfl, fun _ => rfl, .bool true, post_true l _, fun _ => ⟨List.Pairwise.nil, fun _ hm => (nomatch hm)⟩⟩, h2, h3, h4⟩
section
variable {prog : Program} {w : World} {A : Around} {E : Value → Shared → Prop} {s : Shared} {K : Frag}
def ledger (h : Heap) (L d : Addr) : List (Addr × Obj) := (List.range h.objs.size).filterMap fun a => if a = L ∨ a = d then none else (h.get? a).map fun o => (a, o)
end
end Att
namespace L2
open PySem PySem.Spec PyProof.Rows
theorem vals_ints : ∀ {vs : List Value} {ns : List Int}, IntsAre vs ns → Vals (ns.map V.int) vs
  | _, _, .nil => .nil
  | _, _, .cons n t h => .cons ⟨t, rfl⟩ (vals_ints h)
def Only (H : Hp) : Prop := ∀ b, H b = none ∨ ∃ o xs, H b = some (.frz o (.lst xs))
theorem law_call {P : Program} {w : World} {K : PySem.W.Frag} {mg mb : Str → Option Value} {CX : CXT} {k : Nat} {fa a : Addr} {fd : FuncData} {x : Str} {sp : Sp} {s₁ : Shared} {vs : List Value} {ns : List Int}
    (KX : K.In s₁.heap) (hns : s₁.heap.Ns mainGlobals mg) (hb : s₁.heap.Ns builtinsNs mb) (hbb : ∀ x : Str, x ≠ "__name__" → mb x = bootBuiltins x) (hlim : s₁.heap.NoLimit) (hg : s₁.gens = #[])
    (ha : s₁.heap.get? a = some { cls := .type "list", data := .seq vs.toArray }) (hi : IntsAre vs ns) (hl : ns.length ≤ sizeLine) (hr : Room k callerA)
    (F : ∀ base : Heap, K.In base → base.Ns mainGlobals mg → FnOk P w K mg base CX k fa fd [x] sp) (hbind : ∀ (s : Shared) (u : Value), BindsTo s fd ⟨[u], []⟩ [(x, u)])
    (hsp : ∀ H : Hp, Only H → SqL K H a (ns.map V.int) → sp [.ref a] H (fun v _ => v = .bl true) fun _ _ _ => False)
    (hCX : ∀ H e s', CX [] H s₁ (fun _ _ _ => False) e s' → False) :
    codeAny (model P w) callerA (.call (.ref fa) ⟨[.ref a], []⟩) (fun r s' => r = .ok (.ret (.bool true)) ∧ OldK s₁.heap s'.heap ∧ s'.os = s₁.os ∧ AllBare s'.gens) s₁ := by
  have rv := vals_ints hi
  have lenV := hi.length
  have core : ∀ H : Hp, Only H → SqL K H a (ns.map V.int) → HOk P w H s₁.heap → (∀ b, H b ≠ none → b = a) → (H a ≠ none → K.lookup a = none) →
      codeAny (model P w) callerA (.call (.ref fa) ⟨[.ref a], []⟩) (fun r s' => r = .ok (.ret (.bool true)) ∧ OldK s₁.heap s'.heap ∧ s'.os = s₁.os ∧ AllBare s'.gens) s₁ := by
    intro H hO hS hok hA hK
    have base_of : ∀ {b : Addr} {o : Obj}, s₁.heap.get? b = some o → H b = none → (hidT s₁.heap H).get? b = some o := fun e n => hidT_get e n
    have noA : ∀ {b : Addr} {o : Obj} {es : Array DictEntry} {ep : Nat}, s₁.heap.get? b = some o → o.data = .dict es ep → H b = none := fun {b o es ep} e d => by
      cases q : H b with
      | none => rfl
      | some u =>
        have e' : b = a := hA b (by rw [q]; simp)
        subst e'
        rw [ha] at e; cases e
        have d' : Data.seq vs.toArray _ = Data.dict es ep := d
        cases d'
    have nsK : ∀ {b : Addr} {m : Str → Option Value}, s₁.heap.Ns b m → (hidT s₁.heap H).Ns b m := fun {b m} ⟨o, es, ep, e, d, r⟩ => ⟨o, es, ep, base_of e (noA e d), d, r⟩
    have hKb : K.In (hidT s₁.heap H) := fun b o e => base_of (KX b o e) (by
      cases q : H b with
      | none => rfl
      | some u =>
        have e' : b = a := hA b (by rw [q]; simp)
        subst e'
        rw [hK (by rw [q]; simp)] at e; cases e)
    have hM : Mod K mg (hidT s₁.heap H) := ⟨hKb, nsK hns, ⟨mb, nsK hb, hbb⟩, let ⟨mc, h1, h2⟩ := hlim; ⟨mc, nsK h1, h2⟩⟩
    have e0 : Env0 P w K mg (hidT s₁.heap H) callerA [] s₁ H := ⟨rfl, hM, fun b o e => of_hidT e, Nat.le_of_eq (hidT_size _ _), trivial, fun b hb => absurd (show b ∈ ([] : List Addr) from hb) (by simp), hok, .of_eq hg⟩
    refine codeAny_mono ((F _ hKb (nsK hns)).run callerA [] s₁ H ⟨[.ref a], []⟩ [.ref a] [.ref a] _ _ hr e0 (hbind s₁ (.ref a)) (.cons rfl .nil) (hsp H hO hS)) fun r s' h => ?_
    cases r with
    | error e => exact (hCX H e s' h).elim
    | ok fl =>
      cases fl with
      | next => exact False.elim h
      | brk => exact False.elim h
      | cont => exact False.elim h
      | ret u =>
        obtain ⟨v, H', os, bare, un, hok', r', q⟩ := h
        have q' : v = .bl true := q
        subst q'
        obtain rfl : u = Value.bool true := r'
        refine ⟨rfl, OldK.of_keep fun b o e => ?_, os, bare⟩
        cases q : H b with
        | none => exact un.keep b o e q (by intro z; exact absurd (show b ∈ ([] : List Addr) from z) (by simp)) (by simp)
        | some u =>
          rcases hO b with z | ⟨ob, xs, z⟩
          · rw [q] at z; cases z
          · have z2 := un.frzs b ob _ z
            obtain ⟨e1, _⟩ := hok b _ z
            obtain ⟨e2, _⟩ := hok' b _ z2
            rw [e] at e1; cases e1
            exact e2
  cases hk : K.lookup a with
  | some o =>
    have e := KX a o hk
    rw [ha] at e
    cases e
    refine core (fun _ => none) (fun _ => .inl rfl) (.inr ⟨_, vs.toArray, _, hk, rfl, rfl, rfl, by rw [List.size_toArray, lenV]; exact hl, by simpa using rv⟩) (fun b u z => by have z' : (none : Option HO) = some u := z; cases z') (fun b z => absurd rfl z) fun z => absurd rfl z
  | none =>
    refine core (fun b => if b = a then some (.frz { cls := .type "list", data := .seq vs.toArray } (.lst (ns.map V.int))) else none) (fun b => ?_) (.inl (.inr ⟨{ cls := .type "list", data := .seq vs.toArray }, if_pos rfl⟩)) (fun b u z => ?_) (fun b z => ?_) fun _ => hk
    · by_cases hb : b = a
      · exact .inr ⟨_, _, if_pos hb⟩
      · exact .inl (if_neg hb)
    · by_cases hb : b = a
      · have z' := (if_pos hb).symm.trans z
        cases z'
        subst hb
        exact ⟨ha, by rw [List.length_map]; exact hl, vs, _, rv, ha⟩
      · have z' := (if_neg hb).symm.trans z
        cases z'
    · by_cases hb : b = a
      · exact hb
      · exact absurd (if_neg hb) z
end L2
namespace L2
open PySem PySem.Spec PyProof.Rows
abbrev KOf {K : PySem.W.Frag} {h : Heap} (_ : K.In h) : PySem.W.Frag := K
theorem walk_of {l : PySem.W.OpenLaw} {n k : Nat} {q : Program} {loose : List Str} {XP : (Str → Option Value) → Heap → Prop} {YP : World → Heap → Prop} {d : DefRec} {K : Params → PySem.W.Frag} {CX : World → CXT} {sp : World → Sp} {x : Str}
    (hn : l.most = some n) (hn2 : n ≤ sizeLine) (hdf : d.params.defaults = []) (hr : Room k callerA)
    (hY : ∀ (w : World) (h : Heap), YP w h → (K w.params).In h)
    (F : ∀ (w : World) (mg : Str → Option Value) (fa : Addr) (h : Heap), (K w.params).In h → h.Ns mainGlobals mg → mg d.name = some (.ref fa) →
      ∃ fd : FuncData, (∀ (s : Shared) (u : Value), BindsTo s fd ⟨[u], []⟩ [(x, u)]) ∧
        ∀ base : Heap, (K w.params).In base → base.Ns mainGlobals mg → FnOk l.prog w (K w.params) mg base (CX w) k fa fd [x] (sp w))
    (hsp : ∀ (w : World) (H : Hp) (a : Addr) (ns : List Int), ns.length ≤ n → Only H → SqL (K w.params) H a (ns.map V.int) → sp w [.ref a] H (fun v _ => v = .bl true) fun _ _ _ => False)
    (hCX : ∀ (w : World) (H : Hp) (s : Shared) (e : Value) (s' : Shared), CX w [] H s (fun _ _ _ => False) e s' → False) :
    PySem.W.WalkO q loose XP YP l.row.toRowW d [] (fun f vs => PySem.call f vs) := by
  refine Att.attach_call hn hdf fun w s₀ s₁ mg mb fa o pm cd doc a vs ns G Y ho hd hcd hmg hobj hints hlen hg => ?_
  have KX := hY w _ Y
  obtain ⟨fd, hb, hF⟩ := F w mg fa _ KX G.T.g hmg
  exact law_call KX G.T.g G.T.b G.T.builtins G.T.nolimit hg hobj hints (Nat.le_trans hlen hn2) hr hF hb (fun H hO hS => hsp w H a ns hlen hO hS) fun H e s' => hCX w H s₁ e s'
end L2
namespace L2
open PySem PySem.Spec PyProof.Rows
def defArgs (s : Stmt) : Arguments := match s with
  | .FunctionDef _ a _ _ _ _ _ _ _ _ => a
  | _ => { posonlyargs := [], args := [], vararg := none, kwonlyargs := [], kw_defaults := [], kwarg := none, defaults := [] }
def defBody (s : Stmt) : List Stmt := match s with
  | .FunctionDef _ _ b _ _ _ _ _ _ _ => b
  | _ => []
def defScope (s : Stmt) : Scope := match s with
  | .FunctionDef _ _ _ _ _ _ sc _ _ _ => sc
  | _ => { kind := .function, names := [], isGenerator := false, isCoroutine := false }
abbrev CX0 : CXT := fun _ _ _ _ _ _ => False
abbrev E0 : XK := fun _ _ _ => False
theorem pass0 {X : Cx} : Passes CX0 X E0 := fun _ _ _ _ _ _ _ h => h.elim
structure Fun (K : PySem.W.Frag) (x qual : Str) (st : Stmt) (f : Addr) (fd : FuncData) : Prop where
  ex : ∃ (oc : Value) (od : Option Addr) (kV doc pm : Value) (an : Option Addr) (cdv ct : Value) (osl : Array (Option Value)),
    fd = PySem.W.fnOf x qual (defArgs st) (defBody st) (defScope st) .none kV doc pm an cdv ct ∧ K.lookup f = some ⟨oc, od, .func fd, osl⟩ ∧ PySem.W.codeIn K cdv qual = true
  kp : PySem.W.keepIn K (.ref f) = true
section
variable {P : Program} {w : World} {K : PySem.W.Frag} {mg : Str → Option Value} {base : Heap}
theorem Fun.ok {x qual : Str} {st : Stmt} {f : Addr} {fd : FuncData} {N ps : List Str} {k : Nat} {sp : Sp} (F : Fun K x qual st f fd) (S : FnScope N ps (defScope st)) (len : ∀ vs H Q E, sp vs H Q E → vs.length = ps.length)
    (hbody : ∀ (cdv : Value) (A : Around) (outer : List Env) (s : Shared) (H : Hp) (vs : List V) (Q : VK) (E : XK), Room k (A.deeper (envOfC qual (defScope st) s.heap.objs.size f cdv)) → sp vs H Q E →
      ∃ t, PSs (cxOf CX0 P w K mg base N qual (defScope st) f cdv A outer s H E).nox (defBody st) t ∧ t { nx := fun _ H' => Q .non H', rt := Q } (start N vs) H) : FnOk P w K mg base CX0 (k + 1) f fd ps sp := by
  obtain ⟨oc, od, kV, doc, pm, an, cdv, ct, osl, rfl, lk, hcd⟩ := F.ex
  refine fn_of lk hcd S len fun A outer s H vs Q E hr hsp => ?_
  obtain ⟨t, h, q⟩ := hbody cdv A outer s H vs Q E hr hsp
  exact ⟨t, h.nox, q⟩
theorem Fun.binds {x qual : Str} {st : Stmt} {f : Addr} {fd : FuncData} {ps : List Str} (F : Fun K x qual st f fd)
    (h : ∀ (kV doc pm : Value) (an : Option Addr) (cdv ct : Value) (us : List Value), us.length = ps.length → bindArgs (PySem.W.fnOf x qual (defArgs st) (defBody st) (defScope st) .none kV doc pm an cdv ct) ⟨us, []⟩ = pure (ps.zip us)) : Binds K fd ps [] := by
  obtain ⟨oc, od, kV, doc, pm, an, cdv, ct, osl, rfl, lk, hcd⟩ := F.ex
  exact .all (h kV doc pm an cdv ct)
theorem fun_mk {x qual : Str} {st : Stmt} {f : Addr} {oc : Value} {od an : Option Addr} {osl : Array (Option Value)} {kV doc pm cdv ct : Value} (l : K.lookup f = some ⟨oc, od, .func (PySem.W.fnOf x qual (defArgs st) (defBody st) (defScope st) .none kV doc pm an cdv ct), osl⟩)
    (c : PySem.W.codeIn K cdv qual = true) (k : PySem.W.keepIn K (.ref f) = true) : Fun K x qual st f (PySem.W.fnOf x qual (defArgs st) (defBody st) (defScope st) .none kV doc pm an cdv ct) := ⟨⟨oc, od, kV, doc, pm, an, cdv, ct, osl, rfl, l, c⟩, k⟩
end
theorem hu_of {A : Around} {k : Nat} (hr : Room k A) : A.units + 1 < cLine := Nat.lt_of_le_of_lt (Nat.add_le_add_left (by decide : 1 ≤ 64) _) hr.units
theorem small1000 {n : Nat} (h : n ≤ 1000) : n < sizeLine := Nat.lt_of_le_of_lt h (by decide)
section
variable {X : Cx}
theorem pv (i : Nat) {x : Str} {pos : Pos} (hN : X.N[i]? = some x := by rfl) (hv : Vis X.env.scope x := by first | exact Or.inl rfl | exact Or.inr (Or.inl rfl) | exact Or.inr (Or.inr rfl)) (hd : (x == ("__debug__" : Str)) = false := by decide)
    (hcd : (x == ("__classdict__" : Str)) = false := by decide) : PE X (.Name x pos) (tVar i) := pe_var hN hv hd hcd
end
def Same (H H' : Hp) : Prop := ∀ b o, H b = some o → H' b = some o
theorem Same.refl (H : Hp) : Same H H := fun _ _ h => h
theorem Same.trans {H H1 H2 : Hp} (a : Same H H1) (b : Same H1 H2) : Same H H2 := fun c o h => b c o (a c o h)
theorem Same.seq {K : PySem.W.Frag} {H H' : Hp} {a : Addr} {xs : List V} (e : Same H H') (h : SqL K H a xs) : SqL K H' a xs := by
  rcases h with (h | ⟨o, h⟩) | h
  · exact .inl (.inl (e _ _ h))
  · exact .inl (.inr ⟨o, e _ _ h⟩)
  · exact .inr h
end L2
set_option Elab.async false
set_option linter.all false
set_option maxRecDepth 100000
namespace FD
open PySem PySem.Spec PyProof.Rows L2
abbrev St := L2.St
inductive D where
  | non | bl (b : Bool) | int (i : Int) | str (x : Str) | lst (xs : List D) | tup (xs : List D) | scr (ns : List Int) | raw (v : V) | exc (c : Str) | dct (ks : List Key) (ds : List D)
inductive Rs (α : Type) where
  | ok (a : α) | ex (c : Str) | no
def Rs.bind {α β : Type} (r : Rs α) (k : α → Rs β) : Rs β := match r with
  | .ok a => k a
  | .ex c => .ex c
  | .no => .no
@[simp] theorem Rs.bind_ok {α β : Type} (a : α) (k : α → Rs β) : (Rs.ok a).bind k = k a := rfl
def excIs (K : PySem.W.Frag) (a : Addr) (c : Str) : Heap → Prop := fun h => ∃ oe cls vs, h.get? a = some oe ∧ oe.cls = cls ∧ oe.dict = none ∧ oe.data = .fields vs ∧ PySem.W.nsIn K mainGlobals c = some (some cls)
section
variable (K : PySem.W.Frag)
mutual
def Rep (F : Hp) : D → V → Prop
  | .non, v => v = .non
  | .bl b, v => v = .bl b
  | .int i, v => v = .int i
  | .str x, v => v = .str x
  | .lst ds, v => ∃ a vs, v = .ref a ∧ F a = some (.lst vs) ∧ Reps F ds vs
  | .scr ns, v => ∃ a, v = .ref a ∧ SqL K F a (ns.map V.int)
  | .tup ds, v => ∃ a vs, v = .ref a ∧ SqT K F a vs ∧ Reps F ds vs
  | .raw u, v => v = u
  | .exc c, v => ∃ a, v = .ref a ∧ F a = some (.ext (excIs K a c))
  | .dct ks ds, v => ∃ a kvs o, v = .ref a ∧ F a = some (.frz o (.dK kvs)) ∧ kvs.map (·.1) = ks ∧ Reps F ds (kvs.map (·.2))
def Reps (F : Hp) : List D → List V → Prop
  | [], vs => vs = []
  | d :: ds, vs => ∃ v r, vs = v :: r ∧ Rep F d v ∧ Reps F ds r
end
end
theorem Same.refl (H : Hp) : Same H H := fun _ _ h => h
theorem Same.seqT {K : PySem.W.Frag} {H H' : Hp} {a : Addr} {xs : List V} (e : Same H H') (h : SqT K H a xs) : SqT K H' a xs := by
  rcases h with (h | ⟨o, h⟩) | h
  · exact .inl (.inl (e _ _ h))
  · exact .inl (.inr ⟨o, e _ _ h⟩)
  · exact .inr h
section
variable {K : PySem.W.Frag} {F F' : Hp}
mutual
theorem Rep.mono (h : Same F F') : ∀ {d : D} {v : V}, Rep K F d v → Rep K F' d v
  | .non, _, r => by simpa only [Rep] using r
  | .bl _, _, r => by simpa only [Rep] using r
  | .int _, _, r => by simpa only [Rep] using r
  | .str _, _, r => by simpa only [Rep] using r
  | .raw _, _, r => by simpa only [Rep] using r
  | .exc c, v, r => by
    simp only [Rep] at r ⊢
    obtain ⟨a, e, q⟩ := r
    exact ⟨a, e, h _ _ q⟩
  | .dct ks ds, v, r => by
    simp only [Rep] at r ⊢
    obtain ⟨a, kvs, o, e, q, k, t⟩ := r
    exact ⟨a, kvs, o, e, h _ _ q, k, Reps.mono h t⟩
  | .lst ds, v, r => by
    simp only [Rep] at r ⊢
    obtain ⟨a, vs, e, q, t⟩ := r
    exact ⟨a, vs, e, h _ _ q, Reps.mono h t⟩
  | .scr ns, v, r => by
    simp only [Rep] at r ⊢
    obtain ⟨a, e, q⟩ := r
    exact ⟨a, e, h.seq q⟩
  | .tup ds, v, r => by
    simp only [Rep] at r ⊢
    obtain ⟨a, vs, e, q, t⟩ := r
    exact ⟨a, vs, e, Same.seqT h q, Reps.mono h t⟩
theorem Reps.mono (h : Same F F') : ∀ {ds : List D} {vs : List V}, Reps K F ds vs → Reps K F' ds vs
  | [], _, r => by simpa only [Reps] using r
  | d :: ds, vs, r => by
    simp only [Reps] at r ⊢
    obtain ⟨v, r', e, q, t⟩ := r
    exact ⟨v, r', e, Rep.mono h q, Reps.mono h t⟩
end
theorem Reps.length : ∀ {ds : List D} {vs : List V}, Reps K F ds vs → ds.length = vs.length
  | [], _, r => by simp only [Reps] at r; subst r; rfl
  | d :: ds, _, r => by
    simp only [Reps] at r
    obtain ⟨v, r', rfl, _, t⟩ := r
    simp [Reps.length t]
theorem Reps.get : ∀ {ds : List D} {vs : List V} {i : Nat} {d : D}, Reps K F ds vs → ds[i]? = some d → ∃ v, vs[i]? = some v ∧ Rep K F d v
  | [], _, _, _, _, e => by simp at e
  | d :: ds, _, 0, _, r, e => by
    simp only [Reps] at r
    obtain ⟨v, r', rfl, q, t⟩ := r
    simp at e; subst e
    exact ⟨v, rfl, q⟩
  | d :: ds, _, i + 1, _, r, e => by
    simp only [Reps] at r
    obtain ⟨v, r', rfl, q, t⟩ := r
    obtain ⟨w, h1, h2⟩ := Reps.get (i := i) t (by simpa using e)
    exact ⟨w, by simpa using h1, h2⟩
theorem Reps.nil : Reps K F [] [] := by simp only [Reps]
theorem Reps.cons {d : D} {v : V} {ds : List D} {vs : List V} (h : Rep K F d v) (t : Reps K F ds vs) : Reps K F (d :: ds) (v :: vs) := by
  simp only [Reps]; exact ⟨v, vs, rfl, h, t⟩
theorem Reps.append : ∀ {ds es : List D} {vs ws : List V}, Reps K F ds vs → Reps K F es ws → Reps K F (ds ++ es) (vs ++ ws)
  | [], _, _, _, r, t => by simp only [Reps] at r; subst r; exact t
  | d :: ds, es, _, ws, r, t => by
    simp only [Reps] at r
    obtain ⟨v, r', rfl, q, u⟩ := r
    exact Reps.cons q (Reps.append u t)
theorem Reps.take : ∀ {ds : List D} {vs : List V} (n : Nat), Reps K F ds vs → Reps K F (ds.take n) (vs.take n)
  | _, _, 0, _ => by simp only [List.take_zero]; exact Reps.nil
  | [], _, n + 1, r => by simp only [Reps] at r; subst r; simp only [List.take_nil]; exact Reps.nil
  | d :: ds, _, n + 1, r => by
    simp only [Reps] at r
    obtain ⟨v, r', rfl, q, u⟩ := r
    exact Reps.cons q (Reps.take n u)
theorem Reps.drop : ∀ {ds : List D} {vs : List V} (n : Nat), Reps K F ds vs → Reps K F (ds.drop n) (vs.drop n)
  | _, _, 0, r => r
  | [], _, n + 1, r => by simp only [Reps] at r; subst r; simp only [List.drop_nil]; exact Reps.nil
  | d :: ds, _, n + 1, r => by
    simp only [Reps] at r
    obtain ⟨v, r', rfl, q, u⟩ := r
    exact Reps.drop n u
theorem Reps.set {d : D} {v : V} (h : Rep K F d v) : ∀ {ds : List D} {vs : List V} (i : Nat), Reps K F ds vs → Reps K F (ds.set i d) (vs.set i v)
  | [], _, _, r => by simp only [Reps] at r; subst r; exact Reps.nil
  | e :: ds, _, 0, r => by
    simp only [Reps] at r
    obtain ⟨w, r', rfl, q, u⟩ := r
    exact Reps.cons h u
  | e :: ds, _, i + 1, r => by
    simp only [Reps] at r
    obtain ⟨w, r', rfl, q, u⟩ := r
    exact Reps.cons q (Reps.set h i u)
theorem Reps.one {d : D} {vs : List V} (h : Reps K F [d] vs) : ∃ v, vs = [v] ∧ Rep K F d v := by
  simp only [Reps] at h
  obtain ⟨v, r, e, q, e2⟩ := h
  subst e2; exact ⟨v, e, q⟩
theorem Reps.two {d e : D} {vs : List V} (h : Reps K F [d, e] vs) : ∃ v w, vs = [v, w] ∧ Rep K F d v ∧ Rep K F e w := by
  simp only [Reps] at h
  obtain ⟨v, r, e1, q, w, r2, e2, q2, e3⟩ := h
  subst e3; subst e2; exact ⟨v, w, e1, q, q2⟩
theorem Reps.rep {ds : List D} {vs : List V} (h : Reps K F ds vs) : ∀ k : Nat, Reps K F (List.replicate k ds).flatten (List.replicate k vs).flatten
  | 0 => Reps.nil
  | k + 1 => by
    rw [List.replicate_succ, List.replicate_succ, List.flatten_cons, List.flatten_cons]
    exact Reps.append h (Reps.rep h k)
theorem Reps.ints : ∀ (ns : List Int), Reps K F (ns.map D.int) (ns.map V.int)
  | [] => Reps.nil
  | n :: r => Reps.cons (by simp only [Rep]) (Reps.ints r)
end
class Tabs where
  rows : List (Addr × Nat × Nat × Str)
  own : Str → Str → Bool
def codeIs (c : Addr) (q : Str) : Heap → Prop := fun h => h.CodeRec (.ref c) q
def TOk (F H : Hp) (r : Addr × Nat × Nat × Str) : Prop := F r.1 = none ∧ (H r.1 = some (.tbl #[]) ∨ ∃ c, H r.1 = some (.tbl #[rawInt r.2.1, rawInt r.2.2.1, .ref c]) ∧ H c = some (.ext (codeIs c r.2.2.2)))
variable [Tabs]
def OwnOk (H : Hp) : Prop := ∀ d a, H d = some (.own a) → ∃ C dx vs, H a = some (.ins C dx vs)
def TbT (F H : Hp) : Prop := (∀ r ∈ Tabs.rows, TOk F H r) ∧ OwnOk H
omit [Tabs] in
theorem TOk.step {F H F' H' : Hp} {r : Addr × Nat × Nat × Str} (t : TOk F H r) (nw : ∀ a o, F' a = some o → F a = some o ∨ H a = none) (k : ∀ a o, H a = some o → (∀ vs, o ≠ .lst vs) → H' a = some o) : TOk F' H' r := by
  have hn : ∀ ps, H r.1 = some (.tbl ps) → F' r.1 = none := fun ps e => by
    cases q : F' r.1 with
    | none => rfl
    | some o =>
      rcases nw _ _ q with z | z
      · rw [t.1] at z; cases z
      · rw [e] at z; cases z
  rcases t.2 with e | ⟨c, e, e2⟩
  · exact ⟨hn _ e, .inl (k _ _ e fun _ z => nomatch z)⟩
  · exact ⟨hn _ e, .inr ⟨c, k _ _ e (fun _ z => nomatch z), k _ _ e2 fun _ z => nomatch z⟩⟩
theorem TbT.step {F H F' H' : Hp} (t : TbT F H) (nw : ∀ a o, F' a = some o → F a = some o ∨ H a = none) (k : ∀ a o, H a = some o → (∀ vs, o ≠ .lst vs) → H' a = some o) (no : ∀ d a, H' d = some (.own a) → H d = some (.own a)) : TbT F' H' := ⟨fun r hr => (t.1 r hr).step nw k, fun d a e => by
  obtain ⟨C, dx, vs, h⟩ := t.2 d a (no d a e)
  exact ⟨C, dx, vs, k _ _ h fun _ z => nomatch z⟩⟩
theorem TbT.freeze {F H : Hp} {a : Addr} {vs : List V} {o : HO} (t : TbT F H) (e : H a = some (.lst vs)) : TbT (upd F a o) H := ⟨fun r hr => by
  obtain ⟨t1, t2⟩ := t.1 r hr
  have : r.1 ≠ a := fun z => by
    rw [z, e] at t2
    rcases t2 with q | ⟨c, q, _⟩ <;> cases q
  exact ⟨by rw [upd_ne this]; exact t1, t2⟩, t.2⟩
def Kp : HO → Option HO → Prop
  | .tbl _, r => ∃ ps, r = some (.tbl ps)
  | o, r => r = some o
def Hh (H H' : Hp) : Prop := ∀ b o, H b = some o → Kp o (H' b)
omit [Tabs] in
theorem Kp.of {o : HO} {r : Option HO} (h : r = some o) : Kp o r := by cases o <;> first | exact h | exact ⟨_, h⟩
omit [Tabs] in
theorem Kp.some {o : HO} {r : Option HO} (h : Kp o r) : r ≠ none := by
  cases o <;> first | (obtain ⟨_, h⟩ := h; rw [h]; simp) | (have h : r = _ := h; rw [h]; simp)
omit [Tabs] in
theorem Hh.of {H H' : Hp} (h : Same H H') : Hh H H' := fun b o e => .of (h b o e)
omit [Tabs] in
theorem Hh.refl (H : Hp) : Hh H H := .of (Same.refl H)
omit [Tabs] in
theorem Hh.trans {H H1 H2 : Hp} (a : Hh H H1) (b : Hh H1 H2) : Hh H H2 := fun c o e => by
  have k := a c o e
  cases o <;> first | exact b c _ k | (obtain ⟨ps, q⟩ := k; show ∃ ps, H2 c = some (.tbl ps); exact b c _ q)
omit [Tabs] in
theorem none_of_hh {F H : Hp} (h : Hh F H) {a : Addr} (e : H a = none) : F a = none := by
  cases q : F a with
  | none => rfl
  | some o => exact absurd e (h a o q).some
structure Ext (F H F' H' : Hp) : Prop where
  ff : Same F F'
  hh : Hh H H'
  fh : Same F' H'
  nw : ∀ a o, F' a = some o → F a = some o ∨ H a = none
  tt : TbT F H → TbT F' H'
theorem Ext.refl {F H : Hp} (h : Same F H) : Ext F H F H := ⟨Same.refl F, Hh.refl H, h, fun _ _ e => .inl e, id⟩
theorem Ext.trans {F H F1 H1 F2 H2 : Hp} (a : Ext F H F1 H1) (b : Ext F1 H1 F2 H2) : Ext F H F2 H2 :=
  ⟨a.ff.trans b.ff, a.hh.trans b.hh, b.fh, fun c o e => by
    rcases b.nw c o e with q | q
    · exact a.nw c o q
    · exact .inr (none_of_hh a.hh q), fun t => b.tt (a.tt t)⟩
omit [Tabs] in
theorem none_of_same {F H : Hp} (h : Same F H) {a : Addr} (e : H a = none) : F a = none := by
  cases q : F a with
  | none => rfl
  | some o => rw [h a o q] at e; cases e
omit [Tabs] in
theorem same_upd {H : Hp} {p : Addr} {o : HO} (h : H p = none) : Same H (upd H p o) := fun b u q => by rw [upd_ne (ne_of_none q h)]; exact q
omit [Tabs] in
theorem same_upd2 {F H : Hp} {p : Addr} {o : HO} (h : Same F H) (hp : H p = none) : Same (upd F p o) (upd H p o) := fun b u q => by
  by_cases hb : b = p
  · subst hb; rw [upd_same] at q ⊢; exact q
  · rw [upd_ne hb] at q ⊢; exact h b u q
theorem Ext.same {F H F' H' : Hp} (ff : Same F F') (hh : Same H H') (fh : Same F' H') (nw : ∀ a o, F' a = some o → F a = some o ∨ H a = none) (no : ∀ d a, H' d = some (.own a) → H d = some (.own a)) : Ext F H F' H' := ⟨ff, .of hh, fh, nw, fun t => t.step nw (fun a o e _ => hh a o e) no⟩
omit [Tabs] in
theorem no_upd {H : Hp} {p : Addr} {o : HO} (ho : ∀ a, o ≠ .own a) : ∀ d a, upd H p o d = some (.own a) → H d = some (.own a) := fun d a e => by
  by_cases h : d = p
  · subst h; rw [upd_same] at e; cases e; exact absurd rfl (ho a)
  · rw [upd_ne h] at e; exact e
theorem Ext.new {F H : Hp} {p : Addr} {o : HO} (h : Same F H) (hp : H p = none) (ho : ∀ a, o ≠ .own a := by intro _ h; cases h) : Ext F H (upd F p o) (upd H p o) :=
  .same (same_upd (none_of_same h hp)) (same_upd hp) (same_upd2 h hp) (fun a u e => by
    by_cases hb : a = p
    · subst hb; exact .inr hp
    · rw [upd_ne hb] at e; exact .inl e) (no_upd ho)
inductive Sl where
  | val (d : D)
  | own (ds : List D)
  | obj (n : Nat) (c : Str) (fs : List (Str × D))
  | obr (c : Str) (fs : List (Str × D))
abbrev DS := List (Option Sl)
def OwnF (K : PySem.W.Frag) (F H : Hp) (d : D) (v : V) : Prop := ∃ ds l ws, d = .lst ds ∧ v = .ref l ∧ H l = some (.lst ws) ∧ F l = none ∧ Reps K F ds ws
def Fld1 (K : PySem.W.Frag) (F H : Hp) (c f : Str) (d : D) (v : V) : Prop := if Tabs.own c f = true then OwnF K F H d v else Rep K F d v
def Flds (K : PySem.W.Frag) (F H : Hp) (c : Str) : List (Str × D) → List (Str × V) → Prop
  | [], [] => True
  | (f, d) :: r, (g, v) :: s => f = g ∧ Fld1 K F H c f d v ∧ Flds K F H c r s
  | _, _ => False
def ownL (c : Str) : List (Str × V) → List Addr
  | [] => []
  | (f, v) :: r => if Tabs.own c f = true then (match v with
    | .ref l => l :: ownL c r
    | _ => ownL c r) else ownL c r
def Lof (H : Hp) (c : Str) (a : Addr) : List Addr := match H a with
  | some (.ins _ _ vs) => ownL c vs
  | _ => []
theorem Lof.ins {H : Hp} {c : Str} {a C dx : Addr} {vs : List (Str × V)} (h : H a = some (.ins C dx vs)) : Lof H c a = ownL c vs := by unfold Lof; rw [h]
theorem Flds.own {K : PySem.W.Frag} {F H : Hp} {c : Str} {l : Addr} : ∀ {fs : List (Str × D)} {vs : List (Str × V)}, Flds K F H c fs vs → l ∈ ownL c vs → F l = none ∧ ∃ ws, H l = some (.lst ws)
  | [], [], _, h => by cases h
  | (f, d) :: r, (g, v) :: s, q, h => by
    obtain ⟨rfl, q2, q3⟩ := q
    unfold ownL at h
    unfold Fld1 at q2
    by_cases z : Tabs.own c f = true
    · rw [if_pos z] at h q2
      obtain ⟨ds, l', ws, e1, rfl, e3, e4, e5⟩ := q2
      rcases List.mem_cons.mp h with rfl | h
      · exact ⟨e4, ws, e3⟩
      · exact Flds.own q3 h
    · rw [if_neg z] at h
      exact Flds.own q3 h
  | [], _ :: _, q, _ => q.elim
  | _ :: _, [], q, _ => q.elim
theorem Flds.keep {K : PySem.W.Frag} {F H F' H' : Hp} {c : Str} (hf : Same F F') : ∀ {fs : List (Str × D)} {vs : List (Str × V)}, Flds K F H c fs vs → (∀ l ws, l ∈ ownL c vs → H l = some (.lst ws) → F l = none → H' l = some (.lst ws) ∧ F' l = none) → Flds K F' H' c fs vs
  | [], [], _, _ => trivial
  | (f, d) :: r, (g, v) :: s, q, k => by
    obtain ⟨rfl, q2, q3⟩ := q
    refine ⟨rfl, ?_, Flds.keep hf q3 fun l ws hl => k l ws ?_⟩
    · unfold Fld1 at q2 ⊢
      by_cases z : Tabs.own c f = true
      · rw [if_pos z] at q2 ⊢
        obtain ⟨ds, l, ws, e1, rfl, e3, e4, e5⟩ := q2
        obtain ⟨k1, k2⟩ := k l ws (by unfold ownL; rw [if_pos z]; exact List.mem_cons_self) e3 e4
        exact ⟨ds, l, ws, e1, rfl, k1, k2, e5.mono hf⟩
      · rw [if_neg z] at q2 ⊢; exact q2.mono hf
    · unfold ownL
      by_cases z : Tabs.own c f = true
      · rw [if_pos z]
        cases v with
        | ref l' => exact List.mem_cons_of_mem _ hl
        | _ => exact hl
      · rw [if_neg z]; exact hl
  | [], _ :: _, q, _ => q.elim
  | _ :: _, [], q, _ => q.elim
def ObAt (K : PySem.W.Frag) (F H : Hp) (c : Str) (fs : List (Str × D)) (a : Addr) : Prop := ∃ C dx vs, H a = some (.ins C dx vs) ∧ F a = none ∧ PySem.W.nsIn K mainGlobals c = some (some (.ref C)) ∧ Flds K F H c fs vs ∧ H dx = some (.own a) ∧ (ownL c vs).Nodup
def ObS (s : Option (Option Sl)) (c : Str) : Prop := (∃ n fs, s = some (some (.obj n c fs))) ∨ ∃ fs, s = some (some (.obr c fs))
structure ObsOk (K : PySem.W.Frag) (F : Hp) (τ : DS) (σ : St) (H : Hp) : Prop where
  at_ : ∀ (i n : Nat) (c : Str) (fs : List (Str × D)), τ[i]? = some (some (.obj n c fs)) → ∃ a, σ[i]? = some (some (.ref a)) ∧ ObAt K F H c fs a
  dis : ∀ (i j n : Nat) (c c' : Str) (fs : List (Str × D)) (a : Addr), i ≠ j → τ[i]? = some (some (.obj n c fs)) → ObS τ[j]? c' → σ[i]? = some (some (.ref a)) → σ[j]? = some (some (.ref a)) → False
  rd : ∀ (i : Nat) (c : Str) (fs : List (Str × D)), τ[i]? = some (some (.obr c fs)) → ∃ a C dx vs, σ[i]? = some (some (.ref a)) ∧ H a = some (.ins C dx vs) ∧ PySem.W.nsIn K mainGlobals c = some (some (.ref C)) ∧ Flds K F H c fs vs
  ll : ∀ (i j n : Nat) (c c' : Str) (fs : List (Str × D)) (a a' l : Addr), i ≠ j → τ[i]? = some (some (.obj n c fs)) → ObS τ[j]? c' → σ[i]? = some (some (.ref a)) → σ[j]? = some (some (.ref a')) → l ∈ Lof H c a → l ∈ Lof H c' a' → False
  lo : ∀ (i j : Nat) (c : Str) (ds : List D) (a l : Addr), ObS τ[i]? c → τ[j]? = some (some (.own ds)) → σ[i]? = some (some (.ref a)) → σ[j]? = some (some (.ref l)) → l ∈ Lof H c a → False
def isOb : Option Sl → Bool
  | some (.obj _ _ _) => true
  | some (.obr _ _) => true
  | _ => false
def noObj (τ : DS) : Prop := ∀ (i : Nat) s, τ[i]? = some s → isOb s = false
omit [Tabs] in
theorem noObj.obs {τ : DS} (n : noObj τ) {i : Nat} {c : Str} (h : ObS τ[i]? c) : False := by
  rcases h with ⟨m, fs, h⟩ | ⟨fs, h⟩
  · have := n i _ h; cases this
  · have := n i _ h; cases this
theorem ObsOk.none {K : PySem.W.Frag} {F H : Hp} {τ : DS} {σ : St} (n : noObj τ) : ObsOk K F τ σ H :=
  ⟨fun i m c fs h => (by have := n i _ h; cases this), fun i j m c c' fs a _ h => (by have := n i _ h; cases this), fun i c fs h => (by have := n i _ h; cases this), fun i j m c c' fs a a' l _ h => (by have := n i _ h; cases this), fun i j c ds a l h => (n.obs h).elim⟩
theorem ObsOk.get {K : PySem.W.Frag} {F H : Hp} {τ : DS} {σ : St} {i : Nat} {c : Str} (o : ObsOk K F τ σ H) (h : ObS τ[i]? c) : ∃ a C dx vs fs, σ[i]? = some (some (.ref a)) ∧ H a = some (.ins C dx vs) ∧ Flds K F H c fs vs := by
  rcases h with ⟨m, fs, h⟩ | ⟨fs, h⟩
  · obtain ⟨a, h1, C, dx, vs, h2, _, _, h5, _⟩ := o.at_ i m c fs h
    exact ⟨a, C, dx, vs, fs, h1, h2, h5⟩
  · obtain ⟨a, C, dx, vs, h1, h2, _, h5⟩ := o.rd i c fs h
    exact ⟨a, C, dx, vs, fs, h1, h2, h5⟩
theorem ObsOk.keep {K : PySem.W.Frag} {F H F' H' : Hp} {τ : DS} {σ : St} (o : ObsOk K F τ σ H) (hf : Same F F') (hi : ∀ a C dx vs, H a = some (.ins C dx vs) → H' a = some (.ins C dx vs)) (hn : ∀ a C dx vs, H a = some (.ins C dx vs) → F a = Option.none → F' a = Option.none) (hd : ∀ d a, H d = some (.own a) → H' d = some (.own a))
    (hl : ∀ (i : Nat) (c : Str) (a l : Addr) (ws : List V), ObS τ[i]? c → σ[i]? = some (some (.ref a)) → l ∈ Lof H c a → H l = some (.lst ws) → F l = Option.none → H' l = some (.lst ws) ∧ F' l = Option.none) : ObsOk K F' τ σ H' := by
  have lof : ∀ {i : Nat} {c : Str} {a : Addr}, ObS τ[i]? c → σ[i]? = some (some (.ref a)) → Lof H' c a = Lof H c a := fun {i c a} h e => by
    obtain ⟨a', C, dx, vs, fs, h1, h2, _⟩ := o.get h
    rw [e] at h1; cases h1
    rw [Lof.ins h2, Lof.ins (hi _ _ _ _ h2)]
  refine ⟨fun i m c fs h => ?_, o.dis, fun i c fs h => ?_, fun i j m c c' fs a a' l hij h1 h2 h3 h4 h5 h6 => ?_, fun i j c ds a l h1 h2 h3 h4 h5 => ?_⟩
  · obtain ⟨a, h1, C, dx, vs, h2, h3, h4, h5, h6, h7⟩ := o.at_ i m c fs h
    exact ⟨a, h1, C, dx, vs, hi _ _ _ _ h2, hn _ _ _ _ h2 h3, h4, h5.keep hf fun l ws q => hl i c a l ws (.inl ⟨m, fs, h⟩) h1 (by rw [Lof.ins h2]; exact q), hd _ _ h6, h7⟩
  · obtain ⟨a, C, dx, vs, h1, h2, h4, h5⟩ := o.rd i c fs h
    exact ⟨a, C, dx, vs, h1, hi _ _ _ _ h2, h4, h5.keep hf fun l ws q => hl i c a l ws (.inr ⟨fs, h⟩) h1 (by rw [Lof.ins h2]; exact q)⟩
  · rw [lof (.inl ⟨m, fs, h1⟩) h3] at h5
    rw [lof h2 h4] at h6
    exact o.ll i j m c c' fs a a' l hij h1 h2 h3 h4 h5 h6
  · rw [lof h1 h3] at h5
    exact o.lo i j c ds a l h1 h2 h3 h4 h5
theorem ObsOk.ext {K : PySem.W.Frag} {F H F' H' : Hp} {τ : DS} {σ : St} (o : ObsOk K F τ σ H) (x : Ext F H F' H') : ObsOk K F' τ σ H' := by
  have nF : ∀ {a : Addr} {u : HO}, H a = some u → F a = Option.none → F' a = Option.none := fun {a u} h h3 => by
    cases q : F' a with
    | none => rfl
    | some w =>
      rcases x.nw a w q with z | z
      · rw [h3] at z; cases z
      · rw [h] at z; cases z
  exact o.keep x.ff (fun a C dx vs h => x.hh _ _ h) (fun a C dx vs h => nF h) (fun d a h => x.hh _ _ h) fun i c a l ws _ _ _ h h3 => ⟨x.hh _ _ h, nF h h3⟩
theorem ObsOk.updL {K : PySem.W.Frag} {F H : Hp} {τ : DS} {σ : St} {p : Addr} {u : HO} (o : ObsOk K F τ σ H) (hl : H p = .none ∨ ∃ vs, H p = some (.lst vs)) (hp : ∀ (i : Nat) (c : Str) (a : Addr), ObS τ[i]? c → σ[i]? = some (some (.ref a)) → p ∉ Lof H c a) : ObsOk K F τ σ (upd H p u) := by
  have ne : ∀ {a : Addr} {w : HO}, H a = some w → (∀ vs, w ≠ .lst vs) → a ≠ p := fun {a w} h n z => by
    subst z
    rcases hl with z | ⟨ws, z⟩
    · rw [z] at h; cases h
    · rw [z] at h; cases h; exact n _ rfl
  refine o.keep (Same.refl F) (fun a C dx vs h => ?_) (fun a C dx vs _ h => h) (fun d a h => ?_) fun i c a l ws h1 h2 h3 h4 h5 => ⟨?_, h5⟩
  · rw [upd_ne (ne h fun _ z => nomatch z)]; exact h
  · rw [upd_ne (ne h fun _ z => nomatch z)]; exact h
  · have : l ≠ p := fun z => by subst z; exact hp i c a h1 h2 h3
    rw [upd_ne this]; exact h4
omit [Tabs] in
theorem set_obj {τ : DS} {i j : Nat} {s u : Option Sl} (hs : isOb s = false) (hu : isOb u = true) (h : (τ.set i s)[j]? = some u) : i ≠ j ∧ τ[j]? = some u := by
  by_cases hij : i = j
  · subst hij
    rw [List.getElem?_set] at h
    simp only [if_true] at h
    split at h
    · cases h; rw [hs] at hu; cases hu
    · cases h
  · rw [List.getElem?_set_ne hij] at h; exact ⟨hij, h⟩
omit [Tabs] in
theorem set_obs {τ : DS} {i j : Nat} {s : Option Sl} {c : Str} (hs : isOb s = false) (h : ObS (τ.set i s)[j]? c) : i ≠ j ∧ ObS τ[j]? c := by
  rcases h with ⟨n, fs, h⟩ | ⟨fs, h⟩
  · obtain ⟨a, b⟩ := set_obj hs rfl h; exact ⟨a, .inl ⟨n, fs, b⟩⟩
  · obtain ⟨a, b⟩ := set_obj hs rfl h; exact ⟨a, .inr ⟨fs, b⟩⟩
theorem ObsOk.put {K : PySem.W.Frag} {F H : Hp} {τ : DS} {σ : St} {i : Nat} {s : Option Sl} {v : Option V} (o : ObsOk K F τ σ H) (hs : isOb s = false) (hw : ∀ ds l, s = some (.own ds) → v = some (.ref l) → ∀ (j : Nat) (c : Str) (a : Addr), ObS τ[j]? c → σ[j]? = some (some (.ref a)) → l ∉ Lof H c a) : ObsOk K F (τ.set i s) (σ.set i v) H :=
  ⟨fun j m c fs h => by
    obtain ⟨n, h⟩ := set_obj hs rfl h
    rw [List.getElem?_set_ne n]; exact o.at_ j m c fs h,
   fun j k m c c' fs a hjk h1 h2 h3 h4 => by
    obtain ⟨n1, h1⟩ := set_obj hs rfl h1
    obtain ⟨n2, h2⟩ := set_obs hs h2
    rw [List.getElem?_set_ne n1] at h3
    rw [List.getElem?_set_ne n2] at h4
    exact o.dis j k m c c' fs a hjk h1 h2 h3 h4,
   fun j c fs h => by
    obtain ⟨n, h⟩ := set_obj hs rfl h
    rw [List.getElem?_set_ne n]; exact o.rd j c fs h,
   fun j k m c c' fs a a' l hjk h1 h2 h3 h4 => by
    obtain ⟨n1, h1⟩ := set_obj hs rfl h1
    obtain ⟨n2, h2⟩ := set_obs hs h2
    rw [List.getElem?_set_ne n1] at h3
    rw [List.getElem?_set_ne n2] at h4
    exact o.ll j k m c c' fs a a' l hjk h1 h2 h3 h4,
   fun j k c ds a l h1 h2 h3 h4 h5 => by
    obtain ⟨n1, g1⟩ := set_obs hs h1
    rw [List.getElem?_set_ne n1] at h3
    by_cases e : i = k
    · subst e
      rw [List.getElem?_set] at h2 h4
      simp only [if_true] at h2 h4
      split at h2
      · split at h4
        · exact hw ds l (by simpa using h2) (by simpa using h4) j c a g1 h3 h5
        · cases h4
      · cases h2
    · rw [List.getElem?_set_ne e] at h2 h4
      exact o.lo j k c ds a l g1 h2 h3 h4 h5⟩
theorem ObsOk.putS {K : PySem.W.Frag} {F H : Hp} {τ : DS} {σ : St} {i : Nat} {ds es : List D} (o : ObsOk K F τ σ H) (hi : τ[i]? = some (some (.own ds))) : ObsOk K F (τ.set i (some (.own es))) σ H :=
  ⟨fun j m c fs h => o.at_ j m c fs (set_obj (s := some (.own es)) rfl rfl h).2, fun j k m c c' fs a hjk h1 h2 => o.dis j k m c c' fs a hjk (set_obj (s := some (.own es)) rfl rfl h1).2 (set_obs (s := some (.own es)) rfl h2).2, fun j c fs h => o.rd j c fs (set_obj (s := some (.own es)) rfl rfl h).2,
   fun j k m c c' fs a a' l hjk h1 h2 => o.ll j k m c c' fs a a' l hjk (set_obj (s := some (.own es)) rfl rfl h1).2 (set_obs (s := some (.own es)) rfl h2).2, fun j k c ds' a l h1 h2 h3 h4 h5 => by
    have h1 := (set_obs (s := some (.own es)) rfl h1).2
    by_cases e : i = k
    · subst e; exact o.lo j i c ds a l h1 hi h3 h4 h5
    · rw [List.getElem?_set_ne e] at h2; exact o.lo j k c ds' a l h1 h2 h3 h4 h5⟩
theorem ObsOk.fresh {K : PySem.W.Frag} {F H : Hp} {τ : DS} {σ : St} {p : Addr} (o : ObsOk K F τ σ H) (hp : H p = .none) : ∀ (i : Nat) (c : Str) (a : Addr), ObS τ[i]? c → σ[i]? = some (some (.ref a)) → p ∉ Lof H c a := fun i c a h e hl => by
  obtain ⟨a', C, dx, vs, fs, h1, h2, h3⟩ := o.get h
  rw [e] at h1; cases h1
  rw [Lof.ins h2] at hl
  obtain ⟨_, ws, q⟩ := h3.own hl
  rw [hp] at q; cases q
theorem ObsOk.lof {K : PySem.W.Frag} {F H : Hp} {τ : DS} {σ : St} {i : Nat} {c : Str} {a p : Addr} {u : HO} (o : ObsOk K F τ σ H) (h1 : ObS τ[i]? c) (h2 : σ[i]? = some (some (.ref a))) (hl : H p = .none ∨ ∃ vs, H p = some (.lst vs)) : Lof (upd H p u) c a = Lof H c a := by
  obtain ⟨a', C, dx, vs, fs, h3, h4, _⟩ := o.get h1
  rw [h2] at h3; cases h3
  have : a ≠ p := fun z => by
    subst z
    rcases hl with z | ⟨ws, z⟩
    · rw [z] at h4; cases h4
    · rw [z] at h4; cases h4
  rw [Lof.ins h4, Lof.ins (show upd H p u a = some (.ins C dx vs) by rw [upd_ne this]; exact h4)]
structure RV (K : PySem.W.Frag) (F : Hp) (τ : DS) (σ : St) (H : Hp) : Prop where
  fh : Same F H
  len : τ.length = σ.length
  val : ∀ (i : Nat) (d : D), τ[i]? = some (some (.val d)) → ∃ v, σ[i]? = some (some v) ∧ Rep K F d v
  own : ∀ (i : Nat) (ds : List D), τ[i]? = some (some (.own ds)) → ∃ a vs, σ[i]? = some (some (.ref a)) ∧ H a = some (.lst vs) ∧ F a = none ∧ Reps K F ds vs
  dis : ∀ (i j : Nat) (ds es : List D) (a : Addr), i ≠ j → τ[i]? = some (some (.own ds)) → τ[j]? = some (some (.own es)) → σ[i]? = some (some (.ref a)) → σ[j]? = some (some (.ref a)) → False
  tt : TbT F H
  ob : ObsOk K F τ σ H
theorem RV.ext {K : PySem.W.Frag} {F H F' H' : Hp} {τ : DS} {σ : St} (R : RV K F τ σ H) (x : Ext F H F' H') : RV K F' τ σ H' :=
  ⟨x.fh, R.len, fun i d e => by
    obtain ⟨v, h1, h2⟩ := R.val i d e
    exact ⟨v, h1, h2.mono x.ff⟩,
   fun i ds e => by
    obtain ⟨a, vs, h1, h2, h3, h4⟩ := R.own i ds e
    refine ⟨a, vs, h1, x.hh _ _ h2, ?_, h4.mono x.ff⟩
    cases q : F' a with
    | none => rfl
    | some o =>
      rcases x.nw a o q with z | z
      · rw [h3] at z; cases z
      · rw [h2] at z; exact absurd z (by simp),
   R.dis, x.tt R.tt, R.ob.ext x⟩
structure RS (K : PySem.W.Frag) (B Z F : Hp) (τ : DS) (σ : St) (H : Hp) : Prop where
  rv : RV K F τ σ H
  bh : Hh B H
  zf : Same Z F
  nb : ∀ a o, F a = some o → Z a = some o ∨ B a = none
  ob : ∀ (i : Nat) (ds : List D) (a : Addr), τ[i]? = some (some (.own ds)) → σ[i]? = some (some (.ref a)) → B a = none
  oo : ∀ (i n : Nat) (c : Str) (fs : List (Str × D)) (a : Addr), τ[i]? = some (some (.obj n c fs)) → σ[i]? = some (some (.ref a)) → B a = none ∧ ∀ l ∈ Lof H c a, B l = none
  sf : ∀ (a0 dx : Addr), B dx = some (.own a0) → B a0 = none → ∀ (i n : Nat) (c : Str) (fs : List (Str × D)), τ[i]? = some (some (.obj (n + 1) c fs)) → σ[i]? = some (some (.ref a0))
  ro : ∀ (i : Nat) (c : Str) (fs : List (Str × D)) (a : Addr), τ[i]? = some (some (.obr c fs)) → σ[i]? = some (some (.ref a)) → ∃ C dx vs, B a = some (.ins C dx vs) ∧ ∀ l ∈ ownL c vs, ∃ ws, B l = some (.lst ws)
theorem RS.ext {K : PySem.W.Frag} {B Z F H F' H' : Hp} {τ : DS} {σ : St} (R : RS K B Z F τ σ H) (x : Ext F H F' H') : RS K B Z F' τ σ H' :=
  ⟨R.rv.ext x, R.bh.trans x.hh, R.zf.trans x.ff, fun a o e => by
    rcases x.nw a o e with q | q
    · exact R.nb a o q
    · exact .inr (none_of_hh R.bh q), R.ob, fun i n c fs a h1 h2 => by
    obtain ⟨q1, q2⟩ := R.oo i n c fs a h1 h2
    refine ⟨q1, fun l hl => q2 l ?_⟩
    obtain ⟨a', h3, C, dx, vs, h4, _⟩ := R.rv.ob.at_ i n c fs h1
    rw [h2] at h3; cases h3
    rw [Lof.ins h4]
    rw [Lof.ins (x.hh _ _ h4 : H' a = some (.ins C dx vs))] at hl
    exact hl, R.sf, R.ro⟩
theorem RS.out {K : PySem.W.Frag} {B Z F H : Hp} {τ : DS} {σ : St} (R : RS K B Z F τ σ H) : Ext Z B F H := ⟨R.zf, R.bh, R.rv.fh, R.nb, fun _ => R.rv.tt⟩
def Xob (X : Cx) (c : Str) : Prop := ∀ e s', X.xe e s'
def Ok (X : Cx) {α : Type} (r : Rs α) (P : α → Prop) : Prop := match r with
  | .ok a => P a
  | .ex c => Xob X c
  | .no => False
theorem Ok.bind {X : Cx} {α β : Type} {r : Rs α} {k : α → Rs β} {P : β → Prop} (h : Ok X (r.bind k) P) : Ok X r fun a => Ok X (k a) P := by
  cases r <;> exact h
theorem Ok.imp {X : Cx} {α : Type} {r : Rs α} {P Q : α → Prop} (h : Ok X r P) (f : ∀ a, P a → Q a) : Ok X r Q := by
  cases r with
  | ok a => exact f a h
  | ex c => exact h
  | no => exact h
abbrev FE := DS → Rs D
abbrev FA := DS → Rs (List D)
abbrev FT := DS → Rs Bool
def Ev (K : PySem.W.Frag) (F H : Hp) (Q : VK) (d : D) : Prop := ∀ v F' H', Ext F H F' H' → Rep K F' d v → Q v H'
def Evs (K : PySem.W.Frag) (F H : Hp) (Q : List V → Hp → Prop) (ds : List D) : Prop := ∀ vs F' H', Ext F H F' H' → Reps K F' ds vs → Q vs H'
def Evb (F H : Hp) (Q : Bool → Hp → Prop) (b : Bool) : Prop := ∀ F' H', Ext F H F' H' → Q b H'
theorem Ev.ext {K : PySem.W.Frag} {F H F1 H1 : Hp} {Q : VK} {d : D} (h : Ev K F H Q d) (x : Ext F H F1 H1) : Ev K F1 H1 Q d := fun v F' H' y r => h v F' H' (x.trans y) r
theorem Evb.ext {F H F1 H1 : Hp} {Q : Bool → Hp → Prop} {d : Bool} (h : Evb F H Q d) (x : Ext F H F1 H1) : Evb F1 H1 Q d := fun F' H' y => h F' H' (x.trans y)
def tE (X : Cx) (f : FE) : TE := fun σ H Q => ∃ F τ, RV X.K F τ σ H ∧ Ok X (f τ) (Ev X.K F H Q)
def tAs (X : Cx) (f : FA) : TA := fun σ H Q => ∃ F τ, RV X.K F τ σ H ∧ Ok X (f τ) (Evs X.K F H Q)
def tTs (X : Cx) (f : FT) : TT := fun σ H Q => ∃ F τ, RV X.K F τ σ H ∧ Ok X (f τ) (Evb F H Q)
def PDE (X : Cx) (e : Expr) (f : FE) : Prop := PE X e (tE X f)
def PDA (X : Cx) (e : List Expr) (f : FA) : Prop := PA X e (tAs X f)
def PDT (X : Cx) (e : Expr) (f : FT) : Prop := PT X e (tTs X f)
def PDW (X : Cx) (e : Expr) (f : FT) : Prop := PW X e (tTs X f)
theorem _root_.L2.PE.imp {X : Cx} {e : Expr} {t t' : TE} (h : PE X e t) (f : ∀ σ H Q, t' σ H Q → t σ H Q) : PE X e t' := fun pins s σ H Q I q => h pins s σ H Q I (f _ _ _ q)
theorem _root_.L2.PT.imp {X : Cx} {e : Expr} {t t' : TT} (h : PT X e t) (f : ∀ σ H Q, t' σ H Q → t σ H Q) : PT X e t' := fun pins s σ H Q I q => h pins s σ H Q I (f _ _ _ q)
theorem _root_.L2.PW.imp {X : Cx} {e : Expr} {t t' : TT} (h : PW X e t) (f : ∀ σ H Q, t' σ H Q → t σ H Q) : PW X e t' := fun w pins s σ H Q I q => h w pins s σ H Q I (f _ _ _ q)
theorem _root_.L2.PA.imp {X : Cx} {e : List Expr} {t t' : TA} (h : PA X e t) (f : ∀ σ H Q, t' σ H Q → t σ H Q) : PA X e t' := fun p pins s σ H Q I q => h p pins s σ H Q I (f _ _ _ q)
theorem _root_.L2.PS.imp {X : Cx} {e : Stmt} {t t' : TS} (h : PS X e t) (f : ∀ E σ H, t' E σ H → t E σ H) : PS X e t' := fun pins s σ H Q I q => h pins s σ H Q I (f _ _ _ q)
theorem _root_.L2.PSs.imp {X : Cx} {e : List Stmt} {t t' : TS} (h : PSs X e t) (f : ∀ E σ H, t' E σ H → t E σ H) : PSs X e t' := fun pins s σ H Q I q => h pins s σ H Q I (f _ _ _ q)
theorem tE.of {X : Cx} {f : FE} {F H : Hp} {τ : DS} {σ : St} {Q : VK} {G : D → Prop} (R : RV X.K F τ σ H) (h : Ok X (f τ) G)
    (k : ∀ d v F1 H1, G d → Ext F H F1 H1 → RV X.K F1 τ σ H1 → Rep X.K F1 d v → Q v H1) : tE X f σ H Q :=
  ⟨F, τ, R, h.imp fun d g v F1 H1 x r => k d v F1 H1 g x (R.ext x) r⟩
theorem tAs.of {X : Cx} {f : FA} {F H : Hp} {τ : DS} {σ : St} {Q : List V → Hp → Prop} {G : List D → Prop} (R : RV X.K F τ σ H) (h : Ok X (f τ) G)
    (k : ∀ d v F1 H1, G d → Ext F H F1 H1 → RV X.K F1 τ σ H1 → Reps X.K F1 d v → Q v H1) : tAs X f σ H Q :=
  ⟨F, τ, R, h.imp fun d g v F1 H1 x r => k d v F1 H1 g x (R.ext x) r⟩
theorem tTs.of {X : Cx} {f : FT} {F H : Hp} {τ : DS} {σ : St} {Q : Bool → Hp → Prop} {G : Bool → Prop} (R : RV X.K F τ σ H) (h : Ok X (f τ) G)
    (k : ∀ b F1 H1, G b → Ext F H F1 H1 → RV X.K F1 τ σ H1 → Q b H1) : tTs X f σ H Q :=
  ⟨F, τ, R, h.imp fun d g F1 H1 x => k d F1 H1 g x (R.ext x)⟩
def eVar (i : Nat) : FE := fun τ => match τ[i]? with
  | some (some (.val d)) => .ok d
  | _ => .no
section
variable {X : Cx} {pos : Pos}
theorem pde_var {i : Nat} {x : Str} (h : PE X (.Name x pos) (tVar i)) : PDE X (.Name x pos) (eVar i) := h.imp fun σ H Q ⟨F, τ, R, q⟩ => by
  unfold eVar at q
  cases e : τ[i]? with
  | none => rw [e] at q; exact q.elim
  | some o =>
    cases o with
    | none => rw [e] at q; exact q.elim
    | some sl =>
      cases sl with
      | own ds => rw [e] at q; exact q.elim
      | obj n c fs => rw [e] at q; exact q.elim
      | obr c fs => rw [e] at q; exact q.elim
      | val d =>
        rw [e] at q
        obtain ⟨v, h1, h2⟩ := R.val i d e
        exact ⟨v, h1, q v F H (Ext.refl R.fh) h2⟩
def eC (d : D) : FE := fun _ => .ok d
theorem pde_c {e : Expr} {v : V} {d : D} (h : PE X e (tC v)) (r : ∀ F, Rep X.K F d v) : PDE X e (eC d) := h.imp fun σ H Q ⟨F, τ, R, q⟩ => q v F H (Ext.refl R.fh) (r F)
theorem pde_int {i j} : PDE X (.Constant (.int i) j pos) (eC (.int i)) := pde_c pe_int fun _ => by simp only [Rep]
theorem pde_bl {i j} : PDE X (.Constant (.bool i) j pos) (eC (.bl i)) := pde_c pe_bl fun _ => by simp only [Rep]
theorem pde_non {j} : PDE X (.Constant .none j pos) (eC .non) := pde_c pe_non fun _ => by simp only [Rep]
theorem pde_str {i j} : PDE X (.Constant (.str i) j pos) (eC (.str i)) := pde_c pe_str fun _ => by simp only [Rep]
end
end FD
set_option Elab.async false
set_option linter.all false
set_option maxRecDepth 100000
namespace FD
open PySem PySem.Spec PyProof.Rows L2
variable [Tabs]
def OpD (X : Cx) (g : Value → Value → Sem Value) (op : D → D → Rs D) : Prop := ∃ r : R2, OpR X g r ∧
  ∀ F H x y dx dy Q, Same F H → Rep X.K F dx x → Rep X.K F dy y → Ok X (op dx dy) (Ev X.K F H Q) → r x y H Q
def eOp (op : D → D → Rs D) (fa fb : FE) : FE := fun τ => (fa τ).bind fun x => (fb τ).bind fun y => op x y
section
variable {X : Cx} {pos : Pos} {a b c : Expr} {fa fb fc : FE}
theorem op_of {r : R2} {op : D → D → Rs D} (hl : ∀ F H x y dx dy Q, Same F H → Rep X.K F dx x → Rep X.K F dy y → Ok X (op dx dy) (Ev X.K F H Q) → r x y H Q)
    (σ : St) (H : Hp) (Q : VK) (h : tE X (eOp op fa fb) σ H Q) : tOp r (tE X fa) (tE X fb) σ H Q := by
  obtain ⟨F, τ, R, h⟩ := h
  refine tE.of R h.bind fun x u F1 H1 g x1 R1 r1 => ?_
  refine tE.of R1 g.bind fun y v F2 H2 g2 x2 R2 r2 => ?_
  exact hl F2 H2 u v x y Q R2.fh (r1.mono x2.ff) r2 (g2.imp fun d e => e.ext (x1.trans x2))
theorem pde_op {o : Operator} {op : D → D → Rs D} (ho : OpD X (binaryOp o) op) (ha : PDE X a fa) (hb : PDE X b fb) : PDE X (.BinOp a o b pos) (eOp op fa fb) := by
  obtain ⟨r, h1, h2⟩ := ho
  exact (pe_op h1 ha hb).imp (op_of h2)
theorem pde_cmp {o : CmpOp} {op : D → D → Rs D} (ho : OpD X (compareOp o) op) (ha : PDE X a fa) (hb : PDE X b fb) (hm : behindInMarks o b = false) : PDE X (.Compare a [o] [b] pos) (eOp op fa fb) := by
  obtain ⟨r, h1, h2⟩ := ho
  exact (pe_cmpR h1 ha hb hm).imp (op_of h2)
def tB (f : FE) : FT := fun τ => (f τ).bind fun d => match d with
  | .bl b => .ok b
  | _ => .no
theorem test_of {t : FE} {u : TE} (hi : ∀ σ H Q, tE X t σ H Q → u σ H Q) (σ : St) (H : Hp) (Q : Bool → Hp → Prop) (h : tTs X (tB t) σ H Q) : tTest u σ H Q := by
  obtain ⟨F, τ, R, h⟩ := h
  refine hi σ H _ (tE.of R h.bind fun d v F1 H1 g x R1 r => ?_)
  cases d with
  | bl k => simp only [Rep] at r; exact ⟨k, r, g F1 H1 x⟩
  | _ => exact g.elim
theorem pdt_cmp {o : CmpOp} {op : D → D → Rs D} (ho : OpD X (compareOp o) op) (ha : PDE X a fa) (hb : PDE X b fb) (hm : behindInMarks o b = false) : PDT X (.Compare a [o] [b] pos) (tB (eOp op fa fb)) := by
  obtain ⟨r, h1, h2⟩ := ho
  exact (pt_cmpR h1 ha hb hm).imp (test_of (op_of h2))
def truD : D → Rs Bool
  | .non => .ok false
  | .bl b => .ok b
  | .int i => .ok (i != 0)
  | .str x => if x.length ≤ sizeLine then .ok ((x.length : Int) != 0) else .no
  | .lst ds => .ok (!ds.isEmpty)
  | .tup ds => .ok (!ds.isEmpty)
  | .scr ns => .ok (!ns.isEmpty)
  | .raw _ => .no
  | .exc _ => .no
  | .dct _ _ => .no
theorem isEmpty_reps {K : PySem.W.Frag} {F : Hp} {ds : List D} {vs : List V} (h : Reps K F ds vs) : ds.isEmpty = vs.isEmpty := by
  have := h.length
  cases ds <;> cases vs <;> simp_all
theorem tru_of {F H : Hp} {d : D} {v : V} {Q : Bool → Hp → Prop} (fh : Same F H) (r : Rep X.K F d v) (h : Ok X (truD d) (fun b => Q b H)) : ∃ k, TruV X.K v H k ∧ Q k H := by
  cases d with
  | non => simp only [Rep] at r; subst r; exact ⟨_, rfl, h⟩
  | bl b => simp only [Rep] at r; subst r; exact ⟨_, rfl, h⟩
  | int i => simp only [Rep] at r; subst r; exact ⟨_, rfl, h⟩
  | str x =>
    simp only [Rep] at r; subst r
    (delta truD at h; dsimp only at h)
    by_cases z : x.length ≤ sizeLine
    · rw [if_pos z] at h; exact ⟨_, ⟨z, rfl⟩, h⟩
    · rw [if_neg z] at h; exact h.elim
  | lst ds =>
    simp only [Rep] at r; obtain ⟨a, vs, rfl, e, q⟩ := r
    refine ⟨!vs.isEmpty, .inl ⟨vs, SqL.of (fh _ _ e), rfl⟩, ?_⟩
    rw [← isEmpty_reps q]; exact h
  | tup ds =>
    simp only [Rep] at r; obtain ⟨a, vs, rfl, e, q⟩ := r
    refine ⟨!vs.isEmpty, .inr (.inl ⟨vs, Same.seqT fh e, rfl⟩), ?_⟩
    rw [← isEmpty_reps q]; exact h
  | scr ns =>
    simp only [Rep] at r; obtain ⟨a, rfl, e⟩ := r
    refine ⟨!(ns.map V.int).isEmpty, .inl ⟨_, fh.seq e, rfl⟩, ?_⟩
    have e2 : (ns.map V.int).isEmpty = ns.isEmpty := by cases ns <;> rfl
    rw [e2]; exact h
  | raw u => exact h.elim
  | exc c => exact h.elim
  | dct _ _ => exact h.elim
def tTru (f : FE) : FT := fun τ => (f τ).bind truD
theorem pdt_tru (ha : PDE X a fa) (he : ∀ whole, isTrue a X.env whole = (do let v ← whole; standAt a.pos; holding [v] (truthy v)) := by intro _; rfl) : PDT X a (tTru fa) :=
  (pt_truth ha he).imp fun σ H Q ⟨F, τ, R, h⟩ => tE.of R h.bind fun d v F1 H1 g x R1 r => tru_of R1.fh r (g.imp fun b e => e F1 H1 x)
def tAndD (f g : FT) : FT := fun τ => (f τ).bind fun b => if b = true then g τ else .ok false
def tOrD (f g : FT) : FT := fun τ => (f τ).bind fun b => if b = true then .ok true else g τ
def tNotD (f : FT) : FT := fun τ => (f τ).bind fun b => .ok (!b)
variable {ga gb : FT} {rest : List Expr}
theorem pdw_and1 (ha : PDT X a ga) : PDW X (.BoolOp .And [a] pos) ga := pw_and1 ha
theorem pdw_or1 (ha : PDT X a ga) : PDW X (.BoolOp .Or [a] pos) ga := pw_or1 ha
theorem pdw_and (ha : PDT X a ga) (hb : PDW X (.BoolOp .And (b :: rest) pos) gb) : PDW X (.BoolOp .And (a :: b :: rest) pos) (tAndD ga gb) :=
  PW.imp (pw_and ha hb) fun σ H Q ⟨F, τ, R, h⟩ => tTs.of R h.bind fun k F1 H1 g x R1 => by
    cases k with
    | true => rw [if_pos rfl]; rw [if_pos rfl] at g; exact ⟨F1, τ, R1, g.imp fun d e => e.ext x⟩
    | false => rw [if_neg (by simp)]; rw [if_neg (by simp)] at g; exact g F1 H1 x
theorem pdw_or (ha : PDT X a ga) (hb : PDW X (.BoolOp .Or (b :: rest) pos) gb) : PDW X (.BoolOp .Or (a :: b :: rest) pos) (tOrD ga gb) :=
  PW.imp (pw_or ha hb) fun σ H Q ⟨F, τ, R, h⟩ => tTs.of R h.bind fun k F1 H1 g x R1 => by
    cases k with
    | false => rw [if_neg (by simp)]; rw [if_neg (by simp)] at g; exact ⟨F1, τ, R1, g.imp fun d e => e.ext x⟩
    | true => rw [if_pos rfl]; rw [if_pos rfl] at g; exact g F1 H1 x
theorem pdt_w {e : Expr} (h : PDW X e ga) : PDT X e ga := PW.pt h
theorem pdt_not (ha : PDT X a ga) : PDT X (.UnaryOp .Not a pos) (tNotD ga) :=
  PT.imp (pt_not ha) fun σ H Q ⟨F, τ, R, h⟩ => tTs.of R h.bind fun k F1 H1 g x R1 => g F1 H1 x
def eIf (g : FT) (fa fb : FE) : FE := fun τ => (g τ).bind fun b => if b = true then fa τ else fb τ
theorem pde_if (hc : PDT X c ga) (ha : PDE X a fa) (hb : PDE X b fb) : PDE X (.IfExp c a b pos) (eIf ga fa fb) :=
  PE.imp (pe_ifExp hc ha hb) fun σ H Q ⟨F, τ, R, h⟩ => tTs.of R h.bind fun k F1 H1 g x R1 => by
    cases k with
    | true => rw [if_pos rfl]; rw [if_pos rfl] at g; exact ⟨F1, τ, R1, g.imp fun d e => e.ext x⟩
    | false => rw [if_neg (by simp)]; rw [if_neg (by simp)] at g; exact ⟨F1, τ, R1, g.imp fun d e => e.ext x⟩
def eAnd (fa fb : FE) : FE := fun τ => (fa τ).bind fun x => (truD x).bind fun b => if b = true then fb τ else .ok x
def eOr (fa fb : FE) : FE := fun τ => (fa τ).bind fun x => (truD x).bind fun b => if b = true then .ok x else fb τ
theorem pde_one {op} (h : PDE X a fa) : PDE X (.BoolOp op [a] pos) fa := pe_one h
theorem pde_and (ha : PDE X a fa) (hb : PDE X (.BoolOp .And (b :: rest) pos) fb) : PDE X (.BoolOp .And (a :: b :: rest) pos) (eAnd fa fb) := by
  intro pins s σ H Q I ⟨F, τ, R, h⟩
  refine BoolOp_and (thn (ha pins s σ H _ I (tE.of R h.bind fun d v F1 H1 g x R1 r => (⟨d, F1, g, x, R1, r⟩ : ∃ d F1, Ok X ((truD d).bind fun b => if b = true then fb τ else .ok d) (Ev X.K F H Q) ∧ Ext F H F1 H1 ∧ RV X.K F1 τ σ H1 ∧ Rep X.K F1 d v))) fun v s1 ⟨x, H1, I1, r1, d, F1, g, x1, R1, r⟩ => ?_)
  refine thn (tru_ok pins s1 σ H1 x v (fun b H2 => H2 = H1 ∧ Ok X (if b = true then fb τ else .ok d) (Ev X.K F H Q)) I1 r1 (tru_of (Q := fun b H2 => H2 = H1 ∧ Ok X (if b = true then fb τ else .ok d) (Ev X.K F H Q)) R1.fh r (g.bind.imp fun b e => ⟨rfl, e⟩))) fun k s2 ⟨H2, I2, e2, q⟩ => ?_
  subst e2
  cases k with
  | true => rw [if_pos rfl] at q ⊢; exact hb pins s2 σ _ Q I2 ⟨F1, τ, R1, q.imp fun d e => e.ext x1⟩
  | false => rw [if_neg (by simp)] at q ⊢; exact ⟨x, _, I2, r1, q x F1 _ x1 r⟩
theorem pde_or (ha : PDE X a fa) (hb : PDE X (.BoolOp .Or (b :: rest) pos) fb) : PDE X (.BoolOp .Or (a :: b :: rest) pos) (eOr fa fb) := by
  intro pins s σ H Q I ⟨F, τ, R, h⟩
  refine BoolOp_or (thn (ha pins s σ H _ I (tE.of R h.bind fun d v F1 H1 g x R1 r => (⟨d, F1, g, x, R1, r⟩ : ∃ d F1, Ok X ((truD d).bind fun b => if b = true then .ok d else fb τ) (Ev X.K F H Q) ∧ Ext F H F1 H1 ∧ RV X.K F1 τ σ H1 ∧ Rep X.K F1 d v))) fun v s1 ⟨x, H1, I1, r1, d, F1, g, x1, R1, r⟩ => ?_)
  refine thn (tru_ok pins s1 σ H1 x v (fun b H2 => H2 = H1 ∧ Ok X (if b = true then .ok d else fb τ) (Ev X.K F H Q)) I1 r1 (tru_of (Q := fun b H2 => H2 = H1 ∧ Ok X (if b = true then .ok d else fb τ) (Ev X.K F H Q)) R1.fh r (g.bind.imp fun b e => ⟨rfl, e⟩))) fun k s2 ⟨H2, I2, e2, q⟩ => ?_
  subst e2
  cases k with
  | false => rw [if_neg (by simp)] at q ⊢; exact hb pins s2 σ _ Q I2 ⟨F1, τ, R1, q.imp fun d e => e.ext x1⟩
  | true => rw [if_pos rfl] at q ⊢; exact ⟨x, _, I2, r1, q x F1 _ x1 r⟩
end
end FD
set_option Elab.async false
set_option linter.all false
set_option maxRecDepth 100000
namespace FD
open PySem PySem.Spec PyProof.Rows L2
variable [Tabs]
section
variable {X : Cx} {pos : Pos} {e : Expr} {es : List Expr} {fe : FE} {fs : FA}
def aNil : FA := fun _ => .ok []
def aCons (f : FE) (g : FA) : FA := fun τ => (f τ).bind fun x => (g τ).bind fun r => .ok (x :: r)
theorem pda_nil : PDA X [] aNil := PA.imp pa_nil fun σ H Q ⟨F, τ, R, h⟩ => h [] F H (Ext.refl R.fh) Reps.nil
theorem pda_cons (ha : PDE X e fe) (hr : PDA X es fs) (hs : starEach (e :: es) X.env = (false, eval e X.env) :: starEach es X.env := by rfl) : PDA X (e :: es) (aCons fe fs) :=
  PA.imp (pa_cons ha hr hs) fun σ H Q ⟨F, τ, R, h⟩ => tE.of R h.bind fun x v F1 H1 g x1 R1 r1 => tAs.of R1 g.bind fun ys vs F2 H2 g2 x2 R2 r2 =>
    g2 (v :: vs) F2 H2 (x1.trans x2) (Reps.cons (r1.mono x2.ff) r2)
def eLst (f : FA) : FE := fun τ => (f τ).bind fun ds => if ds.length ≤ sizeLine then .ok (.lst ds) else .no
theorem ok_ite {X : Cx} {α : Type} {c : Prop} [Decidable c] {a : α} {P : α → Prop} (h : Ok X (if c then .ok a else .no) P) : c ∧ P a := by
  by_cases z : c
  · rw [if_pos z] at h; exact ⟨z, h⟩
  · rw [if_neg z] at h; exact h.elim
theorem pde_lst (h : PDA X es fs) : PDE X (.List es pos) (eLst fs) :=
  PE.imp (pe_lst h) fun σ H Q ⟨F, τ, R, hq⟩ => tAs.of R hq.bind fun ds vs F1 H1 g x R1 r => by
    obtain ⟨z, g⟩ := ok_ite g
    refine ⟨by rw [← r.length]; exact z, fun p hp => g (.ref p) _ _ (x.trans (Ext.new R1.fh hp)) ?_⟩
    simp only [Rep]
    exact ⟨p, vs, rfl, upd_same, r.mono (same_upd (none_of_same R1.fh hp))⟩
end
inductive Fl where
  | nx (τ : DS) | rt (d : D) | bk (τ : DS) | ct (τ : DS) | ex (c : Str) | no
  | rs (c : Str) (τ : DS)
  | ro (d : D) (τ : DS)
  | rb (i : Nat) (τ : DS)
def Nw (X : Cx) (H : Hp) (b : Addr) : Prop := H b = none ∧ X.s₀.heap.get? b = none ∧ ∀ p ∈ X.pn, p.1 ≠ b
def ExcAt (X : Cx) (H : Hp) (h : Heap) (a : Addr) (cls : Value) : Prop := Nw X H a ∧ ∃ oe vs, h.get? a = some oe ∧ oe.cls = cls ∧ oe.dict = none ∧ oe.data = .fields vs ∧
  (vs[1]? = some .none ∨ ∃ T oT ts, vs[1]? = some (.ref T) ∧ Nw X H T ∧ T ≠ a ∧ h.get? T = some oT ∧ oT.data = .fields ts ∧ ts[3]? = some .none) ∧ vs[2]? = some .none
def XA (X : Cx) (c : Str) (σ : St) (H : Hp) : Prop := ∀ s a cls, PySem.W.nsIn X.K mainGlobals c = some (some cls) → Inv X [] σ H s → ExcAt X H s.heap a cls → X.xe (.ref a) s
abbrev FS := DS → Fl
def Post (X : Cx) (B Z F : Hp) (E : Ends) : Fl → Prop
  | .nx τ => ∀ σ F' H', Same F F' → RS X.K B Z F' τ σ H' → E.nx σ H'
  | .bk τ => ∀ σ F' H', Same F F' → RS X.K B Z F' τ σ H' → E.bk σ H'
  | .ct τ => ∀ σ F' H', Same F F' → RS X.K B Z F' τ σ H' → E.ct σ H'
  | .rt d => ∀ v F' H', Ext Z B F' H' → Rep X.K F' d v → E.rt v H'
  | .ex c => Xob X c
  | .no => False
  | .rs c τ => ∀ σ F' H', Same F F' → RS X.K B Z F' τ σ H' → XA X c σ H'
  | .ro d τ => ∀ v σ F' H', Same F F' → RS X.K B Z F' τ σ H' → Rep X.K F' d v → E.rt v H'
  | .rb i τ => ∀ v σ F' H', Same F F' → RS X.K B Z F' τ σ H' → σ[i]? = some (some v) → E.rt v H'
theorem Post.same {X : Cx} {B Z F F1 : Hp} {E : Ends} {r : Fl} (h : Post X B Z F E r) (f : Same F F1) : Post X B Z F1 E r := by
  cases r with
  | nx τ => exact fun σ F' H' g R => h σ F' H' (f.trans g) R
  | bk τ => exact fun σ F' H' g R => h σ F' H' (f.trans g) R
  | ct τ => exact fun σ F' H' g R => h σ F' H' (f.trans g) R
  | rt d => exact h
  | ex c => exact h
  | no => exact h
  | rs c τ => exact fun σ F' H' g R => h σ F' H' (f.trans g) R
  | ro d τ => exact fun v σ F' H' g R r => h v σ F' H' (f.trans g) R r
  | rb i τ => exact fun v σ F' H' g R r => h v σ F' H' (f.trans g) R r
def tS (X : Cx) (f : FS) : TS := fun E σ H => ∃ B Z F τ, RS X.K B Z F τ σ H ∧ Post X B Z F E (f τ)
def PDS (X : Cx) (st : Stmt) (f : FS) : Prop := PS X st (tS X f)
def PDSs (X : Cx) (st : List Stmt) (f : FS) : Prop := PSs X st (tS X f)
def Fl.of {α : Type} (r : Rs α) (k : α → Fl) : Fl := match r with
  | .ok a => k a
  | .ex c => .ex c
  | .no => .no
@[simp] theorem Fl.of_ok {α : Type} (a : α) (k : α → Fl) : Fl.of (.ok a) k = k a := rfl
theorem Post.of {X : Cx} {B Z F : Hp} {E : Ends} {α : Type} {r : Rs α} {k : α → Fl} (h : Post X B Z F E (Fl.of r k)) : Ok X r fun a => Post X B Z F E (k a) := by
  cases r <;> exact h
section
variable {X : Cx} {pos : Pos} {e : Expr} {es : List Expr} {fe : FE} {fs : FA} {st : Stmt} {rest : List Stmt} {f g : FS} {c : Expr} {gc : FT}
def sNext : FS := fun τ => .nx τ
def sSeq (f g : FS) : FS := fun τ => match f τ with
  | .nx τ' => g τ'
  | r => r
theorem pdss_nil : PDSs X [] sNext := PSs.imp pss_nil fun E σ H ⟨B, Z, F, τ, R, h⟩ => h σ F H (Same.refl F) R
theorem pdss_one (h : PDS X st f) : PDSs X [st] f := pss_one h
theorem pdss_cons (h1 : PDS X st f) (h2 : PDSs X rest g) : PDSs X (st :: rest) (sSeq f g) :=
  PSs.imp (pss_cons h1 h2) fun E σ H ⟨B, Z, F, τ, R, h⟩ => by
    refine ⟨B, Z, F, τ, R, ?_⟩
    unfold sSeq at h
    cases q : f τ with
    | nx τ' => rw [q] at h; exact fun σ' F' H' ff R' => ⟨B, Z, F', τ', R', Post.same h ff⟩
    | rt d => rw [q] at h; exact h
    | bk d => rw [q] at h; exact h
    | ct d => rw [q] at h; exact h
    | ex d => rw [q] at h; exact h
    | no => rw [q] at h; exact h
    | rs c d => rw [q] at h; exact h
    | ro c d => rw [q] at h; exact h
    | rb c d => rw [q] at h; exact h
def sRet (fe : FE) : FS := fun τ => Fl.of (fe τ) fun d => .rt d
theorem tE.at {B Z F H : Hp} {τ : DS} {σ : St} {Q : VK} {G : D → Prop} (R : RS X.K B Z F τ σ H) (h : Ok X (fe τ) G)
    (k : ∀ d v F1 H1, G d → Ext F H F1 H1 → RS X.K B Z F1 τ σ H1 → Rep X.K F1 d v → Q v H1) : tE X fe σ H Q :=
  tE.of R.rv h fun d v F1 H1 g x _ r => k d v F1 H1 g x (R.ext x) r
theorem pds_ret (he : PDE X e fe) : PDS X (.Return (some e) pos) (sRet fe) :=
  PS.imp (ps_ret he) fun E σ H ⟨B, Z, F, τ, R, h⟩ => tE.at R h.of fun d v F1 H1 g x R1 r => g v F1 H1 R1.out r
def sIf (gc : FT) (f g : FS) : FS := fun τ => Fl.of (gc τ) fun b => if b = true then f τ else g τ
theorem pds_if {a b : List Stmt} (hc : PDT X c gc) (ha : PDSs X a f) (hb : PDSs X b g) : PDS X (.If c a b pos) (sIf gc f g) :=
  PS.imp (ps_if hc ha hb) fun E σ H ⟨B, Z, F, τ, R, h⟩ => tTs.of R.rv h.of fun k F1 H1 q x _ => by
    cases k with
    | true => rw [if_pos rfl] at q ⊢; exact ⟨B, Z, F1, τ, R.ext x, q.same x.ff⟩
    | false => rw [if_neg (by simp)] at q ⊢; exact ⟨B, Z, F1, τ, R.ext x, q.same x.ff⟩
theorem RV.set {K : PySem.W.Frag} {F H : Hp} {τ : DS} {σ : St} {i : Nat} {d : D} {v : V} (R : RV K F τ σ H) (r : Rep K F d v) : RV K F (τ.set i (some (.val d))) (σ.set i (some v)) H := by
  refine ⟨R.fh, by simp [R.len], fun j e h => ?_, fun j es h => ?_, fun j k ds es a hjk h1 h2 h3 h4 => ?_, ?_, ?_⟩
  · by_cases hij : i = j
    · subst hij
      have hlt : i < τ.length := by
        rcases Nat.lt_or_ge i τ.length with z | z
        · exact z
        · rw [List.getElem?_eq_none_iff.mpr (by simpa using z)] at h; cases h
      rw [List.getElem?_set_self hlt] at h
      cases h
      exact ⟨v, by rw [List.getElem?_set_self (by rw [← R.len]; exact hlt)], r⟩
    · rw [List.getElem?_set_ne hij] at h ⊢
      exact R.val j e h
  · by_cases hij : i = j
    · subst hij
      rw [List.getElem?_set] at h
      simp only [if_true] at h
      split at h <;> cases h
    · rw [List.getElem?_set_ne hij] at h ⊢
      exact R.own j es h
  · have n1 : i ≠ j := fun z => by
      subst z
      rw [List.getElem?_set] at h1
      simp only [if_true] at h1
      split at h1 <;> cases h1
    have n2 : i ≠ k := fun z => by
      subst z
      rw [List.getElem?_set] at h2
      simp only [if_true] at h2
      split at h2 <;> cases h2
    rw [List.getElem?_set_ne n1] at h1 h3
    rw [List.getElem?_set_ne n2] at h2 h4
    exact R.dis j k ds es a hjk h1 h2 h3 h4
  · exact R.tt
  · exact R.ob.put rfl fun _ _ z => by cases z
theorem RS.set {K : PySem.W.Frag} {B Z F H : Hp} {τ : DS} {σ : St} {i : Nat} {d : D} {v : V} (R : RS K B Z F τ σ H) (r : Rep K F d v) : RS K B Z F (τ.set i (some (.val d))) (σ.set i (some v)) H :=
  ⟨R.rv.set r, R.bh, R.zf, R.nb, fun j ds a h1 h2 => by
    have n1 : i ≠ j := fun z => by
      subst z
      rw [List.getElem?_set] at h1
      simp only [if_true] at h1
      split at h1 <;> cases h1
    rw [List.getElem?_set_ne n1] at h1 h2
    exact R.ob j ds a h1 h2, fun j m c fs a h1 h2 => by
    obtain ⟨n, h1⟩ := set_obj (s := some (.val d)) rfl rfl h1
    rw [List.getElem?_set_ne n] at h2
    exact R.oo j m c fs a h1 h2, fun a0 dx b1 b2 j m c fs h => by
    obtain ⟨n, h⟩ := set_obj (s := some (.val d)) rfl rfl h
    rw [List.getElem?_set_ne n]
    exact R.sf a0 dx b1 b2 j m c fs h, fun j c fs a h1 h2 => by
    obtain ⟨n, h1⟩ := set_obj (s := some (.val d)) rfl rfl h1
    rw [List.getElem?_set_ne n] at h2
    exact R.ro j c fs a h1 h2⟩
def sSet (i : Nat) (fe : FE) : FS := fun τ => Fl.of (fe τ) fun d => .nx (τ.set i (some (.val d)))
theorem pds_set {i : Nat} {x : Str} {pos' : Pos} (hN : X.N.Nodup) (hi : X.N[i]? = some x) (hx : Loc X.env.scope x) (he : PDE X e fe) (hs : swapsWith e (some (.Name x pos')) pos.line X.env = pure false := by rfl) (hf : X.fn x = true ∨ X.env.scope.names.lookup x = some .local := by first | exact .inl rfl | exact .inr rfl | assumption) :
    PDS X (.Assign [.Name x pos'] e pos) (sSet i fe) :=
  PS.imp (ps_set hN hi hx he hs hf) fun E σ H ⟨B, Z, F, τ, R, h⟩ => tE.at R h.of fun d v F1 H1 g x R1 r => g _ F1 H1 x.ff (R1.set r)
def tFr (X : Cx) (f : FA) : TE := fun σ H Q => ∃ F τ, RV X.K F τ σ H ∧ Ok X (f τ) fun ds => ∀ p vs F' H', Ext F H F' H' → H' p = none → Reps X.K F' ds vs → Q (.ref p) (upd H' p (.lst vs))
def PDF (X : Cx) (e : Expr) (f : FA) : Prop := PE X e (tFr X f)
theorem pdf_lst (h : PDA X es fs) : PDF X (.List es pos) (fun τ => (fs τ).bind fun ds => if ds.length ≤ sizeLine then .ok ds else .no) :=
  PE.imp (pe_lst h) fun σ H Q ⟨F, τ, R, hq⟩ => tAs.of R hq.bind fun ds vs F1 H1 g x R1 r => by
    obtain ⟨z, g⟩ := ok_ite g
    exact ⟨by rw [← r.length]; exact z, fun p hp => g p vs F1 H1 x hp r⟩
theorem pde_fr {ff : FA} (h : PDF X e ff) : PDE X e (fun τ => (ff τ).bind fun ds => .ok (.lst ds)) :=
  PE.imp h fun σ H Q ⟨F, τ, R, hq⟩ => ⟨F, τ, R, hq.bind.imp fun ds g p vs F1 H1 x hp r => by
    refine g (.ref p) _ _ (x.trans (Ext.new x.fh hp)) ?_
    simp only [Rep]
    exact ⟨p, vs, rfl, upd_same, r.mono (same_upd (none_of_same x.fh hp))⟩⟩
def sSetO (i : Nat) (ff : FA) : FS := fun τ => Fl.of (ff τ) fun ds => .nx (τ.set i (some (.own ds)))
theorem RV.setO {K : PySem.W.Frag} {F H : Hp} {τ : DS} {σ : St} {i : Nat} {p : Addr} {ds : List D} {vs : List V} (R : RV K F τ σ H) (hp : H p = none) (r : Reps K F ds vs) : RV K F (τ.set i (some (.own ds))) (σ.set i (some (.ref p))) (upd H p (.lst vs)) := by
  have nofr := none_of_same R.fh hp
  have hlt : ∀ {o : Sl}, (τ.set i (some (.own ds)))[i]? = some (some o) → i < τ.length := fun {o} h => by
    rcases Nat.lt_or_ge i τ.length with z | z
    · exact z
    · rw [List.getElem?_eq_none_iff.mpr (by simpa using z)] at h; cases h
  refine ⟨R.fh.trans (same_upd hp), by simp [R.len], fun j e h => ?_, fun j es h => ?_, fun j k es es' a hjk h1 h2 h3 h4 => ?_, ?_, ?_⟩
  · by_cases hij : i = j
    · subst hij
      rw [List.getElem?_set_self (hlt h)] at h; cases h
    · rw [List.getElem?_set_ne hij] at h ⊢
      exact R.val j e h
  · by_cases hij : i = j
    · subst hij
      have l := hlt h
      rw [List.getElem?_set_self l] at h
      cases h
      exact ⟨p, vs, by rw [List.getElem?_set_self (by rw [← R.len]; exact l)], upd_same, nofr, r⟩
    · rw [List.getElem?_set_ne hij] at h ⊢
      obtain ⟨a, ws, q1, q2, q3, q4⟩ := R.own j es h
      exact ⟨a, ws, q1, by rw [upd_ne (ne_of_none q2 hp)]; exact q2, q3, q4⟩
  · by_cases n1 : i = j
    · subst n1
      rw [List.getElem?_set_ne hjk] at h2 h4
      obtain ⟨a', ws, q1, q2, q3, q4⟩ := R.own k es' h2
      rw [q1] at h4; cases h4
      have l := hlt h1
      rw [List.getElem?_set_self (by rw [← R.len]; exact l)] at h3
      cases h3
      rw [hp] at q2; cases q2
    · by_cases n2 : i = k
      · subst n2
        rw [List.getElem?_set_ne (Ne.symm hjk)] at h1 h3
        obtain ⟨a', ws, q1, q2, q3, q4⟩ := R.own j es h1
        rw [q1] at h3; cases h3
        have l := hlt h2
        rw [List.getElem?_set_self (by rw [← R.len]; exact l)] at h4
        cases h4
        rw [hp] at q2; cases q2
      · rw [List.getElem?_set_ne n1] at h1 h3
        rw [List.getElem?_set_ne n2] at h2 h4
        exact R.dis j k es es' a hjk h1 h2 h3 h4
  · exact R.tt.step (fun _ _ e => .inl e) (fun b o e _ => by rw [upd_ne (ne_of_none e hp)]; exact e) (no_upd fun _ z => nomatch z)
  · have o1 : ObsOk K F (τ.set i (some (.own ds))) (σ.set i (some (.ref p))) H := R.ob.put rfl fun _ l _ z => by
      cases z; exact R.ob.fresh hp
    exact o1.updL (.inl hp) (o1.fresh hp)
theorem RS.setO {K : PySem.W.Frag} {B Z F H : Hp} {τ : DS} {σ : St} {i : Nat} {p : Addr} {ds : List D} {vs : List V} (R : RS K B Z F τ σ H) (hp : H p = none) (r : Reps K F ds vs) : RS K B Z F (τ.set i (some (.own ds))) (σ.set i (some (.ref p))) (upd H p (.lst vs)) :=
  ⟨R.rv.setO hp r, R.bh.trans (.of (same_upd hp)), R.zf, R.nb, fun j es a h1 h2 => by
    by_cases n1 : i = j
    · subst n1
      have l : i < τ.length := by
        rcases Nat.lt_or_ge i τ.length with z | z
        · exact z
        · rw [List.getElem?_eq_none_iff.mpr (by simpa using z)] at h1; cases h1
      rw [List.getElem?_set_self (by rw [← R.rv.len]; exact l)] at h2
      cases h2
      exact none_of_hh R.bh hp
    · rw [List.getElem?_set_ne n1] at h1 h2
      exact R.ob j es a h1 h2, fun j m c fs a h1 h2 => by
    obtain ⟨n, h1⟩ := set_obj (s := some (.own ds)) rfl rfl h1
    rw [List.getElem?_set_ne n] at h2
    rw [R.rv.ob.lof (.inl ⟨m, fs, h1⟩) h2 (.inl hp)]
    exact R.oo j m c fs a h1 h2, fun a0 dx b1 b2 j m c fs h => by
    obtain ⟨n, h⟩ := set_obj (s := some (.own ds)) rfl rfl h
    rw [List.getElem?_set_ne n]
    exact R.sf a0 dx b1 b2 j m c fs h, fun j c fs a h1 h2 => by
    obtain ⟨n, h1⟩ := set_obj (s := some (.own ds)) rfl rfl h1
    rw [List.getElem?_set_ne n] at h2
    exact R.ro j c fs a h1 h2⟩
theorem pds_setO {i : Nat} {x : Str} {pos' : Pos} {ff : FA} (hN : X.N.Nodup) (hi : X.N[i]? = some x) (hx : Loc X.env.scope x) (he : PDF X e ff) (hs : swapsWith e (some (.Name x pos')) pos.line X.env = pure false := by rfl) (hf : X.fn x = true ∨ X.env.scope.names.lookup x = some .local := by first | exact .inl rfl | exact .inr rfl | assumption) :
    PDS X (.Assign [.Name x pos'] e pos) (sSetO i ff) :=
  PS.imp (ps_set hN hi hx he hs hf) fun E σ H ⟨B, Z, F, τ, R, h⟩ => ⟨F, τ, R.rv, h.of.imp fun ds g p vs F1 H1 x hp r => g _ F1 _ x.ff ((R.ext x).setO hp r)⟩
theorem RV.own_upd {K : PySem.W.Frag} {F H : Hp} {τ : DS} {σ : St} {i : Nat} {p : Addr} {ds es : List D} {ws : List V} (R : RV K F τ σ H) (h : τ[i]? = some (some (.own ds))) (hp : σ[i]? = some (some (.ref p))) (r : Reps K F es ws) :
    RV K F (τ.set i (some (.own es))) σ (upd H p (.lst ws)) := by
  obtain ⟨a, vs, q1, q2, q3, q4⟩ := R.own i ds h
  rw [q1] at hp; cases hp
  have l : i < τ.length := (List.getElem?_eq_some_iff.mp h).1
  refine ⟨fun b o e => ?_, by simp [R.len], fun j e h' => ?_, fun j es' h' => ?_, fun j k e1 e2 b hjk h1 h2 h3 h4 => ?_, ?_, ?_⟩
  · have n : b ≠ p := fun z => by subst z; rw [q3] at e; cases e
    rw [upd_ne n]; exact R.fh b o e
  · by_cases hij : i = j
    · subst hij; rw [List.getElem?_set_self l] at h'; cases h'
    · rw [List.getElem?_set_ne hij] at h'; exact R.val j e h'
  · by_cases hij : i = j
    · subst hij
      rw [List.getElem?_set_self l] at h'; cases h'
      exact ⟨p, ws, q1, upd_same, q3, r⟩
    · rw [List.getElem?_set_ne hij] at h'
      obtain ⟨a', vs', z1, z2, z3, z4⟩ := R.own j es' h'
      have n : a' ≠ p := fun z => by subst z; exact R.dis i j ds es' a' hij h h' q1 z1
      exact ⟨a', vs', z1, by rw [upd_ne n]; exact z2, z3, z4⟩
  · have : ∀ {m : Nat} {e : List D}, (τ.set i (some (.own es)))[m]? = some (some (.own e)) → ∃ e', τ[m]? = some (some (.own e')) := fun {m e} z => by
      by_cases him : i = m
      · subst him; exact ⟨ds, h⟩
      · rw [List.getElem?_set_ne him] at z; exact ⟨e, z⟩
    obtain ⟨x1, y1⟩ := this h1
    obtain ⟨x2, y2⟩ := this h2
    exact R.dis j k x1 x2 b hjk y1 y2 h3 h4
  · exact R.tt.step (fun _ _ e => .inl e) (fun b o e n => by
      have : b ≠ p := fun z => by subst z; rw [q2] at e; cases e; exact n _ rfl
      rw [upd_ne this]; exact e) (no_upd fun _ z => nomatch z)
  · exact (R.ob.updL (.inr ⟨vs, q2⟩) fun j c a g1 g2 hl => R.ob.lo j i c ds a p g1 h g2 q1 hl).putS h
theorem RS.own_upd {K : PySem.W.Frag} {B Z F H : Hp} {τ : DS} {σ : St} {i : Nat} {p : Addr} {ds es : List D} {ws : List V} (R : RS K B Z F τ σ H) (h : τ[i]? = some (some (.own ds))) (hp : σ[i]? = some (some (.ref p))) (r : Reps K F es ws) :
    RS K B Z F (τ.set i (some (.own es))) σ (upd H p (.lst ws)) := by
  have hb := R.ob i ds p h hp
  refine ⟨R.rv.own_upd h hp r, fun b o e => ?_, R.zf, R.nb, fun j e a h1 h2 => ?_, fun j m c fs a h1 h2 => ?_, fun a0 dx b1 b2 j m c fs h => R.sf a0 dx b1 b2 j m c fs (set_obj (s := some (.own es)) rfl rfl h).2, fun j c fs a h1 h2 => R.ro j c fs a (set_obj (s := some (.own es)) rfl rfl h1).2 h2⟩
  · have n : b ≠ p := fun z => by subst z; rw [hb] at e; cases e
    rw [upd_ne n]; exact R.bh b o e
  · by_cases him : i = j
    · subst him; exact R.ob i ds a h h2
    · rw [List.getElem?_set_ne him] at h1; exact R.ob j e a h1 h2
  · have h1 := (set_obj (s := some (.own es)) rfl rfl h1).2
    obtain ⟨p', vs, q1, q2, _⟩ := R.rv.own i ds h
    rw [q1] at hp; cases hp
    rw [R.rv.ob.lof (.inl ⟨m, fs, h1⟩) h2 (.inr ⟨vs, q2⟩)]
    exact R.oo j m c fs a h1 h2
def ownAt (τ : DS) (i : Nat) : Rs (List D) := match τ[i]? with
  | some (some (.own ds)) => .ok ds
  | _ => .no
theorem ownAt_ok {τ : DS} {i : Nat} {P : List D → Prop} (h : Ok X (ownAt τ i) P) : ∃ ds, τ[i]? = some (some (.own ds)) ∧ P ds := by
  unfold ownAt at h
  cases q : τ[i]? with
  | none => rw [q] at h; exact h.elim
  | some o =>
    cases o with
    | none => rw [q] at h; exact h.elim
    | some sl =>
      cases sl with
      | val d => rw [q] at h; exact h.elim
      | obj n c fs => rw [q] at h; exact h.elim
      | obr c fs => rw [q] at h; exact h.elim
      | own ds => rw [q] at h; exact ⟨ds, rfl, h⟩
def sApp (i : Nat) (fe : FE) : FS := fun τ => Fl.of (ownAt τ i) fun ds => Fl.of (fe τ) fun d => if ds.length < sizeLine then .nx (τ.set i (some (.own (ds ++ [d])))) else .no
theorem pds_app {i : Nat} {x : Str} {p1 apos cpos : Pos} (hx : PE X (.Name x p1) (tVar i)) (he : PDE X e fe)
    (hfew : ((backTo cpos (starEach [e] X.env)).all (fun x => !x.1) && (backToKw cpos (keywordEach [] X.env)).all (fun x => x.1.isSome)
      && decide ([e].length + ([] : List Keyword).length + (if ([] : List Keyword).isEmpty then 0 else 1) < 30)) = true := by rfl)
    (hline : (apos.endLine == cpos.line) = true := by rfl) (hs : starEach [e] X.env = [(false, eval e X.env)] := by rfl) (hplain : (backTo cpos (starEach [] X.env)).any (·.1) = false := by rfl)
    (hbase : attributeBase (.Name x p1) "append" X.env (eval (.Name x p1) X.env) = eval (.Name x p1) X.env := by rfl)
    (hsw : swapsWith (.Call (.Attribute (.Name x p1) "append" apos) [e] [] cpos) none pos.line X.env = pure false := by rfl) :
    PDS X (.Expr (.Call (.Attribute (.Name x p1) "append" apos) [e] [] cpos) pos) (sApp i fe) :=
  PS.imp (ps_expr (pe_bm PySem.F.plainAttrs_list PySem.F.slot_list_append PySem.F.type_list_append mt_append hx (pa_cons he pa_nil (by rw [hs]; rfl)) hbase hfew hline (by rw [hs]; rfl) hplain) hsw) fun E σ H ⟨B, Z, F, τ, R, h⟩ => by
    obtain ⟨ds, h1, h2⟩ := ownAt_ok (X := X) (Post.of h)
    obtain ⟨a, vs, q1, q2, q3, q4⟩ := R.rv.own i ds h1
    refine ⟨_, q1, .inl ⟨rfl, vs, SqL.of q2⟩, ?_⟩
    refine tE.at R h2.of fun d v F1 H1 g x R1 r => ?_
    by_cases z : ds.length < sizeLine
    · rw [if_pos z] at g
      refine ⟨a, vs, v, rfl, rfl, x.hh _ _ q2, by rw [← q4.length]; exact z, ?_⟩
      exact g _ F1 _ x.ff (R1.own_upd h1 q1 ((q4.mono x.ff).append (Reps.cons r Reps.nil)))
    · rw [if_neg z] at g; exact g.elim
def sPut (i : Nat) (fi fe : FE) : FS := fun τ => Fl.of (fe τ) fun d => Fl.of (ownAt τ i) fun ds => Fl.of (fi τ) fun k => match k with
  | .int k => match ixN ds.length k with
    | some j => .nx (τ.set i (some (.own (ds.set j d))))
    | none => .no
  | _ => .no
theorem pds_put {i : Nat} {x : Str} {p1 spos : Pos} {ix : Expr} {fi : FE} (hx : PE X (.Name x p1) (tVar i)) (hi : PDE X ix fi) (he : PDE X e fe)
    (ha : ∀ v, assign (.Subscript (.Name x p1) ix spos) X.env v = (do
      let ov ← holding [v] (eval (.Name x p1) X.env)
      let iv ← holding [v, ov] (eval ix X.env)
      standAt spos
      holding [v, ov, iv] (setItem ov iv v)
      release [v, ov, iv] []) := by intro _; rfl)
    (hs : swapsWithSole [.Subscript (.Name x p1) ix spos] e pos.line X.env = pure false := by rfl) (hw : swappedStores [.Subscript (.Name x p1) ix spos] e X.env = pure none := by rfl)
    (h1 : (assignEach [.Subscript (.Name x p1) ix spos] X.env).map (·.2) = [assign (.Subscript (.Name x p1) ix spos) X.env] := by rfl) :
    PDS X (.Assign [.Subscript (.Name x p1) ix spos] e pos) (sPut i fi fe) :=
  PS.imp (ps_asg he (pg_sub hx hi set_list ha) hs hw h1) fun E σ H ⟨B, Z, F, τ, R, h⟩ => by
    refine tE.at R h.of fun d v F1 H1 g x R1 r => ?_
    obtain ⟨ds, h1, h2⟩ := ownAt_ok (X := X) (Post.of g)
    obtain ⟨a, vs, q1, q2, q3, q4⟩ := R1.rv.own i ds h1
    refine ⟨_, q1, ?_⟩
    refine tE.at R1 h2.of fun k w F2 H2 g2 x2 R2 r2 => ?_
    cases k with
    | int k =>
      simp only [Rep] at r2
      simp only at g2
      cases q : ixN ds.length k with
      | none => rw [q] at g2; exact g2.elim
      | some j =>
        rw [q] at g2
        refine ⟨a, vs, k, j, rfl, r2, x2.hh _ _ q2, by rw [← q4.length]; exact q, ?_⟩
        exact g2 _ F2 _ (x.ff.trans x2.ff) (R2.own_upd h1 q1 (Reps.set (r.mono x2.ff) j (q4.mono x2.ff)))
    | _ => exact g2.elim
def sRetO (i : Nat) : FS := fun τ => Fl.of (ownAt τ i) fun ds => .rt (.lst ds)
theorem pds_retO {i : Nat} {x : Str} {p1 : Pos} (hx : PE X (.Name x p1) (tVar i)) : PDS X (.Return (some (.Name x p1)) pos) (sRetO i) :=
  PS.imp (ps_ret hx) fun E σ H ⟨B, Z, F, τ, R, h⟩ => by
    obtain ⟨ds, h1, h2⟩ := ownAt_ok (X := X) (Post.of h)
    obtain ⟨a, vs, q1, q2, q3, q4⟩ := R.rv.own i ds h1
    have hb := R.ob i ds a h1 q1
    refine ⟨_, q1, h2 (.ref a) (upd F a (.lst vs)) H ⟨?_, R.bh, fun b o e => ?_, fun b o e => ?_, fun _ => R.rv.tt.freeze q2⟩ ?_⟩
    · exact R.zf.trans (same_upd q3)
    · by_cases z : b = a
      · subst z; rw [upd_same] at e; cases e; exact q2
      · rw [upd_ne z] at e; exact R.rv.fh b o e
    · by_cases z : b = a
      · subst z; exact .inr hb
      · rw [upd_ne z] at e; exact R.nb b o e
    · simp only [Rep]
      exact ⟨a, vs, rfl, upd_same, q4.mono (same_upd q3)⟩
def eIxO (i : Nat) (fi : FE) : FE := fun τ => (ownAt τ i).bind fun ds => (fi τ).bind fun k => match k with
  | .int k => match atI ds k with
    | some d => .ok d
    | none => .no
  | _ => .no
theorem atI_reps {K : PySem.W.Frag} {F : Hp} {ds : List D} {vs : List V} {k : Int} {d : D} (r : Reps K F ds vs) (h : atI ds k = some d) : ∃ v, atI vs k = some v ∧ Rep K F d v := by
  unfold atI at h ⊢
  rw [← r.length]
  cases q : ixN ds.length k with
  | none => rw [q] at h; cases h
  | some j =>
    rw [q] at h
    exact r.get h
theorem pde_ixO {i : Nat} {x : Str} {p1 : Pos} {ix : Expr} {fi : FE} (hx : PE X (.Name x p1) (tVar i)) (hi : PDE X ix fi) (hs : PlainIx ix := by intro _ _; rfl) : PDE X (.Subscript (.Name x p1) ix pos) (eIxO i fi) :=
  PE.imp (pe_ix ix_list hx hi hs) fun σ H Q ⟨F, τ, R, h⟩ => by
    obtain ⟨ds, h1, h2⟩ := ownAt_ok (X := X) (Ok.bind h)
    obtain ⟨a, vs, q1, q2, q3, q4⟩ := R.own i ds h1
    refine ⟨_, q1, ?_⟩
    refine tE.of R h2.bind fun k w F2 H2 g2 x2 R2 r2 => ?_
    cases k with
    | int k =>
      simp only [Rep] at r2
      simp only at g2
      cases q : atI ds k with
      | none => rw [q] at g2; exact g2.elim
      | some d =>
        rw [q] at g2
        obtain ⟨v, z1, z2⟩ := atI_reps q4 q
        exact ⟨a, vs, k, v, rfl, r2, SqL.of (x2.hh _ _ q2), z1, g2 v F2 H2 x2 (z2.mono x2.ff)⟩
    | _ => exact g2.elim
def eLenO (i : Nat) : FE := fun τ => (ownAt τ i).bind fun ds => .ok (.int ds.length)
theorem pde_lenO {i : Nat} {x : Str} {p1 p : Pos} (hx : PE X (.Name x p1) (tVar i)) (hg : Gl X "len") (hm : X.mg "len" = none)
    (he : starEach [.Name x p1] X.env = [(false, eval (.Name x p1) X.env)] := by rfl) (hpl : (backTo pos (starEach [] X.env)).any (·.1) = false := by rfl) : PDE X (.Call (.Name "len" p) [.Name x p1] [] pos) (eLenO i) :=
  PE.imp (pe_callB call_len_seq hg hm PySem.boot_len (pa_cons hx pa_nil (by rw [he]; rfl)) (he := by rw [he]; rfl) (hpl := hpl)) fun σ H Q ⟨F, τ, R, h⟩ => by
    obtain ⟨ds, h1, h2⟩ := ownAt_ok (X := X) (Ok.bind h)
    obtain ⟨a, vs, q1, q2, q3, q4⟩ := R.own i ds h1
    refine ⟨_, q1, a, vs, rfl, .inl (SqL.of q2), ?_⟩
    rw [← q4.length]
    exact h2 (.int ds.length) F H (Ext.refl R.fh) (by simp only [Rep])
end
end FD
set_option Elab.async false
set_option linter.all false
set_option maxRecDepth 100000
namespace FD
open PySem PySem.Spec PyProof.Rows L2
variable [Tabs]
def ItOk (K : PySem.W.Frag) (J : It) (F1 : Hp) (ds : List D) : Prop := ∀ (i : Nat) (F H : Hp), Same F1 F → Same F H →
  (ds.length ≤ i → J.stop i H) ∧ ∀ d, ds[i]? = some d → J.go i H ∧ ∀ x H', J.yld i H x H' → ∃ F', Ext F H F' H' ∧ Rep K F' d x
def tI (X : Cx) (f : FA) : TI := fun σ H R => ∃ F τ, RV X.K F τ σ H ∧ Ok X (f τ) fun ds => ∀ J F1 H1, Ext F H F1 H1 → ItOk X.K J F1 ds → R J H1
def PDI (X : Cx) (tg iter : Expr) (f : FA) : Prop := PI X tg iter (tI X f)
theorem _root_.L2.PI.imp {X : Cx} {tg e : Expr} {t t' : TI} (h : PI X tg e t) (f : ∀ σ H Q, t' σ H Q → t σ H Q) : PI X tg e t' := fun pins s σ H Q I q => h pins s σ H Q I (f _ _ _ q)
section
variable {X : Cx} {pos : Pos} {e tg : Expr} {es : List Expr} {fe : FE} {fs : FA}
theorem it_list {K : PySem.W.Frag} {a : Addr} {F1 : Hp} {ds : List D} {vs : List V} (e : SqL K F1 a vs) (r : Reps K F1 ds vs) : ItOk K (Itl K a) F1 ds := fun i F H f1 f2 => by
  have q : SqL K H a vs := (f1.trans f2).seq e
  refine ⟨fun h => ⟨vs, q, by rw [← r.length]; exact h⟩, fun d hd => ?_⟩
  obtain ⟨v, h1, h2⟩ := r.get hd
  refine ⟨⟨vs, v, q, h1⟩, fun x H' y => ?_⟩
  obtain ⟨e1, y⟩ := y
  subst e1
  have h3 := y vs q
  rw [h1] at h3; cases h3
  exact ⟨F, Ext.refl f2, h2.mono f1⟩
theorem it_tup {K : PySem.W.Frag} {a : Addr} {F1 : Hp} {ds : List D} {vs : List V} (e : SqT K F1 a vs) (r : Reps K F1 ds vs) : ItOk K (Itt K a) F1 ds := fun i F H f1 f2 => by
  have q : SqT K H a vs := Same.seqT (f1.trans f2) e
  refine ⟨fun h => ⟨vs, q, by rw [← r.length]; exact h⟩, fun d hd => ?_⟩
  obtain ⟨v, h1, h2⟩ := r.get hd
  refine ⟨⟨vs, v, q, h1⟩, fun x H' y => ?_⟩
  obtain ⟨e1, y⟩ := y
  subst e1
  have h3 := y vs q
  rw [h1] at h3; cases h3
  exact ⟨F, Ext.refl f2, h2.mono f1⟩
def rngD (lo : Int) (n : Nat) : List D := (List.range n).map fun (k : Nat) => D.int (lo + k)
theorem it_rng {K : PySem.W.Frag} {F1 : Hp} {lo : Int} {n : Nat} : ItOk K (Itr lo n) F1 (rngD lo n) := fun i F H f1 f2 => by
  have hl : (rngD lo n).length = n := by simp [rngD]
  refine ⟨fun h => by rw [hl] at h; exact h, fun d hd => ?_⟩
  have hi : i < n := by have := (List.getElem?_eq_some_iff.mp hd).1; rw [hl] at this; exact this
  refine ⟨hi, fun x H' y => ?_⟩
  obtain ⟨e1, y⟩ := y
  subst e1
  refine ⟨F, Ext.refl f2, ?_⟩
  simp [rngD, hi] at hd
  subst hd
  simp only [Rep]; exact y
def int1 : List D → Option Int
  | [.int j] => some j
  | _ => none
def int2 : List D → Option (Int × Int)
  | [.int i, .int j] => some (i, j)
  | _ => none
def pair2 : D → Option (D × D)
  | .tup [x, y] => some (x, y)
  | _ => none
theorem int1_eq {ds : List D} {j : Int} (h : int1 ds = some j) : ds = [.int j] := by
  unfold int1 at h; split at h <;> cases h; rfl
theorem int2_eq {ds : List D} {i j : Int} (h : int2 ds = some (i, j)) : ds = [.int i, .int j] := by
  unfold int2 at h; split at h <;> cases h; rfl
theorem pair2_eq {d x y : D} (h : pair2 d = some (x, y)) : d = .tup [x, y] := by
  unfold pair2 at h; split at h <;> cases h; rfl
def iRg1 (fs : FA) : FA := fun τ => (fs τ).bind fun ds => match int1 ds with
  | some j => if -(2 ^ 62) ≤ j ∧ j < 2 ^ 62 then .ok (rngD 0 j.toNat) else .no
  | none => .no
theorem pdi_range1 {a : Expr} {p : Pos} (hg : Gl X "range") (hm : X.mg "range" = none) (ha : PDA X [a] fs) (hs : starEach [a] X.env = [(false, eval a X.env)] := by rfl) : PDI X tg (.Call (.Name "range" p) [a] [] pos) (iRg1 fs) :=
  PI.imp (pi_range1 hg hm ha hs) fun σ H R ⟨F, τ, Rv, h⟩ => tAs.of Rv h.bind fun ds vs F1 H1 g x R1 r => by
    cases q1 : int1 ds with
    | none => rw [q1] at g; exact g.elim
    | some j =>
      rw [q1] at g
      have e := int1_eq q1
      subst e
      obtain ⟨v, rfl, q⟩ := r.one
      simp only [Rep] at q; subst q
      obtain ⟨z, g⟩ := ok_ite g
      exact ⟨j, rfl, z.1, z.2, g _ F1 H1 x it_rng⟩
def iRg2 (fs : FA) : FA := fun τ => (fs τ).bind fun ds => match int2 ds with
  | some (i, j) => if (-(2 ^ 62) ≤ i ∧ i < 2 ^ 62) ∧ -(2 ^ 62) ≤ j ∧ j < 2 ^ 62 then .ok (rngD i (j - i).toNat) else .no
  | none => .no
theorem pdi_range2 {a b : Expr} {p : Pos} (hg : Gl X "range") (hm : X.mg "range" = none) (ha : PDA X [a, b] fs) (hs : starEach [a, b] X.env = [(false, eval a X.env), (false, eval b X.env)] := by rfl) (hs2 : starEach [b] X.env = [(false, eval b X.env)] := by rfl) :
    PDI X tg (.Call (.Name "range" p) [a, b] [] pos) (iRg2 fs) :=
  PI.imp (pi_range2 hg hm ha hs hs2) fun σ H R ⟨F, τ, Rv, h⟩ => tAs.of Rv h.bind fun ds vs F1 H1 g x R1 r => by
    cases q1 : int2 ds with
    | none => rw [q1] at g; exact g.elim
    | some ij =>
      obtain ⟨i, j⟩ := ij
      rw [q1] at g
      have e := int2_eq q1
      subst e
      obtain ⟨v, w, rfl, q, q'⟩ := r.two
      simp only [Rep] at q q'; subst q; subst q'
      obtain ⟨z, g⟩ := ok_ite g
      exact ⟨i, j, rfl, ⟨z.1.1, z.1.2, z.2.1, z.2.2⟩, g _ F1 H1 x it_rng⟩
abbrev FG := D → DS → Rs DS
def tG (X : Cx) (set : FG) : TG := fun v σ H Q => ∃ F τ d, RV X.K F τ σ H ∧ Rep X.K F d v ∧ Ok X (set d τ) fun τ' => ∀ σ', RV X.K F τ' σ' H → (∀ B Z, RS X.K B Z F τ σ H → RS X.K B Z F τ' σ' H) → σ'.length = σ.length → Q σ' H
def PDG (X : Cx) (tg : Expr) (set : FG) : Prop := PG X tg (tG X set)
theorem _root_.L2.PG.imp {X : Cx} {e : Expr} {t t' : TG} (h : PG X e t) (f : ∀ v σ H Q, t' v σ H Q → t v σ H Q) : PG X e t' := fun pins s σ H v u Q I r q => h pins s σ H v u Q I r (f _ _ _ _ q)
def gNm (i : Nat) : FG := fun d τ => .ok (τ.set i (some (.val d)))
theorem pdg_name {i : Nat} {x : Str} (hN : X.N.Nodup) (hi : X.N[i]? = some x) (hx : Loc X.env.scope x) (hf : X.fn x = true ∨ X.env.scope.names.lookup x = some .local := by first | exact .inl rfl | exact .inr rfl | assumption) : PDG X (.Name x pos) (gNm i) :=
  PG.imp (pg_name hN hi hx hf) fun v σ H Q ⟨F, τ, d, R, r, h⟩ => h _ (R.set r) (fun B Z R' => R'.set r) (by simp)
def gPr (i j : Nat) : FG := fun d τ => match pair2 d with
  | some (x, y) => .ok ((τ.set i (some (.val x))).set j (some (.val y)))
  | none => .no
theorem pdg_pair {i j k : Nat} {x y : Str} {px py : Pos} (hc : X.calm = true) (hN : X.N.Nodup) (hi : X.N[i]? = some x) (hx : Loc X.env.scope x) (hj : X.N[j]? = some y) (hy : Loc X.env.scope y)
    (hf : X.fn x = true ∨ X.env.scope.names.lookup x = some .local := by first | exact .inl rfl | exact .inr rfl | assumption) (hf' : X.fn y = true ∨ X.env.scope.names.lookup y = some .local := by first | exact .inl rfl | exact .inr rfl | assumption) :
    PDG X (.Tuple [.Name x px, .Name y py] k pos) (gPr i j) :=
  PG.imp (pg_tup (n := 2) hc (pgs_cons (pg_name hN hi hx hf) (pgs_cons (pg_name hN hj hy hf') pgs_nil))) fun v σ H Q ⟨F, τ, d, R, r, h⟩ => by
    unfold gPr at h
    cases q1 : pair2 d with
    | none => rw [q1] at h; exact h.elim
    | some xy =>
      obtain ⟨x, y⟩ := xy
      rw [q1] at h
      have e := pair2_eq q1
      subst e
      simp only [Rep] at r
      obtain ⟨a, vs, rfl, q, t⟩ := r
      obtain ⟨v1, v2, rfl, r1, r2⟩ := t.two
      exact ⟨a, _, rfl, Same.seqT R.fh q, rfl, v1, [v2], rfl, v2, [], rfl, rfl, h _ ((R.set r1).set r2) (fun B Z R' => (R'.set r1).set r2) (by simp)⟩
def loopD (set : FG) (body : FS) : List D → DS → Fl
  | [], τ => .nx τ
  | d :: r, τ => Fl.of (set d τ) fun τ1 => match body τ1 with
    | .nx τ' => loopD set body r τ'
    | .ct τ' => loopD set body r τ'
    | .bk τ' => .nx τ'
    | .rt d => .rt d
    | .ro d τ' => .ro d τ'
    | .rb d τ' => .rb d τ'
    | .ex c => .ex c
    | .no => .no
    | .rs c τ' => .rs c τ'
def sFor (fi : FA) (set : FG) (body : FS) : FS := fun τ => Fl.of (fi τ) fun ds => loopD set body ds τ
theorem pds_for {iter : Expr} {body : List Stmt} {fi : FA} {set : FG} {fb : FS} (hp : PassesOwn (model X.prog X.w) X.A X.env X.xe) (hc : X.calm = true) (hi : PDI X tg iter fi) (hg : PDG X tg set) (hb : PDSs X body fb)
    (hs : ∀ x, foldedSetIterable iter X.env x = pure x := by intro _; rfl) : PDS X (.For tg iter body [] pos) (sFor fi set fb) :=
  PS.imp (ps_for hp hc hi hg hb hs) fun E σ H ⟨B, Z, F, τ, R, h⟩ => by
    refine ⟨F, τ, R.rv, h.of.imp fun ds g J F1 H1 x io => ?_⟩
    refine ⟨fun i m σ H => m = ds.length - i ∧ i ≤ ds.length ∧ ∃ F' τ', Same F1 F' ∧ RS X.K B Z F' τ' σ H ∧ Post X B Z F' E (loopD set fb (ds.drop i) τ'), ⟨ds.length, by simp, Nat.zero_le _, F1, τ, Same.refl _, R.ext x, g.same x.ff⟩, ?_⟩
    rintro i m σ2 H2 ⟨rfl, hi, F2, τ2, f2, R2, p2⟩
    obtain ⟨i1, i2⟩ := io i F2 H2 f2 R2.rv.fh
    by_cases hlt : i < ds.length
    · have hd : ds.drop i = ds[i] :: ds.drop (i + 1) := List.drop_eq_getElem_cons hlt
      rw [hd] at p2
      obtain ⟨go, yl⟩ := i2 ds[i] (by simp [hlt])
      refine .inr ⟨go, fun σ' H' => ∃ F' τ', Same F2 F' ∧ RS X.K B Z F' τ' σ' H' ∧ Post X B Z F' E (loopD set fb (ds.drop (i + 1)) τ'), fun σ' H' ⟨F', τ', a, b, c⟩ => ⟨ds.length - (i + 1), by omega, rfl, hlt, F', τ', f2.trans a, b, c⟩, fun y H' yy => ?_⟩
      obtain ⟨F3, x3, r3⟩ := yl y H' yy
      have R3 := R2.ext x3
      refine ⟨F3, τ2, ds[i], R3.rv, r3, (Post.of p2).imp fun τ4 p4 σ4 _ R4 _ => ⟨B, Z, F3, τ4, R4 B Z R3, ?_⟩⟩
      cases q : fb τ4 with
      | nx τ5 => rw [q] at p4; exact fun σ' F' H' ff RR => ⟨F', τ5, x3.ff.trans ff, RR, Post.same p4 (x3.ff.trans ff)⟩
      | ct τ5 => rw [q] at p4; exact fun σ' F' H' ff RR => ⟨F', τ5, x3.ff.trans ff, RR, Post.same p4 (x3.ff.trans ff)⟩
      | bk τ5 => rw [q] at p4; exact fun σ' F' H' ff RR => p4 σ' F' H' (x3.ff.trans ff) RR
      | rt d => rw [q] at p4; exact p4
      | ro d τ' => rw [q] at p4; exact fun v σ' F' H' ff RR rr => p4 v σ' F' H' (x3.ff.trans ff) RR rr
      | rb d τ' => rw [q] at p4; exact fun v σ' F' H' ff RR rr => p4 v σ' F' H' (x3.ff.trans ff) RR rr
      | ex c => rw [q] at p4; exact p4
      | no => rw [q] at p4; exact p4
      | rs c τ5 => rw [q] at p4; exact fun σ' F' H' ff RR => p4 σ' F' H' (x3.ff.trans ff) RR
    · have e : i = ds.length := by omega
      subst e
      rw [List.drop_length] at p2
      exact .inl ⟨i1 (Nat.le_refl _), p2 σ2 F2 H2 (Same.refl _) R2⟩
end
def noEx (r : Rs D) : Rs D := match r with
  | .ok d => .ok d
  | _ => .no
def spD (K : PySem.W.Frag) (n : Nat) (g : List D → Rs D) : Sp := fun vs H Q E => vs.length = n ∧ ∃ ds F, Same F H ∧ TbT F H ∧ Reps K F ds vs ∧ match g ds with
  | .ok d => Ev K F H Q d
  | _ => False
def startD (N : Nat) (ds : List D) : DS := ds.map (fun d => some (.val d)) ++ List.replicate (N - ds.length) none
def flRes : Fl → Rs D
  | .rt d => .ok d
  | .ro d _ => .ok d
  | .nx _ => .ok .non
  | .rs c _ => .ex c
  | _ => .no
def runF (N : Nat) (fb : FS) (ds : List D) : Rs D := flRes (fb (startD N ds))
theorem rv_start {K : PySem.W.Frag} {F H : Hp} {N : List Str} {ds : List D} {vs : List V} (fh : Same F H) (tt : TbT F H) (r : Reps K F ds vs) : RS K H F F (startD N.length ds) (L2.start N vs) H := by
  have hl := r.length
  have hval : ∀ (i : Nat) (o : Sl), (startD N.length ds)[i]? = some (some o) → ∃ d, ds[i]? = some d ∧ o = .val d := fun i o h => by
    unfold startD at h
    by_cases hi : i < ds.length
    · rw [List.getElem?_append_left (by simpa using hi), List.getElem?_map] at h
      cases e : ds[i]? with
      | none => rw [e] at h; cases h
      | some d => rw [e] at h; cases h; exact ⟨d, rfl, rfl⟩
    · rw [List.getElem?_append_right (by simpa using hi), List.getElem?_replicate] at h
      split at h <;> cases h
  refine ⟨⟨fh, ?_, fun i d h => ?_, fun i es h => ?_, fun i j es es' a _ h1 _ _ _ => ?_, tt, ObsOk.none fun i s h => ?_⟩, Hh.refl H, Same.refl F, fun a o e => .inl e, fun i es a h1 _ => ?_, fun i m c fs a h1 _ => ?_, fun a0 dx _ _ j m c fs h1 => ?_, fun j c fs a h1 _ => ?_⟩
  · simp [startD, L2.start, hl]
  · obtain ⟨d', h1, h2⟩ := hval i _ h
    cases h2
    obtain ⟨v, q1, q2⟩ := r.get h1
    refine ⟨v, ?_, q2⟩
    have hi : i < vs.length := (List.getElem?_eq_some_iff.mp q1).1
    unfold L2.start
    rw [List.getElem?_append_left (by simpa using hi), List.getElem?_map, q1]; rfl
  · obtain ⟨_, _, h2⟩ := hval i _ h; cases h2
  · obtain ⟨_, _, h2⟩ := hval i _ h1; cases h2
  · cases s with
    | none => rfl
    | some o => obtain ⟨_, _, h2⟩ := hval i _ h; rw [h2]; rfl
  · obtain ⟨_, _, h2⟩ := hval i _ h1; cases h2
  · obtain ⟨_, _, h2⟩ := hval i _ h1; cases h2
  · obtain ⟨_, _, h2⟩ := hval j _ h1; cases h2
  · obtain ⟨_, _, h2⟩ := hval j _ h1; cases h2
section
variable {P : Program} {w : World} {K : PySem.W.Frag} {mg : Str → Option Value} {base : Heap}
theorem fnD {x qual : Str} {st : Stmt} {f : Addr} {fd : FuncData} {N ps : List Str} {k n : Nat} {fb : FS} (F : Fun K x qual st f fd) (S : FnScope N ps (defScope st)) (hn : ps.length = n)
    (hbody : ∀ (cdv : Value) (A : Around) (outer : List Env) (s : Shared) (H : Hp) (E : XK), Room k (A.deeper (envOfC qual (defScope st) s.heap.objs.size f cdv)) →
      PDSs (cxOf CX0 P w K mg base N qual (defScope st) f cdv A outer s H E).nox (defBody st) fb) : FnOk P w K mg base CX0 (k + 1) f fd ps (spD K n (runF N.length fb)) := by
  refine F.ok S (fun vs H Q E h => by rw [hn]; exact h.1) fun cdv A outer s H vs Q E hr h => ⟨_, hbody cdv A outer s H E hr, ?_⟩
  obtain ⟨hl, ds, Fz, fh, tt, r, h⟩ := h
  refine ⟨H, Fz, Fz, startD N.length ds, rv_start fh tt r, ?_⟩
  unfold runF at h
  cases q : fb (startD N.length ds) with
  | nx τ => rw [q] at h; exact fun σ F' H' ff RR => h .non F' H' RR.out (by simp only [Rep])
  | rt d => rw [q] at h; exact fun v F' H' x rr => h v F' H' x rr
  | ro d τ => rw [q] at h; exact fun v σ F' H' ff RR rr => h v F' H' RR.out rr
  | rb d τ => rw [q] at h; exact h.elim
  | bk τ => rw [q] at h; exact h.elim
  | ct τ => rw [q] at h; exact h.elim
  | ex c => rw [q] at h; exact h.elim
  | no => rw [q] at h; exact h.elim
  | rs c τ => rw [q] at h; exact h.elim
theorem FnD.to {CX : CXT} {f : Addr} {fd : FuncData} {ps : List Str} {k n : Nat} {g g' : List D → Rs D} (F : FnOk P w K mg base CX k f fd ps (spD K n g)) (h : ∀ ds d, ds.length = n → g' ds = .ok d → g ds = .ok d) : FnOk P w K mg base CX k f fd ps (spD K n g') :=
  F.imp fun vs H Q E ⟨hl, ds, Fz, fh, tt, r, q⟩ => ⟨hl, ds, Fz, fh, tt, r, by
    cases e : g' ds with
    | ok d => rw [e] at q; rw [h ds d (by rw [r.length]; exact hl) e]; exact q
    | ex c => rw [e] at q; exact q.elim
    | no => rw [e] at q; exact q.elim⟩
end
section
variable {X : Cx} {pos : Pos} {e tg : Expr} {es : List Expr} {fe : FE} {fs : FA}
def eCall (g : List D → Rs D) (fs : FA) : FE := fun τ => (fs τ).bind fun ds => noEx (g ds)
theorem pde_call {k n : Nat} {f : Addr} {fd : FuncData} {ps : List Str} {g : List D → Rs D} {x : Str} {p : Pos} (F : FnOk X.prog X.w X.K X.mg X.base CX0 k f fd ps (spD X.K n g)) (hr : Room k X.A) (hg : Gl X x) (hm : X.mg x = some (.ref f)) (hk : PySem.W.keepIn X.K (.ref f) = true) (hb : Binds X.K fd ps [])
    (ha : PDA X (e :: es) fs) (hn : (e :: es).length = n) (hfs : ∀ τ ds, fs τ = .ok ds → ds.length = (e :: es).length) (hdb : (x == ("__debug__" : Str)) = false := by decide) (he : starEach (e :: es) X.env = (false, eval e X.env) :: starEach es X.env := by rfl) (hpl : (backTo pos (starEach es X.env)).any (·.1) = false := by rfl) :
    PDE X (.Call (.Name x p) (e :: es) [] pos) (eCall g fs) :=
  PE.imp (pe_call F hr hg hm hk hb .nil (E := E0) pass0 ha hdb he hpl) fun σ H Q ⟨Fz, τ, R, h⟩ => by
    have hb := h.bind
    refine ⟨Fz, τ, R, ?_⟩
    cases q : fs τ with
    | no => rw [q] at hb; exact hb
    | ex c => rw [q] at hb; exact hb
    | ok ds =>
      rw [q] at hb
      intro vs F1 H1 x r
      rw [List.append_nil]
      refine ⟨by rw [← r.length, hfs τ ds q, hn], ds, F1, x.fh, x.tt R.tt, r, ?_⟩
      have hb : Ok X (noEx (g ds)) (Ev X.K Fz H Q) := hb
      cases z : g ds with
      | ok d => rw [z] at hb; exact Ev.ext hb x
      | ex c => rw [z] at hb; exact hb.elim
      | no => rw [z] at hb; exact hb.elim
theorem aNil_len (τ : DS) (ds : List D) (h : aNil τ = .ok ds) : ds.length = 0 := by cases h; rfl
theorem aCons_len {f : FE} {g : FA} {n : Nat} (hg : ∀ τ ds, g τ = .ok ds → ds.length = n) (τ : DS) (ds : List D) (h : aCons f g τ = .ok ds) : ds.length = n + 1 := by
  unfold aCons at h
  cases q : f τ with
  | no => rw [q] at h; cases h
  | ex c => rw [q] at h; cases h
  | ok d =>
    rw [q] at h
    cases q2 : g τ with
    | no => rw [q2] at h; cases h
    | ex c => rw [q2] at h; cases h
    | ok r => rw [q2] at h; cases h; simp [hg τ r q2]
def CallD (X : Cx) (f : Value) (g : List D → Rs D) : Prop := ∃ r, CallR X f r ∧ ∀ F H vs ds Q, Same F H → Reps X.K F ds vs → Ok X (g ds) (Ev X.K F H Q) → r vs H Q
def eBlt (g : List D → Rs D) (fs : FA) : FE := fun τ => (fs τ).bind g
theorem pde_callB {id : String} {x : Str} {p : Pos} {g : List D → Rs D} (hc : CallD X (.builtin id) g) (hg : Gl X x) (hm : X.mg x = none) (hv : bootBuiltins x = some (.builtin id)) (ha : PDA X (e :: es) fs) (hn : x ≠ "__name__" := by decide) (hdb : (x == ("__debug__" : Str)) = false := by decide)
    (he : starEach (e :: es) X.env = (false, eval e X.env) :: starEach es X.env := by rfl) (hpl : (backTo pos (starEach es X.env)).any (·.1) = false := by rfl) : PDE X (.Call (.Name x p) (e :: es) [] pos) (eBlt g fs) := by
  obtain ⟨r, h1, h2⟩ := hc
  exact PE.imp (L2.pe_callB h1 hg hm hv ha hn hdb he hpl) fun σ H Q ⟨Fz, τ, R, h⟩ => tAs.of R h.bind fun ds vs F1 H1 q x R1 rr => h2 F1 H1 vs ds Q R1.fh rr (q.imp fun d e => e.ext x)
theorem pde_callTy {id : String} {x : Str} {p : Pos} {g : List D → Rs D} (hc : CallD X (.type id) g) (hg : Gl X x) (hm : X.mg x = none) (hv : bootBuiltins x = some (.type id)) (ha : PDA X (e :: es) fs) (hn : x ≠ "__name__" := by decide) (hdb : (x == ("__debug__" : Str)) = false := by decide)
    (he : starEach (e :: es) X.env = (false, eval e X.env) :: starEach es X.env := by rfl) (hpl : (backTo pos (starEach es X.env)).any (·.1) = false := by rfl) : PDE X (.Call (.Name x p) (e :: es) [] pos) (eBlt g fs) := by
  obtain ⟨r, h1, h2⟩ := hc
  exact PE.imp (L2.pe_callTy h1 hg hm hv ha hn hdb he hpl) fun σ H Q ⟨Fz, τ, R, h⟩ => tAs.of R h.bind fun ds vs F1 H1 q x R1 rr => h2 F1 H1 vs ds Q R1.fh rr (q.imp fun d e => e.ext x)
def IxD (X : Cx) (op : D → D → Rs D) : Prop := ∃ r : R2, IxR X r ∧ ∀ F H x y dx dy Q, Same F H → Rep X.K F dx x → Rep X.K F dy y → Ok X (op dx dy) (Ev X.K F H Q) → r x y H Q
theorem pde_ix {a b : Expr} {fa fb : FE} {op : D → D → Rs D} (hr : IxD X op) (ha : PDE X a fa) (hb : PDE X b fb) (hs : PlainIx b := by intro _ _; rfl) : PDE X (.Subscript a b pos) (eOp op fa fb) := by
  obtain ⟨r, h1, h2⟩ := hr
  exact PE.imp (pe_ix h1 ha hb hs) (op_of h2)
def ixD : D → D → Rs D
  | .lst ds, .int k => match atI ds k with
    | some d => .ok d
    | none => .no
  | .tup ds, .int k => match atI ds k with
    | some d => .ok d
    | none => .no
  | .scr ns, .int k => match atI ns k with
    | some d => .ok (.int d)
    | none => .no
  | .str x, .int k => match atI x.cps.toList k with
    | some c => if x.length ≤ sizeLine then .ok (.str ⟨#[c]⟩) else .no
    | none => .no
  | _, _ => .no
theorem atI_map {α β : Type} {f : α → β} {xs : List α} {k : Int} {a : α} (h : atI xs k = some a) : atI (xs.map f) k = some (f a) := by
  unfold atI at h ⊢
  rw [List.length_map]
  cases q : ixN xs.length k with
  | none => rw [q] at h; cases h
  | some j =>
    rw [q] at h
    have h : xs[j]? = some a := h
    show (xs.map f)[j]? = _
    rw [List.getElem?_map, h]; rfl
theorem ix_ok : IxD X ixD := ⟨_, ix_seq, fun F H x y dx dy Q fh r1 r2 h => by
  cases dx with
  | lst ds =>
    cases dy with
    | int k =>
      simp only [Rep] at r1 r2; obtain ⟨a, vs, rfl, q, t⟩ := r1; subst r2
      (delta ixD at h; dsimp only at h)
      cases z : atI ds k with
      | none => rw [z] at h; exact h.elim
      | some d =>
        rw [z] at h
        obtain ⟨v, z1, z2⟩ := atI_reps t z
        exact .inl ⟨a, vs, k, v, rfl, rfl, SqL.of (fh _ _ q), z1, h v F H (Ext.refl fh) z2⟩
    | _ => exact h.elim
  | tup ds =>
    cases dy with
    | int k =>
      simp only [Rep] at r1 r2; obtain ⟨a, vs, rfl, q, t⟩ := r1; subst r2
      (delta ixD at h; dsimp only at h)
      cases z : atI ds k with
      | none => rw [z] at h; exact h.elim
      | some d =>
        rw [z] at h
        obtain ⟨v, z1, z2⟩ := atI_reps t z
        exact .inr (.inl ⟨a, vs, k, v, rfl, rfl, Same.seqT fh q, z1, h v F H (Ext.refl fh) z2⟩)
    | _ => exact h.elim
  | scr ns =>
    cases dy with
    | int k =>
      simp only [Rep] at r1 r2; obtain ⟨a, rfl, q⟩ := r1; subst r2
      (delta ixD at h; dsimp only at h)
      cases z : atI ns k with
      | none => rw [z] at h; exact h.elim
      | some d =>
        rw [z] at h
        exact .inl ⟨a, _, k, .int d, rfl, rfl, fh.seq q, atI_map z, h (.int d) F H (Ext.refl fh) (by simp only [Rep])⟩
    | _ => exact h.elim
  | str x =>
    cases dy with
    | int k =>
      simp only [Rep] at r1 r2; subst r1; subst r2
      (delta ixD at h; dsimp only at h)
      cases z : atI x.cps.toList k with
      | none => rw [z] at h; exact h.elim
      | some c =>
        rw [z] at h
        obtain ⟨z2, h⟩ := ok_ite h
        exact .inr (.inr ⟨x, k, c, rfl, rfl, z2, z, h _ F H (Ext.refl fh) (by simp only [Rep])⟩)
    | _ => exact h.elim
  | _ => cases dy <;> exact h.elim⟩
end
end FD
set_option Elab.async false
set_option linter.all false
set_option maxRecDepth 100000
namespace FD
open PySem PySem.Spec PyProof.Rows L2
variable [Tabs]
mutual
def toPy : D → PyData
  | .non => .none
  | .bl b => .bool b
  | .int i => .int i
  | .str x => .str x
  | .lst ds => .list (toPys ds)
  | .tup ds => .tuple (toPys ds)
  | .scr ns => .list (ns.map .int)
  | .raw _ => .none
  | .exc _ => .none
  | .dct _ _ => .none
def toPys : List D → List PyData
  | [] => []
  | d :: r => toPy d :: toPys r
end
mutual
def plainD : D → Bool
  | .lst ds => plainDs ds
  | .tup ds => plainDs ds
  | .raw _ => false
  | .exc _ => false
  | .dct _ _ => false
  | _ => true
def plainDs : List D → Bool
  | [] => true
  | d :: r => plainD d && plainDs r
end
theorem readsAll_ints {h : Heap} : ∀ {ns : List Int} {us : List Value}, Vals (ns.map V.int) us → ReadsAll h us (ns.map .int) []
  | [], _, .nil => .nil
  | n :: ns, _, .cons r t => by
    obtain ⟨tk, rfl⟩ := r
    exact .cons (as := []) (bs := []) (.int n tk) (readsAll_ints t)
section
variable {X : Cx} {pins : List (Addr × Obj)} {σ : St} {F H : Hp} {s : Shared}
mutual
theorem reads_of (I : Inv X pins σ H s) (fh : Same F H) : ∀ (d : D) {v : V} {u : Value}, Rep X.K F d v → RelV v u → plainD d = true → ∃ as, Reads s.heap u (toPy d) as
  | .non, v, u, r, rv, _ => by simp only [Rep] at r; subst r; cases rv; exact ⟨[], .none⟩
  | .bl b, v, u, r, rv, _ => by simp only [Rep] at r; subst r; cases rv; exact ⟨[], .bool b⟩
  | .int i, v, u, r, rv, _ => by simp only [Rep] at r; subst r; obtain ⟨t, rfl⟩ := rv; exact ⟨[], .int i t⟩
  | .str x, v, u, r, rv, _ => by simp only [Rep] at r; subst r; obtain ⟨t, rfl⟩ := rv; exact ⟨[], .str x t⟩
  | .lst ds, v, u, r, rv, hp => by
    simp only [Rep] at r; obtain ⟨a, vs, rfl, q, t⟩ := r
    cases rv
    obtain ⟨its, rr, ⟨o, n, e, c, _, dd⟩, _⟩ := I.list (SqL.of (K := X.K) (fh _ _ q))
    obtain ⟨as, ra⟩ := readss_of I fh ds t rr (by simpa only [plainD] using hp)
    exact ⟨a :: as, by rw [toPy]; exact .list e c dd (by simpa using ra)⟩
  | .tup ds, v, u, r, rv, hp => by
    simp only [Rep] at r; obtain ⟨a, vs, rfl, q, t⟩ := r
    cases rv
    obtain ⟨its, rr, ⟨o, e, c, n, dd⟩, _⟩ := I.tuple (Same.seqT fh q)
    obtain ⟨as, ra⟩ := readss_of I fh ds t rr (by simpa only [plainD] using hp)
    exact ⟨as, by rw [toPy]; exact .tuple e c dd (by simpa using ra)⟩
  | .scr ns, v, u, r, rv, hp => by
    simp only [Rep] at r; obtain ⟨a, rfl, q⟩ := r
    cases rv
    obtain ⟨its, rr, ⟨o, n, e, c, _, dd⟩, _⟩ := I.list (fh.seq q)
    exact ⟨[a], by rw [toPy]; exact .list e c dd (by simpa using readsAll_ints rr)⟩
  | .raw w, v, u, r, rv, hp => by simp [plainD] at hp
  | .exc w, v, u, r, rv, hp => by simp [plainD] at hp
  | .dct _ _, v, u, r, rv, hp => by simp [plainD] at hp
theorem readss_of (I : Inv X pins σ H s) (fh : Same F H) : ∀ (ds : List D) {vs : List V} {us : List Value}, Reps X.K F ds vs → Vals vs us → plainDs ds = true → ∃ as, ReadsAll s.heap us (toPys ds) as
  | [], vs, us, r, rv, _ => by simp only [Reps] at r; subst r; cases rv; exact ⟨[], by rw [toPys]; exact .nil⟩
  | d :: ds, vs, us, r, rv, hp => by
    simp only [Reps] at r
    obtain ⟨v, r', rfl, q, t⟩ := r
    simp only [plainDs, Bool.and_eq_true] at hp
    cases rv with
    | cons r1 r2 =>
      obtain ⟨as, h1⟩ := reads_of I fh d q r1 hp.1
      obtain ⟨bs, h2⟩ := readss_of I fh ds t r2 hp.2
      exact ⟨as ++ bs, by rw [toPys]; exact .cons h1 h2⟩
end
end
def okD (d : D) : Bool := plainD d && (toPy d).canLay0 && decide ((toPy d).depth ≤ 60)
theorem okD_iff {d : D} (h : okD d = true) : plainD d = true ∧ (toPy d).canLay0 = true ∧ (toPy d).depth ≤ 60 := by
  simpa [okD, and_assoc] using h
def eqvD (d e : D) : Bool := PyData.eqv (toPy d) (toPy e)
def eqD : D → D → Rs D
  | .str x, .str y => .ok (.bl (x == y))
  | .int x, .int y => .ok (.bl (x == y))
  | d, e => if okD d = true ∧ okD e = true then .ok (.bl (eqvD d e)) else .no
def neD : D → D → Rs D
  | .str x, .str y => .ok (.bl (!(x == y)))
  | .int x, .int y => .ok (.bl (!(x == y)))
  | d, e => if okD d = true ∧ okD e = true then .ok (.bl (!eqvD d e)) else .no
section
variable {X : Cx}
def rDeep (K : PySem.W.Frag) (b : D → D → Bool) : R2 := fun x y H Q => ∃ F d e, Same F H ∧ Rep K F d x ∧ Rep K F e y ∧ okD d = true ∧ okD e = true ∧ Q (.bl (b d e)) H
theorem op_eqDeep (hu : X.A.units + 64 < cLine) : OpR X (compareOp .Eq) (rDeep X.K eqvD) := by
  intro pins s σ H x y v u Q I rx ry h
  obtain ⟨F, d, e, fh, r1, r2, o1, o2, q⟩ := h
  obtain ⟨p1, c1, e1⟩ := okD_iff o1
  obtain ⟨p2, c2, e2⟩ := okD_iff o2
  obtain ⟨as, h1⟩ := reads_of I fh d r1 rx p1
  obtain ⟨bs, h2⟩ := reads_of I fh e r2 ry p2
  exact SeqAt.compareEq_reads h1 h2 c1 c2 (by omega) ⟨.bl _, H, I, rfl, q⟩
theorem op_neDeep (hu : X.A.units + 64 < cLine) : OpR X (compareOp .NotEq) (rDeep X.K fun d e => !eqvD d e) := by
  intro pins s σ H x y v u Q I rx ry h
  obtain ⟨F, d, e, fh, r1, r2, o1, o2, q⟩ := h
  obtain ⟨p1, c1, e1⟩ := okD_iff o1
  obtain ⟨p2, c2, e2⟩ := okD_iff o2
  obtain ⟨as, h1⟩ := reads_of I fh d r1 rx p1
  obtain ⟨bs, h2⟩ := reads_of I fh e r2 ry p2
  exact SeqAt.compareNe_reads h1 h2 c1 c2 (by omega) ⟨.bl _, H, I, rfl, q⟩
theorem opd_eq (hu : X.A.units + 64 < cLine) : OpD X (compareOp .Eq) eqD := ⟨_, op_eq.or (op_eqDeep hu), fun F H x y dx dy Q fh r1 r2 h => by
  have gen : (Ok X (if okD dx = true ∧ okD dy = true then .ok (.bl (eqvD dx dy)) else .no) (Ev X.K F H Q)) → rEq x y H Q ∨ rDeep X.K eqvD x y H Q := fun h => by
    obtain ⟨z, h⟩ := ok_ite h
    exact .inr ⟨F, dx, dy, fh, r1, r2, z.1, z.2, h _ F H (Ext.refl fh) (by simp only [Rep])⟩
  cases dx with
  | str a =>
    cases dy with
    | str b =>
      simp only [Rep] at r1 r2; subst r1; subst r2
      exact .inl ⟨rfl, by rw [dec_str]; exact h _ F H (Ext.refl fh) (by simp only [Rep])⟩
    | _ => exact gen h
  | int a =>
    cases dy with
    | int b =>
      simp only [Rep] at r1 r2; subst r1; subst r2
      exact .inl ⟨rfl, by rw [dec_int]; exact h _ F H (Ext.refl fh) (by simp only [Rep])⟩
    | _ => exact gen h
  | _ => exact gen h⟩
theorem opd_ne (hu : X.A.units + 64 < cLine) : OpD X (compareOp .NotEq) neD := ⟨_, op_ne.or (op_neDeep hu), fun F H x y dx dy Q fh r1 r2 h => by
  have gen : (Ok X (if okD dx = true ∧ okD dy = true then .ok (.bl (!eqvD dx dy)) else .no) (Ev X.K F H Q)) → rNe x y H Q ∨ rDeep X.K (fun d e => !eqvD d e) x y H Q := fun h => by
    obtain ⟨z, h⟩ := ok_ite h
    exact .inr ⟨F, dx, dy, fh, r1, r2, z.1, z.2, h _ F H (Ext.refl fh) (by simp only [Rep])⟩
  cases dx with
  | str a =>
    cases dy with
    | str b =>
      simp only [Rep] at r1 r2; subst r1; subst r2
      exact .inl ⟨rfl, by rw [dec_str]; exact h _ F H (Ext.refl fh) (by simp only [Rep])⟩
    | _ => exact gen h
  | int a =>
    cases dy with
    | int b =>
      simp only [Rep] at r1 r2; subst r1; subst r2
      exact .inl ⟨rfl, by rw [dec_int]; exact h _ F H (Ext.refl fh) (by simp only [Rep])⟩
    | _ => exact gen h
  | _ => exact gen h⟩
def intOp (C : Int → Int → Bool) (g : Int → Int → D) : D → D → Rs D
  | .int i, .int j => if C i j = true then .ok (g i j) else .no
  | _, _ => .no
theorem opd_int {f : Value → Value → Sem Value} {C' : Int → Int → Prop} {C : Int → Int → Bool} {gv : Int → Int → V} {g : Int → Int → D} (h : OpR X f (rI C' gv)) (hc : ∀ i j, C i j = true → C' i j) (hg : ∀ F i j, Rep X.K F (g i j) (gv i j)) : OpD X f (intOp C g) :=
  ⟨_, h, fun F H x y dx dy Q fh r1 r2 q => by
    cases dx with
    | int i =>
      cases dy with
      | int j =>
        simp only [Rep] at r1 r2; subst r1; subst r2
        obtain ⟨z, q⟩ := ok_ite q
        exact ⟨i, j, rfl, rfl, hc i j z, q _ F H (Ext.refl fh) (hg F i j)⟩
      | _ => exact q.elim
    | _ => cases dy <;> exact q.elim⟩
def intOp0 (g : Int → Int → D) : D → D → Rs D
  | .int i, .int j => .ok (g i j)
  | _, _ => .no
theorem opd_int0 {f : Value → Value → Sem Value} {gv : Int → Int → V} {g : Int → Int → D} (h : OpR X f (rI0 gv)) (hg : ∀ F i j, Rep X.K F (g i j) (gv i j)) : OpD X f (intOp0 g) :=
  ⟨_, h, fun F H x y dx dy Q fh r1 r2 q => by
    cases dx with
    | int i =>
      cases dy with
      | int j =>
        simp only [Rep] at r1 r2; subst r1; subst r2
        exact ⟨i, j, rfl, rfl, q _ F H (Ext.refl fh) (hg F i j)⟩
      | _ => exact q.elim
    | _ => cases dy <;> exact q.elim⟩
def modD := intOp (fun _ j => decide (0 < j)) fun i j => .int (i % j)
theorem opd_mod : OpD X (binaryOp .Mod) modD := opd_int op_mod (fun i j h => by simpa using h) fun _ _ _ => by simp only [Rep]
def fdivD := intOp (fun _ j => decide (0 < j ∧ j < 1073741824)) fun i j => .int (i / j)
theorem opd_fdiv : OpD X (binaryOp .FloorDiv) fdivD := opd_int op_fdiv (fun i j h => by have h' : 0 < j ∧ j < 1073741824 := of_decide_eq_true h; exact h') fun _ _ _ => by simp only [Rep]
def ltI := intOp0 fun i j => .bl (decide (i < j))
def gtD := intOp0 fun i j => .bl (decide (j < i))
theorem opd_lt : OpD X (compareOp .Lt) ltI := opd_int0 op_lt fun _ _ _ => by simp only [Rep]
theorem opd_gt : OpD X (compareOp .Gt) gtD := opd_int0 op_gt fun _ _ _ => by simp only [Rep]
def addD : D → D → Rs D
  | .int i, .int j => .ok (.int (i + j))
  | .str i, .str j => if i.length + j.length ≤ sizeLine then .ok (.str (i ++ j)) else .no
  | .lst i, .lst j => if i.length + j.length ≤ sizeLine then .ok (.lst (i ++ j)) else .no
  | _, _ => .no
theorem opd_add : OpD X (binaryOp .Add) addD := ⟨_, op_add.or (op_add_str.or op_cat), fun F H x y dx dy Q fh r1 r2 q => by
  cases dx with
  | int i =>
    cases dy with
    | int j =>
      simp only [Rep] at r1 r2; subst r1; subst r2
      exact .inl ⟨i, j, rfl, rfl, q _ F H (Ext.refl fh) (by simp only [Rep])⟩
    | _ => exact q.elim
  | str i =>
    cases dy with
    | str j =>
      simp only [Rep] at r1 r2; subst r1; subst r2
      obtain ⟨z, q⟩ := ok_ite q
      exact .inr (.inl ⟨i, j, rfl, rfl, z, q _ F H (Ext.refl fh) (by simp only [Rep])⟩)
    | _ => exact q.elim
  | lst i =>
    cases dy with
    | lst j =>
      simp only [Rep] at r1 r2
      obtain ⟨a, vs, rfl, e1, t1⟩ := r1
      obtain ⟨b, ws, rfl, e2, t2⟩ := r2
      obtain ⟨z, q⟩ := ok_ite q
      refine .inr (.inr ⟨a, b, vs, ws, rfl, rfl, fh _ _ e1, fh _ _ e2, by rw [← t1.length, ← t2.length]; exact z, fun p hp => q _ _ _ (Ext.new fh hp) ?_⟩)
      simp only [Rep]
      exact ⟨p, vs ++ ws, rfl, upd_same, (t1.append t2).mono (same_upd (none_of_same fh hp))⟩
    | _ => exact q.elim
  | _ => cases dy <;> exact q.elim⟩
def mulD : D → D → Rs D
  | .int i, .int j => if (-(18446744073709551616) < i ∧ i < 18446744073709551616) ∨ (-(18446744073709551616) < j ∧ j < 18446744073709551616) then .ok (.int (i * j)) else .no
  | .lst i, .int k => if k < 16777216 ∧ -16777216 < k ∧ i.length * k.toNat ≤ sizeLine then .ok (.lst (List.replicate k.toNat i).flatten) else .no
  | _, _ => .no
theorem opd_mul : OpD X (binaryOp .Mult) mulD := ⟨_, op_mul.or op_rep, fun F H x y dx dy Q fh r1 r2 q => by
  cases dx with
  | int i =>
    cases dy with
    | int j =>
      simp only [Rep] at r1 r2; subst r1; subst r2
      obtain ⟨z, q⟩ := ok_ite q
      refine .inl ⟨i, j, rfl, rfl, ?_, q _ F H (Ext.refl fh) (by simp only [Rep])⟩
      unfold CMul
      rcases z with z | z
      · exact .inl (by omega)
      · exact .inr (by omega)
    | _ => exact q.elim
  | lst i =>
    cases dy with
    | int k =>
      simp only [Rep] at r1 r2
      obtain ⟨a, vs, rfl, e1, t1⟩ := r1
      subst r2
      obtain ⟨z, q⟩ := ok_ite q
      refine .inr ⟨a, k, vs, rfl, rfl, fh _ _ e1, by omega, by omega, by rw [← t1.length]; exact z.2.2, fun p hp => q _ _ _ (Ext.new fh hp) ?_⟩
      simp only [Rep]
      exact ⟨p, _, rfl, upd_same, (t1.rep k.toNat).mono (same_upd (none_of_same fh hp))⟩
    | _ => exact q.elim
  | _ => cases dy <;> exact q.elim⟩
def strIn (i j : Str) : Bool := !(Builtin.Str.occurrences j i 0 j.length 1).isEmpty
def inD : D → D → Rs D
  | .str i, .str j => .ok (.bl (strIn i j))
  | d, .lst xs => if okD d = true ∧ okD (.lst xs) = true then .ok (.bl (xs.any fun y => eqvD y d)) else .no
  | d, .tup xs => if okD d = true ∧ okD (.tup xs) = true then .ok (.bl (xs.any fun y => eqvD y d)) else .no
  | _, _ => .no
theorem toPys_map : ∀ xs : List D, toPys xs = xs.map toPy
  | [] => rfl
  | d :: r => by rw [toPys, toPys_map r, List.map_cons]
theorem any_toPys (xs : List D) (d : D) : ((toPys xs).any fun y => PyData.eqv y (toPy d)) = xs.any fun y => eqvD y d := by
  rw [toPys_map, List.any_map]; rfl
def rInD (K : PySem.W.Frag) (neg : Bool) : R2 := fun x y H Q => ∃ F d e xs, Same F H ∧ Rep K F d x ∧ Rep K F e y ∧ okD d = true ∧ okD e = true ∧ (e = .lst xs ∨ e = .tup xs) ∧ Q (.bl (if neg then !(xs.any fun y => eqvD y d) else xs.any fun y => eqvD y d)) H
theorem op_inDeep (hu : X.A.units + 128 < cLine) : OpR X (compareOp .In) (rInD X.K false) := by
  intro pins s σ H x y v u Q I rx ry h
  obtain ⟨F, d, e, xs, fh, r1, r2, o1, o2, he, q⟩ := h
  obtain ⟨p1, c1, e1⟩ := okD_iff o1
  obtain ⟨p2, c2, e2⟩ := okD_iff o2
  obtain ⟨as, h1⟩ := reads_of I fh d r1 rx p1
  obtain ⟨bs, h2⟩ := reads_of I fh e r2 ry p2
  rcases he with rfl | rfl
  · rw [toPy] at h2 c2 e2
    refine SeqAt.in_list_reads h2 h1 (by simpa only [PyData.canLay0] using c2) c1 (by omega) ⟨.bl _, H, I, rfl, ?_⟩
    rw [any_toPys]; exact q
  · rw [toPy] at h2 c2 e2
    refine SeqAt.in_tuple_reads h2 h1 (by simpa only [PyData.canLay0] using c2) c1 (by omega) ⟨.bl _, H, I, rfl, ?_⟩
    rw [any_toPys]; exact q
theorem opd_in (hu : X.A.units + 128 < cLine) : OpD X (compareOp .In) inD := ⟨_, op_in_str.or (op_inDeep hu), fun F H x y dx dy Q fh r1 r2 q => by
  cases dy with
  | lst xs =>
    have q' : Ok X (if okD dx = true ∧ okD (.lst xs) = true then .ok (.bl (xs.any fun y => eqvD y dx)) else .no) (Ev X.K F H Q) := by cases dx <;> exact q
    obtain ⟨z, q⟩ := ok_ite q'
    exact .inr ⟨F, dx, _, xs, fh, r1, r2, z.1, z.2, .inl rfl, q _ F H (Ext.refl fh) (by simp only [Rep]; rfl)⟩
  | tup xs =>
    have q' : Ok X (if okD dx = true ∧ okD (.tup xs) = true then .ok (.bl (xs.any fun y => eqvD y dx)) else .no) (Ev X.K F H Q) := by cases dx <;> exact q
    obtain ⟨z, q⟩ := ok_ite q'
    exact .inr ⟨F, dx, _, xs, fh, r1, r2, z.1, z.2, .inr rfl, q _ F H (Ext.refl fh) (by simp only [Rep]; rfl)⟩
  | str j =>
    cases dx with
    | str i =>
      simp only [Rep] at r1 r2; subst r1; subst r2
      exact .inl ⟨i, j, rfl, rfl, q _ F H (Ext.refl fh) (by simp only [Rep, strIn])⟩
    | _ => exact q.elim
  | _ => cases dx <;> exact q.elim⟩
def isN : D → Rs Bool
  | .non => .ok true
  | .raw _ => .no
  | .exc _ => .no
  | .dct _ _ => .no
  | _ => .ok false
def isD (d e : D) : Rs D := match e with
  | .non => (isN d).bind fun b => .ok (.bl b)
  | _ => .no
def isNotD (d e : D) : Rs D := match e with
  | .non => (isN d).bind fun b => .ok (.bl (!b))
  | _ => .no
theorem isN_dec {F : Hp} {d : D} {v : V} {P : Bool → Prop} (r : Rep X.K F d v) (h : Ok X (isN d) P) : P (decide (v = .non)) := by
  cases d with
  | non => simp only [Rep] at r; subst r; exact h
  | bl b => simp only [Rep] at r; subst r; exact h
  | int b => simp only [Rep] at r; subst r; exact h
  | str b => simp only [Rep] at r; subst r; exact h
  | lst b => simp only [Rep] at r; obtain ⟨a, vs, rfl, _⟩ := r; exact h
  | tup b => simp only [Rep] at r; obtain ⟨a, vs, rfl, _⟩ := r; exact h
  | scr b => simp only [Rep] at r; obtain ⟨a, rfl, _⟩ := r; exact h
  | raw b => exact h.elim
  | exc b => exact h.elim
  | dct _ _ => exact h.elim
theorem opd_is : OpD X (compareOp .Is) isD := ⟨_, op_isN, fun F H x y dx dy Q fh r1 r2 q => by
  cases dy with
  | non => simp only [Rep] at r2; exact ⟨r2, isN_dec r1 (Ok.bind q) _ F H (Ext.refl fh) (by simp only [Rep])⟩
  | _ => exact q.elim⟩
theorem opd_isNot : OpD X (compareOp .IsNot) isNotD := ⟨_, op_notN, fun F H x y dx dy Q fh r1 r2 q => by
  cases dy with
  | non => simp only [Rep] at r2; have q' : Ok X ((isN dx).bind fun b => Rs.ok (D.bl (!b))) (Ev X.K F H Q) := q; have q2 := isN_dec (P := fun b => Ok X (Rs.ok (D.bl (!b))) (Ev X.K F H Q)) r1 (Ok.bind q'); exact ⟨r2, q2 _ F H (Ext.refl fh) (by simp only [Rep])⟩
  | _ => exact q.elim⟩
def eNeg (fa : FE) : FE := fun τ => (fa τ).bind fun d => match d with
  | .int i => .ok (.int (-i))
  | _ => .no
theorem pde_neg {a : Expr} {pos : Pos} {fa : FE} (ha : PDE X a fa) : PDE X (.UnaryOp .USub a pos) (eNeg fa) :=
  PE.imp (pe_un un_neg ha) fun σ H Q ⟨F, τ, R, h⟩ => tE.of R h.bind fun d v F1 H1 g x R1 r => by
    cases d with
    | int i => simp only [Rep] at r; exact ⟨i, r, g _ F1 H1 x (by simp only [Rep])⟩
    | _ => exact g.elim
end
end FD
set_option Elab.async false
set_option linter.all false
set_option maxRecDepth 100000
namespace FD
open PySem PySem.Spec PyProof.Rows L2
variable [Tabs]
def closStep (env : Env) (cs : List (Str × Addr)) (y : Str × NameKind) : List (Str × Addr) := if y.2 == NameKind.free then (y.1, (env.cells.lookup y.1).getD 0) :: cs else cs
def closOf (scope : Scope) (env : Env) : List (Str × Addr) := scope.names.foldl (closStep env) []
theorem closureFor_eq {scope : Scope} {env : Env} (h : ∀ y ∈ scope.names, y.2 = .free → (env.cells.lookup y.1).isSome = true) : closureFor scope env = pure (closOf scope env) := by
  unfold closureFor closOf
  generalize scope.names = names at h
  have gen : ∀ (cs : List (Str × Addr)), (forIn names cs fun x r => (do
      if (x.2 == NameKind.free) = true then do
        let c ← cellOf env x.1
        pure PUnit.unit
        pure (ForInStep.yield ((x.1, c) :: r))
      else do
        pure PUnit.unit
        pure (ForInStep.yield r)) : Sem (List (Str × Addr))) = pure (names.foldl (closStep env) cs) := by
    induction names with
    | nil => intro cs; rfl
    | cons y r ih =>
      intro cs
      rw [List.forIn_cons, List.foldl_cons]
      by_cases hk : y.2 = .free
      · obtain ⟨c, hc⟩ := Option.isSome_iff_exists.mp (h y List.mem_cons_self hk)
        have e : closStep env cs y = (y.1, c) :: cs := by simp [closStep, hk, hc]
        rw [e, ← ih (fun z hz => h z (List.mem_cons_of_mem _ hz))]
        simp only [hk, beq_self_eq_true, if_true, cellOf, hc]
        rfl
      · have hb : (y.2 == NameKind.free) = false := by simpa using hk
        have e : closStep env cs y = cs := by simp [closStep, hb]
        rw [e, ← ih (fun z hz => h z (List.mem_cons_of_mem _ hz))]
        simp only [hb, Bool.false_eq_true, if_false]
        rfl
  show ((forIn names ([] : List (Str × Addr)) fun x r => (do
      if (x.2 == NameKind.free) = true then do
        let c ← cellOf env x.1
        pure PUnit.unit
        pure (ForInStep.yield ((x.1, c) :: r))
      else do
        pure PUnit.unit
        pure (ForInStep.yield r)) : Sem (List (Str × Addr))) >>= fun s => pure s) = _
  rw [gen []]
  rfl
theorem clos_lookup {env : Env} {x : Str} : ∀ {names : List (Str × NameKind)} {cs : List (Str × Addr)} {c : Addr}, (names.foldl (closStep env) cs).lookup x = some c → cs.lookup x = some c ∨ (∃ y ∈ names, y.1 = x ∧ y.2 = .free ∧ c = (env.cells.lookup x).getD 0)
  | [], cs, c, h => .inl h
  | y :: r, cs, c, h => by
    rw [List.foldl_cons] at h
    rcases clos_lookup h with q | ⟨z, hz, e⟩
    · by_cases hk : y.2 = .free
      · have e : closStep env cs y = (y.1, (env.cells.lookup y.1).getD 0) :: cs := by simp [closStep, hk]
        rw [e, List.lookup_cons] at q
        by_cases hx : x = y.1
        · subst hx
          simp at q
          exact .inr ⟨y, List.mem_cons_self, rfl, hk, q.symm⟩
        · have hb : (x == y.1) = false := by simpa using hx
          rw [hb] at q
          exact .inl q
      · have hb : (y.2 == NameKind.free) = false := by simpa using hk
        have e : closStep env cs y = cs := by simp [closStep, hb]
        rw [e] at q
        exact .inl q
    · exact .inr ⟨z, List.mem_cons_of_mem _ hz, e⟩
theorem clos_has {env : Env} {x : Str} : ∀ {names : List (Str × NameKind)} {cs : List (Str × Addr)}, ((∃ y ∈ names, y.1 = x ∧ y.2 = .free) ∨ ∃ c, cs.lookup x = some c) → ∃ c, (names.foldl (closStep env) cs).lookup x = some c
  | [], cs, h => by
    rcases h with ⟨y, hy, _⟩ | h
    · cases hy
    · exact h
  | y :: r, cs, h => by
    rw [List.foldl_cons]
    refine clos_has ?_
    by_cases hk : y.2 = .free
    · have e : closStep env cs y = (y.1, (env.cells.lookup y.1).getD 0) :: cs := by simp [closStep, hk]
      rw [e]
      by_cases hx : x = y.1
      · subst hx; exact .inr ⟨(env.cells.lookup y.1).getD 0, by rw [List.lookup_cons]; simp⟩
      · have hb : (x == y.1) = false := by simpa using hx
        rcases h with ⟨z, hz, e1, e2⟩ | ⟨c, hc⟩
        · rcases List.mem_cons.mp hz with rfl | hz
          · exact absurd e1.symm hx
          · exact .inl ⟨z, hz, e1, e2⟩
        · exact .inr ⟨c, by rw [List.lookup_cons, hb]; exact hc⟩
    · have hb : (y.2 == NameKind.free) = false := by simpa using hk
      have e : closStep env cs y = cs := by simp [closStep, hb]
      rw [e]
      rcases h with ⟨z, hz, e1, e2⟩ | h
      · rcases List.mem_cons.mp hz with rfl | hz
        · exact absurd e2 hk
        · exact .inl ⟨z, hz, e1, e2⟩
      · exact .inr h
def _root_.L2.Cx.comp (X : Cx) (scope : Scope) (N : List Str) (s : Shared) (H : Hp) (C : Addr) (fp : List Addr) : Cx :=
  { prog := X.prog, w := X.w, K := X.K, mg := X.mg, base := X.base, A := X.A, N := N, s₀ := s, H₀ := H, env := compEnvC scope (closOf scope X.env) C X.env, outer := X.stack, stack := X.stack, ex := fp, fn := fun _ => false, calm := X.calm, pn := [], xe := fun _ _ => False }
structure CompScope (X : Cx) (scope : Scope) : Prop where
  kind : scope.kind = .function
  nocell : ∀ y ∈ scope.names, y.2 ≠ .cell
  locs : ∀ y ∈ scope.names, y.2 = .local → scope.names.lookup y.1 = some .local
  free : ∀ y ∈ scope.names, y.2 = .free → X.env.kindOf y.1 = some .cell ∨ X.env.kindOf y.1 = some .free
theorem lookup_relabel_free {env : Env} : ∀ {names : List (Str × NameKind)} {x : Str}, ((names.map fun (n, k) => if (k == NameKind.free && env.scope.kind == .function && env.kindOf n == some .cell) then (n, NameKind.cell) else (n, k)).lookup x = some .cell ∨
      (names.map fun (n, k) => if (k == NameKind.free && env.scope.kind == .function && env.kindOf n == some .cell) then (n, NameKind.cell) else (n, k)).lookup x = some .free) → (∀ y ∈ names, y.2 ≠ .cell) → ∃ y ∈ names, y.1 = x ∧ y.2 = .free
  | [], _, h, _ => by rcases h with h | h <;> simp at h
  | (n, k) :: r, x, h, hc => by
    have hr : ∀ y ∈ r, y.2 ≠ .cell := fun y hy => hc y (List.mem_cons_of_mem _ hy)
    rw [List.map_cons] at h
    by_cases hx : x = n
    · subst hx
      by_cases hk : k = .free
      · exact ⟨_, List.mem_cons_self, rfl, hk⟩
      · have hb : (k == NameKind.free) = false := by simpa using hk
        have hck : k ≠ .cell := hc (x, k) List.mem_cons_self
        simp only [hb, Bool.false_and, Bool.false_eq_true, if_false, List.lookup_cons, beq_self_eq_true] at h
        rcases h with h | h
        · exact absurd (Option.some.inj h) hck
        · exact absurd (Option.some.inj h) hk
    · have hb : (x == n) = false := by simpa using hx
      have step : ∀ q : Str × NameKind, q.1 = n → ((q :: (r.map fun (n, k) => if (k == NameKind.free && env.scope.kind == .function && env.kindOf n == some .cell) then (n, NameKind.cell) else (n, k))).lookup x) = ((r.map fun (n, k) => if (k == NameKind.free && env.scope.kind == .function && env.kindOf n == some .cell) then (n, NameKind.cell) else (n, k)).lookup x) := fun q hq => by
        obtain ⟨q1, q2⟩ := q
        simp only at hq
        subst hq
        rw [List.lookup_cons, hb]
      have h' : ((r.map fun (n, k) => if (k == NameKind.free && env.scope.kind == .function && env.kindOf n == some .cell) then (n, NameKind.cell) else (n, k)).lookup x = some .cell ∨ (r.map fun (n, k) => if (k == NameKind.free && env.scope.kind == .function && env.kindOf n == some .cell) then (n, NameKind.cell) else (n, k)).lookup x = some .free) := by
        rcases h with h | h
        · left; exact (step _ (by show (if (k == NameKind.free && env.scope.kind == .function && env.kindOf n == some .cell) = true then (n, NameKind.cell) else (n, k)).1 = n; split <;> rfl)).symm.trans h
        · right; exact (step _ (by show (if (k == NameKind.free && env.scope.kind == .function && env.kindOf n == some .cell) = true then (n, NameKind.cell) else (n, k)).1 = n; split <;> rfl)).symm.trans h
      obtain ⟨y, hy, e⟩ := lookup_relabel_free h' hr
      exact ⟨y, List.mem_cons_of_mem _ hy, e⟩
theorem relabel_free {env : Env} : ∀ {names : List (Str × NameKind)} {x : Str}, names.lookup x = some .free → ¬ (names.map fun (n, k) => if (k == NameKind.free && env.scope.kind == .function && env.kindOf n == some .cell) then (n, NameKind.cell) else (n, k)).lookup x = some .local
  | [], _, h => by simp at h
  | (n, k) :: r, x, h => by
    rw [List.map_cons]
    show ¬ List.lookup x ((if (k == NameKind.free && env.scope.kind == .function && env.kindOf n == some .cell) = true then (n, NameKind.cell) else (n, k)) :: _) = _
    rw [List.lookup_cons] at h
    by_cases hx : x = n
    · subst hx
      simp only [beq_self_eq_true] at h
      have hk : k = .free := Option.some.inj h
      subst hk
      split <;> simp [List.lookup_cons]
    · have hb : (x == n) = false := by simpa using hx
      rw [hb] at h
      split
      · rw [List.lookup_cons, hb]; exact relabel_free h
      · rw [List.lookup_cons, hb]; exact relabel_free h
section
variable {X : Cx} {scope : Scope} {N' : List Str}
theorem comp_cell (S : CompScope X scope) (ok : X.Ok) {x : Str} {c : Addr} (h : (closOf scope X.env).lookup x = some c) : X.env.cells.lookup x = some c := by
  rcases clos_lookup h with q | ⟨y, hy, e1, e2, e3⟩
  · simp at q
  · subst e1
    obtain ⟨c', hc'⟩ := ok.has y.1 (S.free y hy e2)
    rw [hc'] at e3 ⊢
    rw [e3]; rfl
theorem comp_inv {pins : List (Addr × Obj)} {σ σ' : St} {H : Hp} {s : Shared} {h1 : Heap} {fp : List Addr} {t : Nat} (S : CompScope X scope) (I : Inv X pins σ H s) (hfp : ∀ b ∈ fp, FpOk X pins H b) (hlt : ∀ b ∈ fp, b < s.heap.objs.size)
    (hn : h1.Ns s.heap.objs.size fun _ => none) (hsb : ∀ b o, s.heap.get? b = some o → h1.get? b = some o) (hl : σ'.length = N'.length)
    (hσ : ∀ (i : Nat) (v : V), σ'[i]? = some (some v) → ∃ (x : Str) (j : Nat), N'[i]? = some x ∧ X.N[j]? = some x ∧ σ[j]? = some (some v) ∧ scope.names.lookup x = some .free) :
    Inv (X.comp scope N' s H s.heap.objs.size fp) [] σ' H { s with heap := h1, toks := t } := by
  have hH : H s.heap.objs.size = none := I.hok.fresh (Nat.le_refl _)
  have cl : ∀ {x c}, (closOf scope X.env).lookup x = some c → X.env.cells.lookup x = some c := fun h => comp_cell S I.ok h
  have kept : ∀ {c v}, s.heap.IsCell c v → h1.IsCell c v := fun ⟨o, e, d⟩ => ⟨o, hsb _ o e, d⟩
  refine ⟨⟨I.ok.mod, S.kind, I.ok.glob, I.ok.blt, Nat.le_refl _, fun x y c e1 e2 => I.ok.inj x y c (cl e1) (cl e2), fun x hx => ?_, fun x c hf _ => absurd hf (by simp [Cx.comp]), I.ok.hd, I.ok.frames, .inl rfl, fun b hb => ?_, I.bs, Nat.le_trans I.ok.bsz I.sz, fun b o e hb => ?_, fun b hb hs => ?_, I.stack, I.stkFree⟩,
    I.os.symm ▸ rfl, I.bare, Un.kept hsb, ⟨_, hn, fun i x v e1 e2 e3 => ?_⟩, fun x c e => ?_, hH, fun x c e => I.freeC x c (cl e), fun p hp => absurd (show p ∈ ([] : List (Addr × Obj)) from hp) (by simp), I.hok.kept hsb, hl⟩
  · have hx : (relabel scope X.env).names.lookup x = some .cell ∨ (relabel scope X.env).names.lookup x = some .free := hx
    exact clos_has (.inl (lookup_relabel_free hx S.nocell))
  · have hb : b ∈ fp := hb
    refine ⟨Nat.ne_of_lt (hlt b hb), fun x c e => (hfp b hb).2.2.2.2.1 x c (cl e)⟩
  · have hb : b ∈ fp := hb
    rcases (hfp b hb).2.2.2.1 with z | z
    · exact I.ok.noex b o e z
    · exact absurd (Nat.lt_of_lt_of_le (Heap.lt_size e) (Nat.le_trans I.ok.bsz z)) (Nat.lt_irrefl _)
  · have hb : b ∈ fp := hb
    obtain ⟨_, f1, f2, _⟩ := hfp b hb
    rcases List.mem_cons.mp (I.stkSub b hs) with z | z
    · exact f1 z
    · exact f2 z
  · obtain ⟨x', j, e4, e5, e6, e9⟩ := hσ i v e2
    have hy := PySem.mem_of_lookup e9
    have e1' : N'[i]? = some x := e1
    rw [e1'] at e4; cases e4
    have kd := S.free _ hy rfl
    obtain ⟨m, hm, hl⟩ := I.loc
    obtain ⟨u, ru, lk⟩ := hl j x v e5 e6 (kd.elim (fun z => .inr (.inl z)) fun z => .inr (.inr z))
    refine ⟨u, ru, ?_⟩
    rcases lk with ⟨z, _⟩ | ⟨z, c, hc, hcell⟩
    · rcases kd with k | k <;> rw [k] at z <;> cases z
    · obtain ⟨c', hc'⟩ := clos_has (env := X.env) (names := scope.names) (cs := []) (x := x) (.inl ⟨_, hy, rfl, rfl⟩)
      have := cl hc'
      rw [hc] at this; cases this
      have e3' : (relabel scope X.env).names.lookup x = some .local ∨ (relabel scope X.env).names.lookup x = some .cell ∨ (relabel scope X.env).names.lookup x = some .free := e3
      rcases e3' with q | q | q
      · exact absurd q (relabel_free e9)
      · exact .inr ⟨.inl q, c, hc', kept hcell⟩
      · exact .inr ⟨.inr q, c, hc', kept hcell⟩
  · obtain ⟨v, z⟩ := I.cell x c (cl e)
    exact ⟨v, kept z⟩
end
end FD
set_option Elab.async false
set_option linter.all false
set_option maxRecDepth 100000
namespace FD
open PySem PySem.Spec PyProof.Rows L2
variable [Tabs]
theorem comp_loop {prog : Program} {w : World} {A : Around} {R : Result → Shared → Prop} {s : Shared} {elt target iter : Expr} {ifs : List Expr} {scope : Scope} {pos : Pos} {it acc : Value} {env : Env} (I : Nat → Shared → Prop)
    (turn : ∀ n s, I n s → wpAny (model prog w) A (pyNext it) (fun r s₁ => match r with
      | none => R (.ok .next) s₁
      | some v => wpAny (model prog w) A (letOwnedTupleGo target it v) (fun _ s0 => wpAny (model prog w) A (assign target env v) (fun _ s₂ =>
          wpAny (model prog w) A (forIn ifs true fun c r => if r = true then do let ok ← isTrue c env (eval c env); pure (ForInStep.yield ok) else pure (ForInStep.yield r)) (fun ok s₃ =>
            if ok = true then wpAny (model prog w) A (eval elt env) (fun x s₄ =>
              wpAny (model prog w) A (call (.builtin "list.append") [acc, x]) (fun _ s₅ => ∃ m, m < n ∧ I m s₅) (fun _ _ => False) s₄) (fun _ _ => False) s₃
            else ∃ m, m < n ∧ I m s₃) (fun _ _ => False) s₂) (fun _ _ => False) s0) (fun _ _ => False) s₁) (fun _ _ => False) s)
    (n : Nat) (h : I n s) :
    codeAny (model prog w) A (.compLoop (.ListComp elt [⟨target, iter, ifs, 0⟩] scope pos) 0 it acc env) R s := by
  refine codeAny_loop rfl I (fun n s hI => ?_) n h
  show wpAny _ A ((compTurn (.ListComp elt [⟨target, iter, ifs, 0⟩] scope pos) 0 it acc env).onRaise (fun x => do noteFrame x env; theTreesLotGoes x)) _ _ s
  refine wpAny_noted ?_
  rw [compTurn_list]
  refine wpAny_bind (wpAny_standAt (wpAny_bind (wpAny_mono (turn n s hI) (fun r s₁ h₁ => ?_) fun _ _ h' => h'.elim)))
  cases r with
  | none => exact wpAny_pure h₁
  | some v =>
    refine wpAny_bind (wpAny_mono h₁ (fun _ s0 h0 => ?_) fun _ _ h' => h'.elim)
    refine wpAny_bind (wpAny_mono h0 (fun _ s₂ h₂ => wpAny_bind (wpAny_mono h₂ (fun ok s₃ h₃ => ?_) fun _ _ h' => h'.elim)) fun _ _ h' => h'.elim)
    cases ok with
    | false => exact wpAny_pure ⟨rfl, h₃⟩
    | true =>
      exact wpAny_bind (wpAny_bind (wpAny_mono h₃ (fun x s₄ h₄ => wpAny_bind (wpAny_mono h₄ (fun _ s₅ h₅ => wpAny_pure (wpAny_pure ⟨rfl, h₅⟩)) fun _ _ h' => h'.elim)) fun _ _ h' => h'.elim))
theorem no_tests {M : Model} {A : Around} {env : Env} {Q : Bool → Shared → Prop} {E : Value → Shared → Prop} {s : Shared} (h : Q true s) :
    wpAny M A (forIn ([] : List Expr) true fun c r => if r = true then do let ok ← isTrue c env (eval c env); pure (ForInStep.yield ok) else pure (ForInStep.yield r)) Q E s := wpAny_pure h
theorem one_test {M : Model} {A : Around} {env : Env} {Q : Bool → Shared → Prop} {E : Value → Shared → Prop} {s : Shared} {c : Expr} (h : wpAny M A (isTrue c env (eval c env)) Q E s) :
    wpAny M A (forIn [c] true fun c r => if r = true then do let ok ← isTrue c env (eval c env); pure (ForInStep.yield ok) else pure (ForInStep.yield r)) Q E s := by
  rw [List.forIn_cons]
  simp only [if_true]
  refine wpAny_bind (wpAny_bind (wpAny_mono h (fun b s' q => wpAny_pure ?_) fun _ _ e => e))
  exact wpAny_pure q
def PTs (Y : Cx) (ifs : List Expr) (t : TT) : Prop := ∀ (pins : List (Addr × Obj)) (s : Shared) (σ : St) (H : Hp) (Q : Bool → Hp → Prop), Inv Y pins σ H s → t σ H Q →
  wpAny (model Y.prog Y.w) Y.A (forIn ifs true fun c r => if r = true then do let ok ← isTrue c Y.env (eval c Y.env); pure (ForInStep.yield ok) else pure (ForInStep.yield r)) (TP Y pins σ Q) Y.xe s
theorem pts_nil {Y : Cx} : PTs Y [] (fun _ H Q => Q true H) := fun pins s σ H Q I h => no_tests ⟨H, I, h⟩
theorem pts_one {Y : Cx} {c : Expr} {t : TT} (h : PT Y c t) : PTs Y [c] t := fun pins s σ H Q I q => one_test (h pins s σ H Q I q)
def tComp (s0 : St → St) (wi : TI) (g : TG) (ti : TT) (te : TE) : TE := fun σ H Q => wi σ H fun J H1 => ∀ acc, H1 acc = none → ∃ W : Nat → Nat → St → Hp → Prop, (∃ m, W 0 m (s0 σ) (upd H1 acc (.lst []))) ∧ ∀ i m σ1 H, W i m σ1 H →
  (J.stop i H ∧ Q (.ref acc) H) ∨ (J.go i H ∧ ∀ x H', J.yld i H x H' → g x σ1 H' fun σ2 H2 => ti σ2 H2 fun b H3 =>
    if b = true then te σ2 H3 fun y H4 => ∃ ys, H4 acc = some (.lst ys) ∧ ys.length < sizeLine ∧ ∃ m', m' < m ∧ W (i + 1) m' σ2 (upd H4 acc (.lst (ys ++ [y]))) else ∃ m', m' < m ∧ W (i + 1) m' σ2 H3)
section
variable {X : Cx} {scope : Scope} {N' : List Str} {tg iter elt : Expr} {ifs : List Expr} {pos : Pos} {wi : TI} {g : TG} {ti : TT} {te : TE} {s0 : St → St}
theorem hok_but {P : Program} {w : World} {H : Hp} {h h' : Heap} {C : Addr} (ok : HOk P w H h) (hC : H C = none) (k : ∀ b o, b ≠ C → h.get? b = some o → h'.get? b = some o) : HOk P w H h' := fun b u e => by
  refine (ok b u e).stay (fun c v hc q => k c v ?_ q) (fun _ q => q) fun _ _ q => q
  rintro rfl
  rcases hc with z | z
  · subst z; rw [hC] at e; cases e
  · rw [hC] at z; cases z
theorem comp_block {pins : List (Addr × Obj)} {σ : St} {H : Hp} {s : Shared} {QQ : V → Hp → Prop} {J : It} {fp : List Addr} {it acc : Addr} {tn : Nat → Heap → Prop} {RR : Addr → Result → Shared → Prop} {E : Value → Shared → Prop} {W : Nat → Nat → St → Hp → Prop} {m0 : Nat}
    (S : CompScope X scope) (hc : X.calm = true) (hl : (s0 σ).length = N'.length)
    (hσ : ∀ (i : Nat) (v : V), (s0 σ)[i]? = some (some v) → ∃ (x : Str) (j : Nat), N'[i]? = some x ∧ X.N[j]? = some x ∧ σ[j]? = some (some v) ∧ scope.names.lookup x = some .free)
    (hg : ∀ s H C fp, PG (X.comp scope N' s H C fp) tg g) (ht : ∀ s H C fp, PTs (X.comp scope N' s H C fp) ifs ti) (he : ∀ s H C fp, PE (X.comp scope N' s H C fp) elt te)
    (I : Inv X pins σ H s) (T : Turn X.prog X.w X.K tg J fp it tn) (st : tn 0 s.heap) (hfp : ∀ b ∈ fp, FpOk X pins H b) (hlt : ∀ b ∈ fp, b < s.heap.objs.size) (hacc : acc < s.heap.objs.size)
    (w0 : W 0 m0 (s0 σ) H) (turn : ∀ i m σ1 H, W i m σ1 H → (J.stop i H ∧ QQ (.ref acc) H) ∨ (J.go i H ∧ ∀ x H', J.yld i H x H' → g x σ1 H' fun σ2 H2 => ti σ2 H2 fun b H3 =>
        if b = true then te σ2 H3 fun y H4 => ∃ ys, H4 acc = some (.lst ys) ∧ ys.length < sizeLine ∧ ∃ m', m' < m ∧ W (i + 1) m' σ2 (upd H4 acc (.lst (ys ++ [y]))) else ∃ m', m' < m ∧ W (i + 1) m' σ2 H3))
    (hRR : ∀ s', (∃ m, s'.heap.Ns s.heap.objs.size m) → (∀ h', Heap.SameBut s.heap.objs.size s'.heap h' → EP X pins σ (fun v H' => QQ v H' ∧ H' s.heap.objs.size = none) (.ref acc) { s' with heap := h' }) → RR s.heap.objs.size (.ok .next) s') :
    wpAny (model X.prog X.w) X.A (newFunctionEnv scope X.env.globals (closOf scope X.env) [] X.env.qual none .none (some X.env)) (fun cenv s₄ =>
      codeAny (model X.prog X.w) X.A (.compStart (.ListComp elt [⟨tg, iter, ifs, 0⟩] scope pos) 0 (.ref it) (.ref acc) { cenv with scope := relabel scope X.env }) (RR cenv.locals) s₄) E s := by
  refine wpAny_newFunctionEnv S.nocell (by intro y hy; simp at hy) (fun h1 hns hsb => ?_) S.kind
  have keep3 : ∀ b o, s.heap.get? b = some o → h1.get? b = some o := fun b o e => hsb.extBut b o (Nat.ne_of_lt (Heap.lt_size e)) (Heap.get?_push_of_some _ e)
  have Y0 : Inv (X.comp scope N' s H s.heap.objs.size fp) [] (s0 σ) H { s with heap := h1, toks := s.toks + ([] : List (Str × Value)).length } := comp_inv S I hfp hlt hns keep3 hl hσ
  have fpY : ∀ {H' : Hp}, (∀ b ∈ fp, H' b = none) → ∀ b ∈ fp, FpOk (X.comp scope N' s H s.heap.objs.size fp) [] H' b := fun {H'} hn b hb => by
    obtain ⟨f0, f1, f2, f3, f4, f5⟩ := hfp b hb
    refine ⟨hn b hb, Nat.ne_of_lt (hlt b hb), fun z => ?_, .inl hb, fun x c e => f4 x c (comp_cell S I.ok e), fun p hp => absurd (show p ∈ ([] : List (Addr × Obj)) from hp) (by simp)⟩
    rcases List.mem_cons.mp (I.stkSub b z) with q | q
    · exact f1 q
    · exact f2 q
  have st1 : tn 0 h1 := T.keep _ _ _ st fun b hb o e => keep3 b o e
  have loop : ∀ s3 : Shared, s3 = { s with heap := h1, toks := s.toks + ([] : List (Str × Value)).length } →
      codeAny (model X.prog X.w) X.A (.compLoop (.ListComp elt [⟨tg, iter, ifs, 0⟩] scope pos) 0 (.ref it) (.ref acc) (X.comp scope N' s H s.heap.objs.size fp).env) (RR s.heap.objs.size) s3 := by
    rintro s3 rfl
    refine comp_loop (fun n s' => ∃ i σ' H', Inv (X.comp scope N' s H s.heap.objs.size fp) [] σ' H' s' ∧ tn i s'.heap ∧ (∀ b ∈ fp, H' b = none) ∧ W i n σ' H') ?_ m0 ⟨0, s0 σ, H, Y0, st1, fun b hb => (hfp b hb).1, w0⟩
    rintro n s4 ⟨i, σ4, H4, I4, st4, fr4, w4⟩
    rcases turn i n σ4 H4 w4 with ⟨stop, qn⟩ | ⟨go, step⟩
    · refine thn (T.done (X.comp scope N' s H s.heap.objs.size fp) rfl rfl rfl hc i [] s4 σ4 H4 _ I4 (fpY fr4) st4 stop) fun r s5 ⟨hr, I5⟩ => ?_
      subst hr
      obtain ⟨m5, n5, _⟩ := id I5.loc
      have hC : H4 s.heap.objs.size = none := I5.free
      refine hRR s5 ⟨m5, n5⟩ fun h' sb => ⟨.ref acc, H4, ?_, rfl, qn, hC⟩
      refine I.call' (s' := { s5 with heap := h' }) (ch := fp) I5.os ⟨fun b o e n hb hx => ?_, fun b o e n hb hx => ?_, fun b o e n hx => I5.base.free b o e n hx, fun b o e hx => ?_, I5.base.tups, I5.base.frzs, I5.base.tbls⟩ (hok_but I5.hok hC fun b o hb e => (sb.2 b hb).trans e) I5.bare fun b hb => ?_
      · exact (sb.2 b (Nat.ne_of_lt (Heap.lt_size e))).trans (I5.base.keep b o e n hb hx)
      · obtain ⟨sl, q⟩ := I5.base.slot b o e n hb hx
        exact ⟨sl, (sb.2 b (Nat.ne_of_lt (Heap.lt_size e))).trans q⟩
      · obtain ⟨o', q⟩ := I5.base.there b o e hx
        exact ⟨o', (sb.2 b (Nat.ne_of_lt (Heap.lt_size e))).trans q⟩
      · obtain ⟨f0, f1, f2, f3, f4, f5⟩ := hfp b hb
        exact ⟨f3, f1, f4, f5⟩
    · refine thn (T.item (X.comp scope N' s H s.heap.objs.size fp) rfl rfl rfl hc i [] s4 σ4 H4 _ I4 (fpY fr4) st4 go) fun r s5 ⟨u, hr, h5⟩ => ?_
      subst hr
      refine thn h5 fun _ s6 ⟨x, H6, I6, r6, y6, st6, fr6⟩ => ?_
      have I6' := I6.pinned (fpY fr6) (T.obj _ _ st6)
      refine thn (hg _ _ _ _ _ s6 σ4 H6 x u _ I6' r6 (step x H6 y6)) fun _ s7 ⟨σ7, H7, I7, q7⟩ => ?_
      refine thn (ht _ _ _ _ _ s7 σ7 H7 _ I7 q7) fun ok s8 ⟨H8, I8, q8⟩ => ?_
      have again : ∀ {s9 : Shared} {H9 : Hp} {m' : Nat}, Inv (X.comp scope N' s H s.heap.objs.size fp) ([] ++ pinsAt fp s6.heap) σ7 H9 s9 → m' < n → W (i + 1) m' σ7 H9 → ∃ m, m < n ∧ ∃ i σ' H', Inv (X.comp scope N' s H s.heap.objs.size fp) [] σ' H' s9 ∧ tn i s9.heap ∧ (∀ b ∈ fp, H' b = none) ∧ W i m σ' H' := fun {s9 H9 m'} I9 hm w9 => by
        refine ⟨m', hm, i + 1, σ7, H9, I9.unpinned, T.keep _ _ _ st6 fun b hb o e => (I9.pin (b, o) (List.mem_append_right _ (List.mem_append_right _ (mem_pinsAt hb e)))).1, fun b hb => ?_, w9⟩
        obtain ⟨o, e, d⟩ := T.obj _ _ st6 b hb
        exact (I9.pin (b, o) (List.mem_append_right _ (List.mem_append_right _ (mem_pinsAt hb e)))).2.1
      cases ok with
      | false =>
        rw [if_neg (by simp)] at q8
        obtain ⟨m', hm, w8⟩ := q8
        exact again I8 hm w8
      | true =>
        rw [if_pos rfl] at q8
        refine thn (he _ _ _ _ _ s8 σ7 H8 _ I8 q8) fun y s9 ⟨z, H9, I9, r9, ys, e9, l9, m', hm, w9⟩ => ?_
        refine thn (mt_append _ s9 σ7 H9 (.ref acc) [z] (.ref acc) [y] (fun _ H' => H' = upd H9 acc (.lst (ys ++ [z]))) I9 rfl (.cons r9 .nil) ⟨acc, ys, z, rfl, rfl, e9, l9, rfl⟩) fun _ s10 ⟨_, H10, I10, _, e10⟩ => ?_
        subst e10
        exact again I10 hm w9
  exact codeAny_compStart_list (loop _ rfl) (T.self _ 0 _ _ _ st1 (loop _ rfl))
end
end FD
set_option Elab.async false
set_option linter.all false
set_option maxRecDepth 100000
namespace FD
open PySem PySem.Spec PyProof.Rows L2
variable [Tabs]
section
variable {X : Cx} {scope : Scope} {N' : List Str} {tg iter elt : Expr} {ifs : List Expr} {pos : Pos} {wi : TI} {g : TG} {ti : TT} {te : TE} {s0 : St → St}
theorem fp_lt {pins : List (Addr × Obj)} {σ : St} {H : Hp} {s : Shared} {J : It} {fp : List Addr} {it : Addr} {tn : Nat → Heap → Prop} (T : Turn X.prog X.w X.K tg J fp it tn) (st : tn 0 s.heap) : ∀ b ∈ fp, b < s.heap.objs.size := fun b hb => by
  obtain ⟨o, e, _⟩ := T.obj 0 _ st b hb
  exact Heap.lt_size e
theorem pe_comp (S : CompScope X scope) (hc : X.calm = true) (hl : ∀ σ : St, σ.length = X.N.length → (s0 σ).length = N'.length)
    (hσ : ∀ (σ : St) (i : Nat) (v : V), (s0 σ)[i]? = some (some v) → ∃ (x : Str) (j : Nat), N'[i]? = some x ∧ X.N[j]? = some x ∧ σ[j]? = some (some v) ∧ scope.names.lookup x = some .free)
    (hi : PI X tg iter wi) (hg : ∀ s H C fp, PG (X.comp scope N' s H C fp) tg g) (ht : ∀ s H C fp, PTs (X.comp scope N' s H C fp) ifs ti) (he : ∀ s H C fp, PE (X.comp scope N' s H C fp) elt te)
    (hs : ∀ x, foldedSetIterable iter X.env x = pure x := by intro _; rfl) : PE X (.ListComp elt [⟨tg, iter, ifs, 0⟩] scope pos) (tComp s0 wi g ti te) := by
  intro pins s σ H Q I h
  rw [eval_ListComp]
  have hclos := closureFor_eq (scope := scope) (env := X.env) fun y hy hk => Option.isSome_iff_exists.mpr (I.ok.has y.1 (S.free y hy hk))
  refine wpAny_comprehension_free (use := none) rfl hs hclos S.kind S.locs (thn (hi pins s σ H _ I h) fun x s1 h1 => thn h1 fun itv s2 h2 => ?_)
  obtain ⟨it, fp, tn, J, H2, e, I2, T, st2, f2, hw⟩ := h2
  subst e
  have hf : H2 s2.heap.objs.size = none := I2.hok.fresh (Nat.le_refl _)
  obtain ⟨W, ⟨m0, w0⟩, turn⟩ := hw _ hf
  have hlt := fp_lt (pins := pins) (σ := σ) (H := H2) T st2
  refine wpAny_newObj_type ?_
  have I3 : Inv X pins σ (upd H2 s2.heap.objs.size (.lst [])) { s2 with heap := s2.heap.push { cls := .type "list", dict := none, data := .seq ([] : List Value).toArray } } :=
    I2.laid (t' := s2.toks) (o := .lst []) (fun b u e => Heap.get?_push_of_some _ e) (Nat.le_refl _) ⟨Nat.zero_le _, [], 0, .nil, Heap.get?_push_size _ rfl⟩
  have hsz : s2.heap.objs.size < (s2.heap.push { cls := .type "list", dict := none, data := .seq ([] : List Value).toArray }).objs.size := by rw [Heap.size_push]; exact Nat.lt_succ_self _
  refine comp_block (s0 := s0) (QQ := Q) (W := W) (m0 := m0) S hc (hl σ I2.len) (hσ σ) hg ht he I3 T (T.keep _ _ _ st2 fun b hb o e => Heap.get?_push_of_some _ e) (fun b hb => ?_) (fun b hb => Nat.lt_trans (hlt b hb) hsz) hsz w0 turn fun s' ⟨m, hn⟩ hq => ⟨m, hn, fun h' sb => let ⟨v, H', I', r', q', _⟩ := hq h' sb; ⟨v, H', I', r', q'⟩⟩
  obtain ⟨f0, f1, f2, f3⟩ := f2 b hb
  exact ⟨by rw [upd_ne (Nat.ne_of_lt (hlt b hb))]; exact f0, f1, f2, f3⟩
theorem ps_comp {i : Nat} {y : Str} {py spos : Pos} (hN : X.N.Nodup) (hiN : X.N[i]? = some y) (hy : X.env.scope.names.lookup y = some .local)
    (hsw : swapsWith (.ListComp elt [⟨tg, iter, ifs, 0⟩] scope pos) (some (.Name y py)) spos.line X.env = pure true)
    (S : CompScope X scope) (hc : X.calm = true) (hl : ∀ σ : St, σ.length = X.N.length → (s0 σ).length = N'.length)
    (hσ : ∀ (σ : St) (i : Nat) (v : V), (s0 σ)[i]? = some (some v) → ∃ (x : Str) (j : Nat), N'[i]? = some x ∧ X.N[j]? = some x ∧ σ[j]? = some (some v) ∧ scope.names.lookup x = some .free)
    (hi : PI X tg iter wi) (hg : ∀ s H C fp, PG (X.comp scope N' s H C fp) tg g) (ht : ∀ s H C fp, PTs (X.comp scope N' s H C fp) ifs ti) (he : ∀ s H C fp, PE (X.comp scope N' s H C fp) elt te)
    (hs : ∀ x, foldedSetIterable iter X.env x = pure x := by intro _; rfl) : PS X (.Assign [.Name y py] (.ListComp elt [⟨tg, iter, ifs, 0⟩] scope pos) spos) (tAsg (tComp s0 wi g ti te) (gName i)) := by
  intro pins s σ H D I h
  rw [exec_Assign_Name_used _ _ _ _ hsw]
  refine wpAny_bind (wpAny_standAt (wpAny_bind ?_))
  show wpAny _ X.A (do let _ ← comprehension (.ListComp elt [⟨tg, iter, ifs, 0⟩] scope pos) scope X.env _ (newList []) false (eval iter X.env) (some (assign (.Name y py) X.env))) _ _ s
  have hclos := closureFor_eq (scope := scope) (env := X.env) fun y hy hk => Option.isSome_iff_exists.mpr (I.ok.has y.1 (S.free y hy hk))
  refine wpAny_bind (wpAny_mono (wpAny_comprehension_free (use := some (assign (.Name y py) X.env)) (Q := fun _ s' => SP X pins D .next s') rfl hs hclos S.kind S.locs
    (thn (hi pins s σ H _ I h) fun x s1 h1 => thn h1 fun itv s2 h2 => ?_)) (fun _ s' hq => wpAny_pure (wpAny_pure hq)) fun _ _ e => e)
  obtain ⟨it, fp, tn, J, H2, e, I2, T, st2, f2, hw⟩ := h2
  subst e
  have hf : H2 s2.heap.objs.size = none := I2.hok.fresh (Nat.le_refl _)
  obtain ⟨W, ⟨m0, w0⟩, turn⟩ := hw _ hf
  have hlt := fp_lt (pins := pins) (σ := σ) (H := H2) T st2
  refine wpAny_newObj_type ?_
  have I3 : Inv X pins σ (upd H2 s2.heap.objs.size (.lst [])) { s2 with heap := s2.heap.push { cls := .type "list", dict := none, data := .seq ([] : List Value).toArray } } :=
    I2.laid (t' := s2.toks) (o := .lst []) (fun b u e => Heap.get?_push_of_some _ e) (Nat.le_refl _) ⟨Nat.zero_le _, [], 0, .nil, Heap.get?_push_size _ rfl⟩
  have hsz : s2.heap.objs.size < (s2.heap.push { cls := .type "list", dict := none, data := .seq ([] : List Value).toArray }).objs.size := by rw [Heap.size_push]; exact Nat.lt_succ_self _
  refine comp_block (s0 := s0) (QQ := fun x H1 => gName i x σ H1 D.nx) (W := W) (m0 := m0) S hc (hl σ I2.len) (hσ σ) hg ht he I3 T (T.keep _ _ _ st2 fun b hb o e => Heap.get?_push_of_some _ e) (fun b hb => ?_) (fun b hb => Nat.lt_trans (hlt b hb) hsz) hsz w0 turn fun s' ⟨m, hn⟩ hq => ?_
  · obtain ⟨f0, f1, f2, f3⟩ := f2 b hb
    exact ⟨by rw [upd_ne (Nat.ne_of_lt (hlt b hb))]; exact f0, f1, f2, f3⟩
  · obtain ⟨v, H5, I5, r5, q5, hC⟩ := hq s'.heap (.refl ..)
    have I5 : Inv X pins σ H5 s' := I5
    show wpAny _ X.A (assign (.Name y py) X.env _) _ _ s'
    refine wpAny_assign_Name (store_ok2 I5 hN hiN (.inl hy) r5 (fun s6 I6 ⟨a, sb, ha⟩ => ?_) (.inr hy))
    have lt3 := I3.lt
    have ca : ∀ x c, X.env.cells.lookup x = some c → c < (s2.heap.push { cls := .type "list", dict := none, data := .seq ([] : List Value).toArray }).objs.size := fun x c e => by
      obtain ⟨v, z⟩ := I3.cell x c e
      exact z.lt
    have hne : (s2.heap.push { cls := .type "list", dict := none, data := .seq ([] : List Value).toArray }).objs.size ≠ a := by
      rcases ha with rfl | ha
      · exact Nat.ne_of_gt lt3
      · exact Nat.ne_of_gt (ca _ _ ha)
    refine ⟨m, hn.sameBut sb hne, fun h' sb' => ⟨_, H5, ?_, q5⟩⟩
    refine I6.turned (t' := s6.toks) (it := (s2.heap.push { cls := .type "list", dict := none, data := .seq ([] : List Value).toArray }).objs.size) (fun b o hb e => (sb'.2 b hb).trans e) hC (Nat.ne_of_gt lt3) (.inr I3.sz) (fun x c e => Nat.ne_of_lt (ca x c e)) fun p hp => ?_
    exact Nat.ne_of_lt (Heap.lt_size (I3.pin p hp).1)
end
end FD
set_option Elab.async false
set_option linter.all false
set_option maxRecDepth 100000
namespace FD
open PySem PySem.Spec PyProof.Rows L2
variable [Tabs]
def compL (set : FG) (ft : FT) (fe : FE) (τ : DS) : List D → Rs (List D)
  | [] => .ok []
  | d :: r => match set d τ with
    | .ok τ1 => match ft τ1 with
      | .ok true => match fe τ1 with
        | .ok x => (compL set ft fe τ r).bind fun xs => .ok (x :: xs)
        | _ => .no
      | .ok false => compL set ft fe τ r
      | _ => .no
    | _ => .no
def valOnly : Option (Option Sl) → Option Sl
  | some (some (.val d)) => some (.val d)
  | some (some (.obr c fs)) => some (.obr c fs)
  | some (some (.obj _ c fs)) => some (.obr c fs)
  | _ => none
def tau0 (k : Nat) (idx : List Nat) (τ : DS) : DS := List.replicate k none ++ idx.map fun j => valOnly τ[j]?
def sig0 (k : Nat) (idx : List Nat) (σ : St) : St := List.replicate k none ++ idx.map fun j => (σ[j]?).join
def eComp (k : Nat) (idx : List Nat) (fi : FA) (set : FG) (ft : FT) (fe : FE) : FA := fun τ => (fi τ).bind fun ds => match compL set ft fe (tau0 k idx τ) ds with
  | .ok xs => if xs.length ≤ sizeLine then .ok xs else .no
  | _ => .no
def noOwn (τ : DS) : Prop := (∀ (i : Nat) es, τ[i]? ≠ some (some (.own es))) ∧ ∀ (i n : Nat) c fs, τ[i]? ≠ some (some (.obj n c fs))
structure SetOk (set : FG) : Prop where
  ov : ∀ d e τ τ1, set e τ = .ok τ1 → set d τ1 = set d τ
  no : ∀ d τ τ1, set d τ = .ok τ1 → noOwn τ → noOwn τ1
theorem noOwn_set {τ : DS} {i : Nat} {d : D} (h : noOwn τ) : noOwn (τ.set i (some (.val d))) := ⟨fun j es e => by
  by_cases hij : i = j
  · subst hij
    rw [List.getElem?_set] at e
    simp only [if_true] at e
    split at e <;> cases e
  · rw [List.getElem?_set_ne hij] at e; exact h.1 j es e, fun j n c fs e => h.2 j n c fs (set_obj (s := some (.val d)) rfl rfl e).2⟩
theorem setOk_nm (i : Nat) : SetOk (gNm i) := ⟨fun d e τ τ1 h => by
  unfold gNm at h ⊢; cases h; rw [List.set_set], fun d τ τ1 h n => by unfold gNm at h; cases h; exact noOwn_set n⟩
theorem noOwn_tau1 (k : Nat) (idx : List Nat) (τ : DS) : ∀ (i : Nat) es, (tau0 k idx τ)[i]? ≠ some (some (.own es)) := fun i es e => by
  unfold tau0 at e
  by_cases hi : i < k
  · rw [List.getElem?_append_left (by simpa using hi), List.getElem?_replicate] at e
    simp [hi] at e
  · rw [List.getElem?_append_right (by simpa using hi), List.getElem?_map] at e
    cases q : idx[i - (List.replicate k (none : Option Sl)).length]? with
    | none => rw [q] at e; cases e
    | some j =>
      rw [q] at e
      simp only [Option.map_some, Option.some.injEq] at e
      unfold valOnly at e
      split at e <;> cases e
theorem noObj_tau0 (k : Nat) (idx : List Nat) (τ : DS) : ∀ (i n : Nat) c fs, (tau0 k idx τ)[i]? ≠ some (some (.obj n c fs)) := fun i n c fs e => by
  unfold tau0 at e
  by_cases hi : i < k
  · rw [List.getElem?_append_left (by simpa using hi), List.getElem?_replicate] at e
    simp [hi] at e
  · rw [List.getElem?_append_right (by simpa using hi), List.getElem?_map] at e
    cases q : idx[i - (List.replicate k (none : Option Sl)).length]? with
    | none => rw [q] at e; cases e
    | some j =>
      rw [q] at e
      simp only [Option.map_some, Option.some.injEq] at e
      unfold valOnly at e
      split at e <;> cases e
theorem noOwn_tau0 (k : Nat) (idx : List Nat) (τ : DS) : noOwn (tau0 k idx τ) := ⟨noOwn_tau1 k idx τ, noObj_tau0 k idx τ⟩
theorem obr_tau0 {k : Nat} {idx : List Nat} {τ : DS} {i : Nat} {c : Str} {fs : List (Str × D)} (e : (tau0 k idx τ)[i]? = some (some (.obr c fs))) : ∃ j, k ≤ i ∧ idx[i - k]? = some j ∧ ((∃ n, τ[j]? = some (some (.obj n c fs))) ∨ τ[j]? = some (some (.obr c fs))) := by
  unfold tau0 at e
  by_cases hi : i < k
  · rw [List.getElem?_append_left (by simpa using hi), List.getElem?_replicate] at e
    simp [hi] at e
  · rw [List.getElem?_append_right (by simpa using hi), List.getElem?_map] at e
    simp only [List.length_replicate] at e
    cases q : idx[i - k]? with
    | none => rw [q] at e; cases e
    | some j =>
      rw [q] at e
      simp only [Option.map_some, Option.some.injEq] at e
      unfold valOnly at e
      split at e <;> cases e
      · exact ⟨j, by omega, rfl, .inr (by assumption)⟩
      · exact ⟨j, by omega, rfl, .inl ⟨_, by assumption⟩⟩
theorem ObsOk.read {K : PySem.W.Frag} {F H : Hp} {τ : DS} {σ : St} (n : noOwn τ) (h : ∀ (i : Nat) (c : Str) (fs : List (Str × D)), τ[i]? = some (some (.obr c fs)) → ∃ a C dx vs, σ[i]? = some (some (.ref a)) ∧ H a = some (.ins C dx vs) ∧ PySem.W.nsIn K mainGlobals c = some (some (.ref C)) ∧ Flds K F H c fs vs) : ObsOk K F τ σ H :=
  ⟨fun i m c fs h => absurd h (n.2 i m c fs), fun i j m c c' fs a _ h => absurd h (n.2 i m c fs), h, fun i j m c c' fs a a' l _ h => absurd h (n.2 i m c fs), fun i j c ds a l _ h => absurd h (n.1 j ds)⟩
theorem RV.free_upd {K : PySem.W.Frag} {F H : Hp} {τ : DS} {σ : St} {p : Addr} {o : HO} (R : RV K F τ σ H) (n : noOwn τ) (hp : F p = none) (hl : H p = none ∨ ∃ vs, H p = some (.lst vs)) (hq : ∀ (i : Nat) (c : Str) (a : Addr), ObS τ[i]? c → σ[i]? = some (some (.ref a)) → p ∉ Lof H c a) (ho : ∀ a, o ≠ .own a := by intro _ h; cases h) : RV K F τ σ (upd H p o) :=
  ⟨fun b u e => by
    have : b ≠ p := fun z => by subst z; rw [hp] at e; cases e
    rw [upd_ne this]; exact R.fh b u e, R.len, R.val, fun i es e => absurd e (n.1 i es), fun i j ds es a _ h => absurd h (n.1 i ds), R.tt.step (fun _ _ e => .inl e) (fun b o e n => by
    have : b ≠ p := fun z => by
      subst z
      rcases hl with z | ⟨vs, z⟩
      · rw [z] at e; cases e
      · rw [z] at e; cases e; exact n _ rfl
    rw [upd_ne this]; exact e) (no_upd ho), R.ob.updL hl hq⟩
theorem RS.apart {K : PySem.W.Frag} {B Z F H : Hp} {τ : DS} {σ : St} {p : Addr} (R : RS K B Z F τ σ H) (n : noOwn τ) (hp : B p = none) : ∀ (i : Nat) (c : Str) (a : Addr), ObS τ[i]? c → σ[i]? = some (some (.ref a)) → p ∉ Lof H c a := fun i c a h e hm => by
  rcases h with ⟨m, fs, h⟩ | ⟨fs, h⟩
  · exact n.2 i m c fs h
  · obtain ⟨C, dx, vs, h1, h2⟩ := R.ro i c fs a h e
    rw [Lof.ins (R.bh _ _ h1)] at hm
    obtain ⟨ws, h3⟩ := h2 p hm
    rw [hp] at h3; cases h3
theorem RS.free_upd {K : PySem.W.Frag} {B Z F H : Hp} {τ : DS} {σ : St} {p : Addr} {vs : List V} (R : RS K B Z F τ σ H) (n : noOwn τ) (hb : B p = none) (hp : F p = none) (hl : H p = none ∨ ∃ vs, H p = some (.lst vs)) : RS K B Z F τ σ (upd H p (.lst vs)) :=
  ⟨R.rv.free_upd n hp hl (R.apart n hb), fun a o e => by
    have : a ≠ p := fun z => by subst z; rw [hb] at e; cases e
    rw [upd_ne this]; exact R.bh a o e, R.zf, R.nb, fun i ds a h => absurd h (n.1 i ds), fun i m c fs a h => absurd h (n.2 i m c fs), fun a0 dx h1 h2 i m c fs h => absurd h (n.2 i (m + 1) c fs), R.ro⟩
theorem rv_comp {K : PySem.W.Frag} {F H : Hp} {τ : DS} {σ : St} (k : Nat) (idx : List Nat) (R : RV K F τ σ H) : RV K F (tau0 k idx τ) (sig0 k idx σ) H := by
  refine ⟨R.fh, by simp [tau0, sig0], fun i d e => ?_, fun i es e => absurd e (noOwn_tau1 k idx τ i es), fun i j ds es a _ h => absurd h (noOwn_tau1 k idx τ i ds), R.tt, ObsOk.read (noOwn_tau0 k idx τ) fun i c fs e => ?_⟩
  rotate_left
  · obtain ⟨j, hk, hj, h⟩ := obr_tau0 e
    have es : ∀ v, σ[j]? = some (some v) → (sig0 k idx σ)[i]? = some (some v) := fun v h => by
      unfold sig0
      rw [List.getElem?_append_right (by simpa using hk), List.getElem?_map]
      simp [hj, h]
    rcases h with ⟨n, h⟩ | h
    · obtain ⟨a, h1, C, dx, vs, h2, _, h4, h5, _⟩ := R.ob.at_ j n c fs h
      exact ⟨a, C, dx, vs, es _ h1, h2, h4, h5⟩
    · obtain ⟨a, C, dx, vs, h1, h2, h4, h5⟩ := R.ob.rd j c fs h
      exact ⟨a, C, dx, vs, es _ h1, h2, h4, h5⟩
  unfold tau0 at e
  unfold sig0
  by_cases hi : i < k
  · rw [List.getElem?_append_left (by simpa using hi), List.getElem?_replicate] at e
    simp [hi] at e
  · rw [List.getElem?_append_right (by simpa using hi), List.getElem?_map] at e
    rw [List.getElem?_append_right (by simpa using hi), List.getElem?_map]
    simp only [List.length_replicate] at e ⊢
    cases q : idx[i - k]? with
    | none => rw [q] at e; cases e
    | some j =>
      rw [q] at e
      simp only [Option.map_some, Option.some.injEq] at e
      have : τ[j]? = some (some (.val d)) := by
        unfold valOnly at e
        split at e <;> cases e
        assumption
      obtain ⟨v, h1, h2⟩ := R.val j d this
      exact ⟨v, by simp [h1], h2⟩
theorem rs_comp {K : PySem.W.Frag} {F H : Hp} {τ : DS} {σ : St} (k : Nat) (idx : List Nat) (R : RV K F τ σ H) : RS K H F F (tau0 k idx τ) (sig0 k idx σ) H :=
  ⟨rv_comp k idx R, Hh.refl H, Same.refl F, fun a o e => .inl e, fun i ds a h => absurd h (noOwn_tau1 k idx τ i ds), fun i m c fs a h => absurd h (noObj_tau0 k idx τ i m c fs), fun a0 dx h1 h2 i m c fs h => absurd h (noObj_tau0 k idx τ i (m + 1) c fs), fun i c fs a h e => by
    obtain ⟨a', C, dx, vs, h1, h2, _, h5⟩ := (rv_comp k idx R).ob.rd i c fs h
    rw [e] at h1; cases h1
    exact ⟨C, dx, vs, h2, fun l hl => (h5.own hl).2⟩⟩
def hideAt (H : Hp) (p : Addr) : Hp := fun b => if b = p then none else H b
theorem hideAt_same (H : Hp) (p : Addr) : hideAt H p p = none := by unfold hideAt; rw [if_pos rfl]
theorem hideAt_ne {H : Hp} {p b : Addr} (h : b ≠ p) : hideAt H p b = H b := by unfold hideAt; rw [if_neg h]
theorem upd_hide (H : Hp) (p : Addr) (o : HO) : upd (hideAt H p) p o = upd H p o := by
  funext b; unfold upd hideAt; split <;> rfl
theorem ext_hide {F1 H1 F2 Hm F5 H5 : Hp} {acc : Addr} {ls : List V} (a : Ext F1 H1 F2 Hm) (hm : Hm acc = none) (b : Ext F2 (upd Hm acc (.lst ls)) F5 H5) : Ext F1 H1 F5 (hideAt H5 acc) ∧ F5 acc = none := by
  have hf5 : F5 acc = none := by
    cases q : F5 acc with
    | none => rfl
    | some o =>
      rcases b.nw acc o q with z | z
      · rw [none_of_same a.fh hm] at z; cases z
      · rw [upd_same] at z; cases z
  have h1 : H1 acc = none := none_of_hh a.hh hm
  have ha : H5 acc = some (.lst ls) := b.hh acc _ upd_same
  refine ⟨⟨a.ff.trans b.ff, fun c o e => ?_, fun c o e => ?_, fun c o e => ?_, fun t => ?_⟩, hf5⟩
  · have n : c ≠ acc := fun z => by subst z; rw [h1] at e; cases e
    rw [hideAt_ne n]
    exact ((a.hh.trans (.of (same_upd hm))).trans b.hh) c o e
  · have n : c ≠ acc := fun z => by subst z; rw [hf5] at e; cases e
    rw [hideAt_ne n]; exact b.fh c o e
  · rcases b.nw c o e with z | z
    · exact a.nw c o z
    · have n : c ≠ acc := fun z' => by subst z'; rw [upd_same] at z; cases z
      rw [upd_ne n] at z
      exact .inr (none_of_hh a.hh z)
  · have t2 := b.tt ((a.tt t).step (F' := F2) (H' := upd Hm acc (.lst ls)) (fun _ _ e => .inl e) (fun c o e _ => by rw [upd_ne (ne_of_none e hm)]; exact e) (no_upd fun _ z => nomatch z))
    exact t2.step (fun _ _ e => .inl e) (fun c o e n => by
      have : c ≠ acc := fun z => by subst z; rw [ha] at e; cases e; exact n _ rfl
      rw [hideAt_ne this]; exact e) fun d a e => by
      unfold hideAt at e
      split at e
      · cases e
      · exact e
def FreeOk (scope : Scope) (N : List Str) : List Str → List Nat → Prop
  | [], [] => True
  | x :: xs, j :: js => N[j]? = some x ∧ scope.names.lookup x = some .free ∧ FreeOk scope N xs js
  | _, _ => False
theorem FreeOk.len {scope : Scope} {N : List Str} : ∀ {xs : List Str} {js : List Nat}, FreeOk scope N xs js → xs.length = js.length
  | [], [], _ => rfl
  | _ :: xs, _ :: js, h => by rw [List.length_cons, List.length_cons, FreeOk.len h.2.2]
theorem FreeOk.get {scope : Scope} {N : List Str} : ∀ {xs : List Str} {js : List Nat} {p j : Nat}, FreeOk scope N xs js → js[p]? = some j → ∃ x, xs[p]? = some x ∧ N[j]? = some x ∧ scope.names.lookup x = some .free
  | [], [], _, _, _, e => by simp at e
  | x :: xs, i :: js, 0, j, h, e => by simp at e; subst e; exact ⟨x, rfl, h.1, h.2.1⟩
  | x :: xs, i :: js, p + 1, j, h, e => by
    obtain ⟨y, h1, h2⟩ := FreeOk.get (p := p) h.2.2 (by simpa using e)
    exact ⟨y, by simpa using h1, h2⟩
def compOkB (osc scope : Scope) : Bool := (match scope.kind with | .function => true | _ => false) && scope.names.all (fun y => match y.2 with
  | .cell => false
  | .local => (match scope.names.lookup y.1 with | some .local => true | _ => false)
  | .free => (match osc.names.lookup y.1 with | some .cell => true | some .free => true | _ => false)
  | _ => true)
theorem compScope_of {X : Cx} {scope : Scope} (h : compOkB X.env.scope scope = true) : CompScope X scope := by
  unfold compOkB at h
  rw [Bool.and_eq_true, List.all_eq_true] at h
  obtain ⟨h1, h2⟩ := h
  refine ⟨?_, fun y hy z => ?_, fun y hy z => ?_, fun y hy z => ?_⟩
  · split at h1
    · assumption
    · cases h1
  · have := h2 y hy; rw [z] at this; cases this
  · have := h2 y hy; rw [z] at this
    simp only at this
    split at this
    · assumption
    · cases this
  · have := h2 y hy; rw [z] at this
    simp only at this
    split at this
    · left; assumption
    · right; assumption
    · cases this
def PDTs (Y : Cx) (ifs : List Expr) (f : FT) : Prop := PTs Y ifs (tTs Y f)
theorem pdts_nil {Y : Cx} : PDTs Y [] (fun _ => .ok true) := fun pins s σ H Q I ⟨F, τ, R, h⟩ => pts_nil pins s σ H Q I (h F H (Ext.refl R.fh))
theorem pdts_one {Y : Cx} {c : Expr} {f : FT} (h : PDT Y c f) : PDTs Y [c] f := pts_one h
section
variable {X : Cx} {scope : Scope} {tn fr : List Str} {idx : List Nat} {tg iter elt : Expr} {ifs : List Expr} {pos : Pos} {fi : FA} {set : FG} {ft : FT} {fe : FE}
structure CWH (K : PySem.W.Frag) (set : FG) (ft : FT) (fe : FE) (t0 : DS) (ds xs : List D) (F1 H1 : Hp) (acc : Addr) (i : Nat) (σ1 : St) (Hc F2 Hm : Hp) (τ1 : DS) (dn rs : List D) (vs : List V) : Prop where
  a1 : Ext F1 H1 F2 Hm
  a2 : Hm acc = none
  a3 : Hc = upd Hm acc (.lst vs)
  a4 : Reps K F2 dn vs
  a5 : RS K H1 F1 F2 τ1 σ1 Hc
  a6 : noOwn τ1
  a7 : ∀ d, set d τ1 = set d t0
  a8 : compL set ft fe t0 (ds.drop i) = .ok rs
  a9 : xs = dn ++ rs
theorem comp_read (so : SetOk set) {Y : Cx} (hK : Y.K = X.K) (σ : St) (H : Hp) (Q : VK) (h : tFr X (eComp tn.length idx fi set ft fe) σ H Q) : tComp (sig0 tn.length idx) (tI X fi) (tG Y set) (tTs Y ft) (tE Y fe) σ H Q := by
  obtain ⟨F, τ, R, h⟩ := h
  refine ⟨F, τ, R, h.bind.imp fun ds gds J F1 H1 x io => fun acc hacc => ?_⟩
  cases q : compL set ft fe (tau0 tn.length idx τ) ds with
  | no => rw [q] at gds; exact gds.elim
  | ex c => rw [q] at gds; exact gds.elim
  | ok xs =>
    rw [q] at gds
    obtain ⟨hz, k⟩ := ok_ite gds
    have R1 := R.ext x
    have hF1 : F1 acc = none := none_of_same x.fh hacc
    refine ⟨fun i m σ1 Hc => m = ds.length - i ∧ i ≤ ds.length ∧ ∃ F2 Hm τ1 dn rs vs, CWH X.K set ft fe (tau0 tn.length idx τ) ds xs F1 H1 acc i σ1 Hc F2 Hm τ1 dn rs vs, ⟨ds.length, by simp, Nat.zero_le _, F1, H1, _, [], xs, [], Ext.refl x.fh, hacc, rfl, Reps.nil, ?_, noOwn_tau0 _ _ _, fun _ => rfl, q, rfl⟩, ?_⟩
    · exact (rs_comp tn.length idx R1).free_upd (noOwn_tau0 _ _ _) hacc hF1 (.inl hacc)
    rintro i m σ1 Hc ⟨rfl, hi, F2, Hm, τ1, dn, rs, vs, x2, hm, rfl, r2, R2, n2, so2, cl, ex⟩
    obtain ⟨i1, i2⟩ := io i F2 _ x2.ff R2.rv.fh
    by_cases hlt : i < ds.length
    · have hd : ds.drop i = ds[i] :: ds.drop (i + 1) := List.drop_eq_getElem_cons hlt
      rw [hd, compL] at cl
      obtain ⟨go, yl⟩ := i2 ds[i] (by simp [hlt])
      refine .inr ⟨go, fun y H' yy => ?_⟩
      obtain ⟨F3, x3, r3⟩ := yl y H' yy
      refine ⟨F3, τ1, ds[i], by rw [hK]; exact (R2.ext x3).rv, by rw [hK]; exact r3, ?_⟩
      rw [so2]
      cases e1 : set ds[i] (tau0 tn.length idx τ) with
      | no => rw [e1] at cl; cases cl
      | ex c => rw [e1] at cl; cases cl
      | ok τ2 =>
        rw [e1] at cl
        simp only at cl
        intro σ2 _ RR _
        rw [hK] at RR
        have RR := RR _ _ (R2.ext x3)
        have n3 := so.no _ _ _ e1 (noOwn_tau0 _ _ _)
        have so3 : ∀ d, set d τ2 = set d (tau0 tn.length idx τ) := fun d => so.ov d _ _ _ e1
        cases e2 : ft τ2 with
        | no => rw [e2] at cl; cases cl
        | ex c => rw [e2] at cl; cases cl
        | ok b =>
          rw [e2] at cl
          refine ⟨F3, τ2, by rw [hK]; exact RR.rv, ?_⟩
          rw [e2]
          intro F4 H4 x4
          have x34 := x3.trans x4
          cases b with
          | false =>
            simp only at cl
            rw [if_neg (by simp)]
            obtain ⟨y1, y2⟩ := ext_hide x2 hm x34
            have ha : H4 acc = some (.lst vs) := x34.hh acc _ upd_same
            have eH : H4 = upd (hideAt H4 acc) acc (.lst vs) := by
              rw [upd_hide]; funext b; unfold upd; split
              · rename_i z; subst z; exact ha
              · rfl
            refine ⟨ds.length - (i + 1), by omega, rfl, hlt, F4, hideAt H4 acc, τ2, dn, rs, vs, y1, hideAt_same _ _, eH, r2.mono x34.ff, RR.ext x4, n3, so3, cl, ex⟩
          | true =>
            simp only at cl
            rw [if_pos rfl]
            cases e3 : fe τ2 with
            | no => rw [e3] at cl; cases cl
            | ex c => rw [e3] at cl; cases cl
            | ok z =>
              rw [e3] at cl
              simp only at cl
              cases e4 : compL set ft fe (tau0 tn.length idx τ) (ds.drop (i + 1)) with
              | no => rw [e4] at cl; cases cl
              | ex c => rw [e4] at cl; cases cl
              | ok rs' =>
                rw [e4] at cl
                have ers : z :: rs' = rs := by simpa using cl
                refine ⟨F4, τ2, by rw [hK]; exact (RR.ext x4).rv, ?_⟩
                rw [e3]
                intro v F5 H5 x5 r5
                rw [hK] at r5
                have x35 := x34.trans x5
                obtain ⟨y1, y2⟩ := ext_hide x2 hm x35
                refine ⟨vs, x35.hh acc _ upd_same, ?_, ds.length - (i + 1), by omega, rfl, hlt, F5, hideAt H5 acc, τ2, dn ++ [z], rs', vs ++ [v], y1, hideAt_same _ _, by rw [upd_hide], (r2.mono x35.ff).append (Reps.cons r5 Reps.nil), ?_, n3, so3, e4, ?_⟩
                · have := congrArg List.length ex
                  rw [← ers, List.length_append, List.length_cons, r2.length] at this
                  omega
                · exact ((RR.ext x4).ext x5).free_upd n3 hacc y2 (.inr ⟨_, x35.hh acc _ upd_same⟩)
                · rw [ex, ← ers, List.append_assoc]; rfl
    · have e : i = ds.length := by omega
      subst e
      rw [List.drop_length, compL] at cl
      cases cl
      rw [List.append_nil] at ex
      subst ex
      exact .inl ⟨i1 (Nat.le_refl _), k acc vs F2 Hm (x.trans x2) hm r2⟩
theorem sig0_ok (hfr : FreeOk scope X.N fr idx) (σ : St) (i : Nat) (v : V) (h : (sig0 tn.length idx σ)[i]? = some (some v)) : ∃ (x : Str) (j : Nat), (tn ++ fr)[i]? = some x ∧ X.N[j]? = some x ∧ σ[j]? = some (some v) ∧ scope.names.lookup x = some .free := by
  unfold sig0 at h
  by_cases hi : i < tn.length
  · rw [List.getElem?_append_left (by simpa using hi), List.getElem?_replicate] at h
    simp [hi] at h
  · rw [List.getElem?_append_right (by simpa using hi), List.getElem?_map] at h
    simp only [List.length_replicate] at h
    cases q : idx[i - tn.length]? with
    | none => rw [q] at h; cases h
    | some j =>
      rw [q] at h
      simp only [Option.map_some, Option.some.injEq] at h
      obtain ⟨x, h1, h2, h3⟩ := hfr.get q
      refine ⟨x, j, by rw [List.getElem?_append_right (by omega)]; exact h1, h2, ?_, h3⟩
      cases z : σ[j]? with
      | none => rw [z] at h; cases h
      | some o => rw [z] at h; simp at h; rw [h]
theorem pdf_comp (hb : compOkB X.env.scope scope = true) (hc : X.calm = true) (hfr : FreeOk scope X.N fr idx) (so : SetOk set) (hi : PDI X tg iter fi)
    (hg : ∀ s H C fp, PDG (X.comp scope (tn ++ fr) s H C fp) tg set) (ht : ∀ s H C fp, PDTs (X.comp scope (tn ++ fr) s H C fp) ifs ft) (he : ∀ s H C fp, PDE (X.comp scope (tn ++ fr) s H C fp) elt fe)
    (hs : ∀ x, foldedSetIterable iter X.env x = pure x := by intro _; rfl) : PDF X (.ListComp elt [⟨tg, iter, ifs, 0⟩] scope pos) (eComp tn.length idx fi set ft fe) :=
  PE.imp (pe_comp (s0 := sig0 tn.length idx) (g := tG (X.comp scope (tn ++ fr) X.s₀ X.H₀ 0 []) set) (ti := tTs (X.comp scope (tn ++ fr) X.s₀ X.H₀ 0 []) ft) (te := tE (X.comp scope (tn ++ fr) X.s₀ X.H₀ 0 []) fe)
    (compScope_of hb) hc (fun σ _ => by simp [sig0, hfr.len]) (sig0_ok hfr) hi hg ht he hs) (comp_read so rfl)
theorem pds_compO {i : Nat} {y : Str} {py spos : Pos} (hN : X.N.Nodup) (hiN : X.N[i]? = some y) (hy : X.env.scope.names.lookup y = some .local)
    (hsw : swapsWith (.ListComp elt [⟨tg, iter, ifs, 0⟩] scope pos) (some (.Name y py)) spos.line X.env = pure true)
    (hb : compOkB X.env.scope scope = true) (hc : X.calm = true) (hfr : FreeOk scope X.N fr idx) (so : SetOk set) (hi : PDI X tg iter fi)
    (hg : ∀ s H C fp, PDG (X.comp scope (tn ++ fr) s H C fp) tg set) (ht : ∀ s H C fp, PDTs (X.comp scope (tn ++ fr) s H C fp) ifs ft) (he : ∀ s H C fp, PDE (X.comp scope (tn ++ fr) s H C fp) elt fe)
    (hs : ∀ x, foldedSetIterable iter X.env x = pure x := by intro _; rfl) : PDS X (.Assign [.Name y py] (.ListComp elt [⟨tg, iter, ifs, 0⟩] scope pos) spos) (sSetO i (eComp tn.length idx fi set ft fe)) :=
  PS.imp (ps_comp (s0 := sig0 tn.length idx) (g := tG (X.comp scope (tn ++ fr) X.s₀ X.H₀ 0 []) set) (ti := tTs (X.comp scope (tn ++ fr) X.s₀ X.H₀ 0 []) ft) (te := tE (X.comp scope (tn ++ fr) X.s₀ X.H₀ 0 []) fe) hN hiN hy hsw
    (compScope_of hb) hc (fun σ _ => by simp [sig0, hfr.len]) (sig0_ok hfr) hi hg ht he hs) fun E σ H ⟨B, Z, F, τ, R, h⟩ => by
    refine comp_read (X := X) (tn := tn) (idx := idx) (fi := fi) (ft := ft) (fe := fe) so (Y := X.comp scope (tn ++ fr) X.s₀ X.H₀ 0 []) rfl σ H (fun x H1 => gName i x σ H1 E.nx) ⟨F, τ, R.rv, ?_⟩
    exact h.of.imp fun ds g p vs F1 H1 x hp r => g _ F1 _ x.ff ((R.ext x).setO hp r)
end
end FD
set_option Elab.async false
set_option linter.all false
set_option maxRecDepth 100000
namespace FD
open PySem PySem.Spec PyProof.Rows L2
variable [Tabs]
section
variable {prog : Program} {w : World} {A : Around} {E : Value → Shared → Prop} {s : Shared} {z TI TO i1 i2 : Addr} {n1 n2 : Nat} {P1 P2 : Nat → Value → Prop} {st1 st2 : Nat → Heap → Prop} {rd1 rd2 : Heap → Prop}
end
end FD
set_option Elab.async false
set_option linter.all false
set_option maxRecDepth 100000
namespace FD
open PySem PySem.Spec PyProof.Rows L2
variable [Tabs]
theorem turnedL {X : Cx} {pins : List (Addr × Obj)} {σ : St} {H : Hp} {s : Shared} {h' : Heap} {t' : Nat} {ch : List Addr} (I : Inv X pins σ H s) (k : ∀ b o, b ∉ ch → s.heap.get? b = some o → h'.get? b = some o) (hf : ∀ b ∈ ch, FpOk X pins H b) (he : ∀ b ∈ ch, H b = none) :
    Inv X pins σ H { s with heap := h', toks := t' } := by
  refine I.step (g' := s.gens) (d' := s.drawn) (ch := ch) (fun b hb => ?_) (fun b o _ _ hc e _ => k b o hc e) (fun b o _ _ hc e _ => ⟨o.slots, k b o hc e⟩) (fun _ _ _ _ n => n)
    (fun b o hc e => ⟨o, k b o hc e⟩) (fun _ _ e => e) (fun _ _ _ e => e) (fun b ps e => ⟨#[], by rw [e]; simp⟩) (fun m hm => ?_) (fun b u e => ?_) I.bare
  · obtain ⟨f0, f1, f2, f3, f4, f5⟩ := hf b hb
    exact ⟨f3, f1, f4, f5⟩
  · obtain ⟨o, es, ep, ho, r⟩ := hm
    exact ⟨o, es, ep, k _ o (fun z => (hf _ z).2.1 rfl) ho, r⟩
  · refine (I.hok b u e).stay (fun c v hc q => k c v ?_ q) (fun _ q => q) fun _ _ q => q
    intro z
    rcases hc with q | q
    · subst q; rw [he c z] at e; cases e
    · rw [he c z] at q; cases q
theorem turnedT {X : Cx} {pins : List (Addr × Obj)} {σ : St} {H : Hp} {s : Shared} {h' : Heap} {t' : Nat} {ch : List Addr} {p : Addr} {xs : List V} {its : List Value} (I : Inv X pins σ H s) (k : ∀ b o, b ∉ ch → s.heap.get? b = some o → h'.get? b = some o) (hf : ∀ b ∈ ch, FpOk X pins H b)
    (hp : s.heap.objs.size ≤ p) (ht : IsTup h' p its.toArray) (hv : Vals xs its) (hz : xs.length ≤ sizeLine) :
    Inv X pins σ (upd H p (.tup xs)) { s with heap := h', toks := t' } := by
  have hn : H p = none := I.hok.fresh hp
  have lt : ∀ {b : Addr} {o : Obj}, s.heap.get? b = some o → b ≠ p := fun e => Nat.ne_of_lt (Nat.lt_of_lt_of_le (Heap.lt_size e) hp)
  refine I.step (g' := s.gens) (d' := s.drawn) (ch := ch) (fun b hb => ?_) (fun b o _ _ hc e _ => k b o hc e) (fun b o _ _ hc e _ => ⟨o.slots, k b o hc e⟩) (fun b o _ e n => by rw [upd_ne (lt e)]; exact n)
    (fun b o hc e => ⟨o, k b o hc e⟩) (fun b ys e => by rw [upd_ne (ne_of_none e hn)]; exact e) (fun b o u e => by rw [upd_ne (ne_of_none e hn)]; exact e) (fun b ps e => ⟨#[], by rw [upd_ne (ne_of_none e hn), e]; simp⟩) (fun m hm => ?_) (fun b u e => ?_) I.bare
  · obtain ⟨f0, f1, f2, f3, f4, f5⟩ := hf b hb
    exact ⟨f3, f1, f4, f5⟩
  · obtain ⟨o, es, ep, ho, r⟩ := hm
    exact ⟨o, es, ep, k _ o (fun z => (hf _ z).2.1 rfl) ho, r⟩
  · by_cases hb : b = p
    · subst hb; rw [upd_same] at e; cases e
      exact ⟨hz, its, hv, ht⟩
    · rw [upd_ne hb] at e
      refine (I.hok b u e).stay (fun c v hc q => k c v ?_ q) (fun c q => by rw [upd_ne (ne_of_none q hn)]; exact q) fun c ys q => by rw [upd_ne (ne_of_none q hn)]; exact q
      intro z
      rcases hc with q | q
      · subst q; rw [(hf c z).1] at e; cases e
      · rw [(hf c z).1] at q; cases q
end FD
set_option Elab.async false
set_option linter.all false
set_option maxRecDepth 100000
namespace FD
open PySem PySem.Spec PyProof.Rows L2
variable [Tabs]
def signD (c : Nat) : D := .str ⟨#[c]⟩
def signsD (x : Str) : List D := x.cps.toList.map signD
def Its (x : Str) : It := ⟨fun i _ => i < x.cps.size, fun i H y H' => H' = H ∧ ∃ c, x.cps[i]? = some c ∧ y = .str ⟨#[c]⟩, fun i _ => x.cps.size ≤ i⟩
theorem turn_str {P : Program} {w : World} {K : PySem.W.Frag} {tg : Expr} {it : Addr} {x : Str} {t : Tok} {ty : String} (hty : ty = "str_ascii_iterator" ∨ ty = "str_iterator") : Turn P w K tg (Its x) [it] it (fun k h => h.IsStrIter it ty x t k) where
  mem := by simp
  obj := fun i h ⟨o, e, c, d⟩ b hb => by
    have z : b = it := by simpa using hb
    subst z
    exact ⟨o, e, fun v z => by rw [d] at z; cases z⟩
  keep := fun i h h' ⟨o, e, r⟩ k => ⟨o, k it (by simp) o e, r⟩
  item := by
    intro X hP hw hK hc i pins s σ H E I hf st hg
    subst hP hw hK
    obtain ⟨f0, f1, f2, f3, f4, f5⟩ := hf it (by simp)
    have hh : X.A.handled = none := I.ok.hd hc
    have W : Walks X.prog X.w X.A it [it] [it] x.cps.size (SignAt x) (fun i h => h.IsStrIter it ty x t i) := by
      rcases hty with rfl | rfl
      · exact Walks.strAscii hh it x t
      · exact Walks.strWide hh it x t
    refine W.item i s _ _ hg st fun v h' tk hv st' kk => ?_
    obtain ⟨c, u, ec, rfl⟩ := hv
    have I1 : Inv X pins σ H { s with heap := h', toks := tk } := I.turned (fun b o hb e => kk b o (by simpa using hb) e) f0 f1 f3 f4 f5
    obtain ⟨o, e, cc, d⟩ := id st'
    exact ⟨_, rfl, go_of (s := { s with heap := h', toks := tk }) e cc d (by rcases hty with rfl | rfl <;> decide) ⟨.str ⟨#[c]⟩, H, I1, ⟨u, rfl⟩, ⟨rfl, c, ec, rfl⟩, st', fun b hb => (hf b hb).1⟩⟩
  done := by
    intro X hP hw hK hc i pins s σ H E I hf st hg
    subst hP hw hK
    obtain ⟨f0, f1, f2, f3, f4, f5⟩ := hf it (by simp)
    have hh : X.A.handled = none := I.ok.hd hc
    have hx : x.cps[i]? = none := by have : x.cps.size ≤ i := hg; simp; omega
    rcases hty with rfl | rfl
    · exact wpAny_pyNext_ascii_end hh st hx fun h' eb => ⟨rfl, I.turned (t' := s.toks) (fun b o hb e => eb b o hb e) f0 f1 f3 f4 f5⟩
    · exact wpAny_pyNext_wide_end hh st hx fun h' eb => ⟨rfl, I.turned (t' := s.toks) (fun b o hb e => eb b o hb e) f0 f1 f3 f4 f5⟩
  self := fun _ _ _ _ _ st h => by
    rcases hty with rfl | rfl
    · exact wpAny_pyIter_striter_ascii st h
    · exact wpAny_pyIter_striter_wide st h
section
variable {X : Cx} {pos : Pos} {e tg : Expr} {es : List Expr} {fe : FE} {fs : FA}
theorem it_str {K : PySem.W.Frag} {F1 : Hp} {x : Str} : ItOk K (Its x) F1 (signsD x) := fun i F H f1 f2 => by
  have hl : (signsD x).length = x.cps.size := by simp [signsD]
  refine ⟨fun h => by rw [hl] at h; exact h, fun d hd => ?_⟩
  have hi : i < x.cps.size := by have := (List.getElem?_eq_some_iff.mp hd).1; rw [hl] at this; exact this
  refine ⟨hi, fun y H' yy => ?_⟩
  obtain ⟨e1, c, ec, rfl⟩ := yy
  subst e1
  refine ⟨F, Ext.refl f2, ?_⟩
  have : d = signD c := by
    simp only [signsD, List.getElem?_map] at hd
    have e2 : x.cps.toList[i]? = some c := by simpa using ec
    rw [e2] at hd
    exact (Option.some.inj hd).symm
  subst this
  simp only [signD, Rep]
end
end FD
set_option Elab.async false
set_option linter.all false
set_option maxRecDepth 100000
namespace FD
open PySem PySem.Spec PyProof.Rows L2
variable [Tabs]
section
variable {X : Cx} {pos : Pos} {e tg : Expr} {es : List Expr} {fe : FE} {fs : FA}
def len1 : D → Rs D
  | .lst ds => .ok (.int ds.length)
  | .tup ds => .ok (.int ds.length)
  | .scr ns => .ok (.int ns.length)
  | .str x => if x.length ≤ sizeLine then .ok (.int x.length) else .no
  | _ => .no
def lenD : List D → Rs D
  | [d] => len1 d
  | _ => .no
theorem cd_len : CallD X (.builtin "len") lenD := ⟨_, call_len_seq.or call_len_str, fun F H vs ds Q fh r h => by
  match ds, r, h with
  | [d], r, h =>
    obtain ⟨v, rfl, q⟩ := r.one
    cases d with
    | lst ds =>
      simp only [Rep] at q; obtain ⟨a, ws, rfl, e1, t⟩ := q
      refine .inl ⟨a, ws, rfl, .inl (SqL.of (fh _ _ e1)), ?_⟩
      rw [← t.length]; exact h _ F H (Ext.refl fh) (by simp only [Rep])
    | tup ds =>
      simp only [Rep] at q; obtain ⟨a, ws, rfl, e1, t⟩ := q
      refine .inl ⟨a, ws, rfl, .inr (Same.seqT fh e1), ?_⟩
      rw [← t.length]; exact h _ F H (Ext.refl fh) (by simp only [Rep])
    | scr ns =>
      simp only [Rep] at q; obtain ⟨a, rfl, e1⟩ := q
      refine .inl ⟨a, _, rfl, .inl (fh.seq e1), ?_⟩
      rw [List.length_map]; exact h _ F H (Ext.refl fh) (by simp only [Rep])
    | str x =>
      simp only [Rep] at q; subst q
      obtain ⟨z, h⟩ := ok_ite h
      exact .inr ⟨x, rfl, z, h _ F H (Ext.refl fh) (by simp only [Rep])⟩
    | _ => exact h.elim
  | [], _, h => exact h.elim
  | _ :: _ :: _, _, h => exact (show False from h).elim⟩
def MtD (X : Cx) (id : String) (g : D → List D → Rs D) : Prop := ∃ r, MtR X id r ∧ ∀ F H v vs d ds Q, Same F H → Rep X.K F d v → Reps X.K F ds vs → Ok X (g d ds) (Ev X.K F H Q) → r v vs H Q
def isTy (T : String) : D → Bool
  | .str _ => T = "str"
  | .int _ => T = "int"
  | .lst _ => T = "list"
  | .scr _ => T = "list"
  | _ => false
def eMt0 (T : String) (g : D → List D → Rs D) (fo : FE) : FE := fun τ => (fo τ).bind fun d => if isTy T d = true then g d [] else .no
theorem tyV_of {F H : Hp} {d : D} {v : V} {T : String} (fh : Same F H) (r : Rep X.K F d v) (h : isTy T d = true) : tyV X.K T v H := by
  cases d with
  | str x => simp only [Rep] at r; subst r; show T = "str"; simpa [isTy] using h
  | int x => simp only [Rep] at r; subst r; show T = "int"; simpa [isTy] using h
  | lst ds => simp only [Rep] at r; obtain ⟨a, vs, rfl, e, t⟩ := r; exact .inl ⟨by simpa [isTy] using h, vs, SqL.of (fh _ _ e)⟩
  | scr ds => simp only [Rep] at r; obtain ⟨a, rfl, e⟩ := r; exact .inl ⟨by simpa [isTy] using h, _, fh.seq e⟩
  | _ => simp [isTy] at h
theorem ok_if {X : Cx} {α : Type} {c : Prop} [Decidable c] {r : Rs α} {P : α → Prop} (h : Ok X (if c then r else .no) P) : c ∧ Ok X r P := by
  by_cases z : c
  · rw [if_pos z] at h; exact ⟨z, h⟩
  · rw [if_neg z] at h; exact h.elim
theorem pde_mt0 {T id : String} {name : Str} {o : Expr} {apos cpos : Pos} {fo : FE} {g : D → List D → Rs D} (pa : PlainAttrs T) (slot : Slot T name id) (hty : typeOf (.builtin id) = pure (.type "method_descriptor")) (hm : MtD X id g) (ho : PDE X o fo)
    (hbase : attributeBase o name X.env (eval o X.env) = eval o X.env := by rfl) (hline : (apos.endLine == cpos.line) = true := by rfl) : PDE X (.Call (.Attribute o name apos) [] [] cpos) (eMt0 T g fo) := by
  obtain ⟨r, h1, h2⟩ := hm
  exact PE.imp (pe_bm0 pa slot hty h1 ho hbase hline) fun σ H Q ⟨Fz, τ, R, h⟩ => tE.of R h.bind fun d v F1 H1 q x R1 rr => by
    obtain ⟨z, q⟩ := ok_if q
    exact ⟨tyV_of R1.fh rr z, h2 F1 H1 v [] d [] Q R1.fh rr Reps.nil (q.imp fun d e => e.ext x)⟩
def upD : D → List D → Rs D
  | .str x, [] => if x.length ≤ 5000000 then .ok (.str (Txt.upper x)) else .no
  | _, _ => .no
def loD : D → List D → Rs D
  | .str x, [] => if x.length ≤ 5000000 then .ok (.str (Txt.lower x)) else .no
  | _, _ => .no
theorem mt_up : MtR X "str.upper" (fun v vs H Q => ∃ x, v = .str x ∧ vs = [] ∧ x.length ≤ 5000000 ∧ Q (.str (Txt.upper x)) H) := by
  intro pins s σ H v vs u us Q I r rs h
  obtain ⟨x, rfl, rfl, hx, q⟩ := h
  obtain ⟨t, rfl⟩ := r
  cases rs
  exact SC.upper (fit_upper (by omega)) ⟨.str (Txt.upper x), H, I.tok _, ⟨_, rfl⟩, q⟩
theorem mt_lo : MtR X "str.lower" (fun v vs H Q => ∃ x, v = .str x ∧ vs = [] ∧ x.length ≤ 5000000 ∧ Q (.str (Txt.lower x)) H) := by
  intro pins s σ H v vs u us Q I r rs h
  obtain ⟨x, rfl, rfl, hx, q⟩ := h
  obtain ⟨t, rfl⟩ := r
  cases rs
  exact SC.lower (fit_lower (by omega)) ⟨.str (Txt.lower x), H, I.tok _, ⟨_, rfl⟩, q⟩
theorem md_up : MtD X "str.upper" upD := ⟨_, mt_up, fun F H v vs d ds Q fh r rs h => by
  cases d with
  | str x =>
    cases ds with
    | nil =>
      simp only [Rep] at r; subst r
      simp only [Reps] at rs; subst rs
      obtain ⟨z, h⟩ := ok_ite h
      exact ⟨x, rfl, rfl, z, h _ F H (Ext.refl fh) (by simp only [Rep])⟩
    | cons a b => exact h.elim
  | _ => cases ds <;> exact h.elim⟩
theorem md_lo : MtD X "str.lower" loD := ⟨_, mt_lo, fun F H v vs d ds Q fh r rs h => by
  cases d with
  | str x =>
    cases ds with
    | nil =>
      simp only [Rep] at r; subst r
      simp only [Reps] at rs; subst rs
      obtain ⟨z, h⟩ := ok_ite h
      exact ⟨x, rfl, rfl, z, h _ F H (Ext.refl fh) (by simp only [Rep])⟩
    | cons a b => exact h.elim
  | _ => cases ds <;> exact h.elim⟩
theorem pde_upper {o : Expr} {apos cpos : Pos} {fo : FE} (ho : PDE X o fo) (hbase : attributeBase o "upper" X.env (eval o X.env) = eval o X.env := by rfl) (hline : (apos.endLine == cpos.line) = true := by rfl) : PDE X (.Call (.Attribute o "upper" apos) [] [] cpos) (eMt0 "str" upD fo) :=
  pde_mt0 F.plainAttrs_str F.slot_str_upper F.type_str_upper md_up ho hbase hline
theorem pde_lower {o : Expr} {apos cpos : Pos} {fo : FE} (ho : PDE X o fo) (hbase : attributeBase o "lower" X.env (eval o X.env) = eval o X.env := by rfl) (hline : (apos.endLine == cpos.line) = true := by rfl) : PDE X (.Call (.Attribute o "lower" apos) [] [] cpos) (eMt0 "str" loD fo) :=
  pde_mt0 F.plainAttrs_str F.slot_str_lower F.type_str_lower md_lo ho hbase hline
def strsOf : List D → Option (List Str)
  | [] => some []
  | .str x :: r => (strsOf r).map (x :: ·)
  | _ => none
theorem strs_vals {K : PySem.W.Frag} {F : Hp} : ∀ {ds : List D} {ys : List Str} {vs : List V} {us : List Value}, strsOf ds = some ys → Reps K F ds vs → Vals vs us → StrsAre us ys
  | [], ys, vs, us, h, r, rv => by
    simp only [Reps] at r; subst r; cases rv; cases h; exact .nil
  | .str x :: ds, ys, vs, us, h, r, rv => by
    simp only [Reps, Rep] at r
    obtain ⟨v, r', rfl, rfl, t⟩ := r
    simp only [strsOf] at h
    cases q : strsOf ds with
    | none => rw [q] at h; cases h
    | some zs =>
      rw [q] at h; cases h
      cases rv with
      | cons r1 r2 =>
        obtain ⟨tk, rfl⟩ := r1
        exact .cons x tk (strs_vals q t r2)
  | .non :: _, _, _, _, h, _, _ => by cases h
  | .bl _ :: _, _, _, _, h, _, _ => by cases h
  | .int _ :: _, _, _, _, h, _, _ => by cases h
  | .lst _ :: _, _, _, _, h, _, _ => by cases h
  | .tup _ :: _, _, _, _, h, _, _ => by cases h
  | .scr _ :: _, _, _, _, h, _, _ => by cases h
  | .raw _ :: _, _, _, _, h, _, _ => by cases h
  | .exc _ :: _, _, _, _, h, _, _ => by cases h
  | .dct _ _ :: _, _, _, _, h, _, _ => by cases h
end
end FD
set_option Elab.async false
set_option linter.all false
set_option maxRecDepth 100000
namespace FD
open PySem PySem.Spec PyProof.Rows L2
variable [Tabs]
end FD
set_option Elab.async false
set_option linter.all false
set_option maxRecDepth 100000
namespace FD
open PySem PySem.Spec PyProof.Rows L2
variable [Tabs]
section
variable {X : Cx} {pos : Pos} {e tg : Expr} {es : List Expr} {fe : FE} {fs : FA}
def isOf (d : D) (T : String) : Rs Bool := match d with
  | .raw _ => .no
  | .exc _ => .no
  | .dct _ _ => .no
  | d => if T = "str" then .ok (match d with | .str _ => true | _ => false)
    else if T = "int" then .ok (match d with | .int _ => true | .bl _ => true | _ => false)
    else if T = "bool" then .ok (match d with | .bl _ => true | _ => false)
    else if T = "list" then .ok (match d with | .lst _ => true | .scr _ => true | _ => false)
    else if T = "tuple" then .ok (match d with | .tup _ => true | _ => false)
    else .no
def tyOf2 : List D → Option (D × String)
  | [d, .raw (.ty T)] => some (d, T)
  | _ => none
theorem tyOf2_eq {ds : List D} {d : D} {T : String} (h : tyOf2 ds = some (d, T)) : ds = [d, .raw (.ty T)] := by
  unfold tyOf2 at h; split at h <;> cases h; rfl
def isiD (ds : List D) : Rs D := match tyOf2 ds with
  | some (d, T) => (isOf d T).bind fun b => .ok (.bl b)
  | none => .no
theorem call_isi : CallR X (.builtin "isinstance") (fun vs H Q => ∃ F d v T b, Same F H ∧ Rep X.K F d v ∧ vs = [v, .ty T] ∧ isOf d T = .ok b ∧ Q (.bl b) H) := by
  intro pins s σ H vs us Q I r h
  obtain ⟨F, d, v, T, b, fh, rd, rfl, hb, q⟩ := h
  obtain ⟨u, w, rfl, r1, r2⟩ := vals2 r
  cases r2
  have fin : ∀ {b' : Bool}, b = b' → EP X pins σ Q (.bool b') s := fun e => by subst e; exact ⟨.bl _, H, I, rfl, q⟩
  have fin' : ∀ {b' : Bool}, b = b' → EP X pins σ Q (.bool b') { s with toks := s.toks + 1 } := fun e => by subst e; exact ⟨.bl _, H, I.tok _, rfl, q⟩
  have hT : T = "str" ∨ T = "int" ∨ T = "bool" ∨ T = "list" ∨ T = "tuple" := by
    by_cases h1 : T = "str"; exact .inl h1
    by_cases h2 : T = "int"; exact .inr (.inl h2)
    by_cases h3 : T = "bool"; exact .inr (.inr (.inl h3))
    by_cases h4 : T = "list"; exact .inr (.inr (.inr (.inl h4)))
    by_cases h5 : T = "tuple"; exact .inr (.inr (.inr (.inr h5)))
    exfalso
    unfold isOf at hb
    cases d <;> simp [h1, h2, h3, h4, h5] at hb
  cases d with
  | raw _ => simp [isOf] at hb
  | exc _ => simp [isOf] at hb
  | dct _ _ => simp [isOf] at hb
  | non =>
    simp only [Rep] at rd; subst rd; cases r1
    rcases hT with rfl | rfl | rfl | rfl | rfl <;> simp [isOf] at hb <;> first
      | exact IsiPair.NoneType_str (fin' hb) | exact IsiPair.NoneType_int (fin' hb) | exact IsiPair.NoneType_bool (fin' hb) | exact IsiPair.NoneType_list (fin' hb) | exact IsiPair.NoneType_tuple (fin' hb)
  | bl k =>
    simp only [Rep] at rd; subst rd; cases r1
    rcases hT with rfl | rfl | rfl | rfl | rfl <;> simp [isOf] at hb <;> first
      | exact IsiPair.bool_str (fin' hb) | exact IsiPair.bool_int (fin hb) | exact IsiPair.bool_bool (fin hb) | exact IsiPair.bool_list (fin' hb) | exact IsiPair.bool_tuple (fin' hb)
  | int k =>
    simp only [Rep] at rd; subst rd; obtain ⟨t, rfl⟩ := r1
    rcases hT with rfl | rfl | rfl | rfl | rfl <;> simp [isOf] at hb <;> first
      | exact IsiPair.int_str (fin' hb) | exact IsiPair.int_int (fin hb) | exact IsiPair.int_bool (fin' hb) | exact IsiPair.int_list (fin' hb) | exact IsiPair.int_tuple (fin' hb)
  | str k =>
    simp only [Rep] at rd; subst rd; obtain ⟨t, rfl⟩ := r1
    rcases hT with rfl | rfl | rfl | rfl | rfl <;> simp [isOf] at hb <;> first
      | exact IsiPair.str_str (fin hb) | exact IsiPair.str_int (fin' hb) | exact IsiPair.str_bool (fin' hb) | exact IsiPair.str_list (fin' hb) | exact IsiPair.str_tuple (fin' hb)
  | lst k =>
    simp only [Rep] at rd; obtain ⟨a, ws, rfl, e, t⟩ := rd; cases r1
    obtain ⟨its, rr, ⟨o, n, eo, c, _, _⟩, _⟩ := I.list (SqL.of (K := X.K) (fh _ _ e))
    rcases hT with rfl | rfl | rfl | rfl | rfl <;> simp [isOf] at hb <;> first
      | exact IsiPair.list_str eo c (fin' hb) | exact IsiPair.list_int eo c (fin' hb) | exact IsiPair.list_bool eo c (fin' hb) | exact IsiPair.list_list eo c (fin hb) | exact IsiPair.list_tuple eo c (fin' hb)
  | scr k =>
    simp only [Rep] at rd; obtain ⟨a, rfl, e⟩ := rd; cases r1
    obtain ⟨its, rr, ⟨o, n, eo, c, _, _⟩, _⟩ := I.list (fh.seq e)
    rcases hT with rfl | rfl | rfl | rfl | rfl <;> simp [isOf] at hb <;> first
      | exact IsiPair.list_str eo c (fin' hb) | exact IsiPair.list_int eo c (fin' hb) | exact IsiPair.list_bool eo c (fin' hb) | exact IsiPair.list_list eo c (fin hb) | exact IsiPair.list_tuple eo c (fin' hb)
  | tup k =>
    simp only [Rep] at rd; obtain ⟨a, ws, rfl, e, t⟩ := rd; cases r1
    obtain ⟨its, rr, ⟨o, eo, c, _, _⟩, _⟩ := I.tuple (Same.seqT fh e)
    rcases hT with rfl | rfl | rfl | rfl | rfl <;> simp [isOf] at hb <;> first
      | exact IsiPair.tuple_str eo c (fin' hb) | exact IsiPair.tuple_int eo c (fin' hb) | exact IsiPair.tuple_bool eo c (fin' hb) | exact IsiPair.tuple_list eo c (fin' hb) | exact IsiPair.tuple_tuple eo c (fin hb)
theorem cd_isi : CallD X (.builtin "isinstance") isiD := ⟨_, call_isi, fun F H vs ds Q fh r h => by
  unfold isiD at h
  cases q : tyOf2 ds with
  | none => rw [q] at h; exact h.elim
  | some dT =>
    obtain ⟨d, T⟩ := dT
    rw [q] at h
    have e := tyOf2_eq q
    subst e
    obtain ⟨v, w, rfl, r1, r2⟩ := r.two
    simp only [Rep] at r2; subst r2
    simp only at h
    cases q2 : isOf d T with
    | no => rw [q2] at h; exact h.elim
    | ex c => exfalso; unfold isOf at q2; cases d <;> simp at q2 <;> (repeat (first | (split at q2) | cases q2))
    | ok b => rw [q2] at h; exact ⟨F, d, v, T, b, fh, r1, rfl, q2, h _ F H (Ext.refl fh) (by simp only [Rep])⟩⟩
def boolsOf : List D → Option (List Bool)
  | [] => some []
  | .bl b :: r => (boolsOf r).map (b :: ·)
  | _ => none
def allD (ds : List D) : Rs D := match ds with
  | [.lst xs] => match boolsOf xs with
    | some bs => .ok (.bl (bs.all id))
    | none => .no
  | _ => .no
theorem bools_vals {K : PySem.W.Frag} {F : Hp} : ∀ {ds : List D} {bs : List Bool} {vs : List V} {us : List Value}, boolsOf ds = some bs → Reps K F ds vs → Vals vs us → us = bs.map Value.bool
  | [], bs, vs, us, h, r, rv => by simp only [Reps] at r; subst r; cases rv; cases h; rfl
  | .bl x :: ds, ys, vs, us, h, r, rv => by
    simp only [Reps, Rep] at r
    obtain ⟨v, r', rfl, rfl, t⟩ := r
    simp only [boolsOf] at h
    cases q : boolsOf ds with
    | none => rw [q] at h; cases h
    | some zs =>
      rw [q] at h; cases h
      cases rv with
      | cons r1 r2 =>
        cases r1
        rw [bools_vals q t r2]; rfl
  | .non :: _, _, _, _, h, _, _ => by cases h
  | .str _ :: _, _, _, _, h, _, _ => by cases h
  | .int _ :: _, _, _, _, h, _, _ => by cases h
  | .lst _ :: _, _, _, _, h, _, _ => by cases h
  | .tup _ :: _, _, _, _, h, _, _ => by cases h
  | .scr _ :: _, _, _, _, h, _, _ => by cases h
  | .raw _ :: _, _, _, _, h, _, _ => by cases h
  | .exc _ :: _, _, _, _, h, _, _ => by cases h
  | .dct _ _ :: _, _, _, _, h, _, _ => by cases h
theorem range_all_get (bs : List Bool) : (List.range bs.length).all (fun i => bs.getD i false) = bs.all id := by
  rw [Bool.eq_iff_iff, List.all_eq_true, List.all_eq_true]
  constructor
  · intro h x hx
    obtain ⟨i, hi, rfl⟩ := List.mem_iff_getElem.mp hx
    have := h i (List.mem_range.mpr hi)
    simpa [List.getD_eq_getElem?_getD, hi] using this
  · intro h i hi
    have hi := List.mem_range.mp hi
    have := h bs[i] (List.getElem_mem hi)
    simpa [List.getD_eq_getElem?_getD, hi] using this
theorem call_all1 (hc : X.calm = true) : CallR X (.builtin "all") (fun vs H Q => ∃ a ws F ds bs, vs = [.ref a] ∧ H a = some (.lst ws) ∧ Reps X.K F ds ws ∧ boolsOf ds = some bs ∧ Q (.bl (bs.all id)) H) := by
  intro pins s σ H vs us Q I r h
  obtain ⟨a, ws, F, ds, bs, rfl, e, t, hb, q⟩ := h
  obtain ⟨u, rfl, r1⟩ := vals1 r
  cases r1
  obtain ⟨its, rr, p, _⟩ := I.list (SqL.of (K := X.K) e)
  have ei := bools_vals hb t rr
  subst ei
  have hh : X.A.in1.handled = none := I.ok.hd hc
  have hlt : a < s.heap.objs.size := I.hok.lt e
  refine call_all_walk (wpAny_pyIter_list p.isList ⟨s.heap.objs.size, _, _, _, _, _, fun i => bs.getD i false, rfl, Walks.list hh s.heap.objs.size a (Nat.ne_of_lt hlt) (bs.map Value.bool).toArray, ⟨⟨_, Heap.get?_push_size _ rfl, rfl, rfl⟩, p.isList.push _⟩, fun i v s' Q' E' hP hQ => ?_, fun h' tk hk => ?_⟩)
  · have hP : (bs.map Value.bool)[i]? = some v := by simpa using hP
    rw [List.getElem?_map] at hP
    cases z : bs[i]? with
    | none => rw [z] at hP; cases hP
    | some b =>
      rw [z] at hP
      cases hP
      exact wpAny_truthy_bool (by simpa [List.getD_eq_getElem?_getD, z] using hQ)
  · have en : (bs.map Value.bool).toArray.size = bs.length := by simp
    rw [en, range_all_get]
    have I1 : Inv X pins σ H { s with heap := s.heap.push { cls := .type "list_iterator", data := .fields #[.ref a, .int 0 0] } } := I.kept (t' := s.toks) fun b o e => Heap.get?_push_of_some _ e
    have fk := I.fpOk (H' := H) (Nat.le_refl s.heap.objs.size) (I.hok.fresh (Nat.le_refl _))
    refine ⟨.bl (bs.all id), H, turnedL (s := { s with heap := s.heap.push { cls := .type "list_iterator", data := .fields #[.ref a, .int 0 0] } }) (ch := [s.heap.objs.size]) I1 (fun b o hb e => hk b o hb e) (fun b hb => ?_) (fun b hb => ?_), rfl, q⟩
    · have z : b = s.heap.objs.size := by simpa using hb
      subst z; exact fk
    · have z : b = s.heap.objs.size := by simpa using hb
      subst z; exact fk.1
theorem cd_all (hc : X.calm = true) : CallD X (.builtin "all") allD := ⟨_, call_all1 hc, fun F H vs ds Q fh r h => by
  cases ds with
  | nil => exact h.elim
  | cons d r2 =>
    cases r2 with
    | cons a b => cases d <;> exact h.elim
    | nil =>
      cases d with
      | lst xs =>
        obtain ⟨v, rfl, q⟩ := r.one
        simp only [Rep] at q; obtain ⟨a, ws, rfl, e, t⟩ := q
        simp only [allD] at h
        cases z : boolsOf xs with
        | none => rw [z] at h; exact h.elim
        | some bs => rw [z] at h; exact ⟨a, ws, F, xs, bs, rfl, fh _ _ e, t, z, h _ F H (Ext.refl fh) (by simp only [Rep])⟩
      | _ => exact h.elim⟩
end
end FD
set_option Elab.async false
set_option linter.all false
set_option maxRecDepth 100000
namespace FD
open PySem PySem.Spec PyProof.Rows L2
variable [Tabs]
section
variable {X : Cx} {pos : Pos} {e tg : Expr} {es : List Expr} {fe : FE} {fs : FA}
def rSlS : V → Option Int → Option Int → Hp → VK → Prop := fun x lo hi H Q => ∃ z, x = .str z ∧ z.length ≤ sizeLine ∧ Q (.str (Txt.slice z lo hi)) H
theorem sl_str : SlR X rSlS := by
  intro pins s σ H x v vl vu lo hi sl Q I rx hs pl pu h
  obtain ⟨z, rfl, hz, q⟩ := h
  obtain ⟨t, rfl⟩ := rx
  refine ⟨"str", _, F.slot_str_getitem.lookup, typeIs_str _ _ _, ?_⟩
  obtain ⟨o, e, c, d⟩ := hs
  have fin : ∀ t' k, EP X pins σ Q (.str (Txt.slice z lo hi) t') { s with toks := k } := fun t' k => ⟨.str _, H, I.tok _, ⟨_, rfl⟩, q⟩
  have hl := Nat.le_trans (Txt.slice_le z lo hi) hz
  cases pl with
  | none =>
    cases pu with
    | none => exact wpAny_getItem_str_slice (l := none) (u := none) (st := none) ⟨o, e, c, d⟩ rfl (post_val_or_str ⟨hl, fin⟩)
    | int j uj => exact wpAny_getItem_str_slice (l := none) (u := some (j, uj)) (st := none) ⟨o, e, c, d⟩ rfl (post_val_or_str ⟨hl, fin⟩)
  | int i ui =>
    cases pu with
    | none => exact wpAny_getItem_str_slice (l := some (i, ui)) (u := none) (st := none) ⟨o, e, c, d⟩ rfl (post_val_or_str ⟨hl, fin⟩)
    | int j uj => exact wpAny_getItem_str_slice (l := some (i, ui)) (u := some (j, uj)) (st := none) ⟨o, e, c, d⟩ rfl (post_val_or_str ⟨hl, fin⟩)
def cutD (xs : List D) (lo hi : Option Int) : List D := (xs.drop (HT.sIx xs.length 0 lo)).take (HT.sIx xs.length xs.length hi - HT.sIx xs.length 0 lo)
def slD (d : D) (lo hi : Option Int) : Rs D := match d with
  | .str x => if x.length ≤ sizeLine then .ok (.str (Txt.slice x lo hi)) else .no
  | .lst ds => .ok (.lst (cutD ds lo hi))
  | _ => .no
abbrev FO := DS → Rs (Option Int)
def oNone : FO := fun _ => .ok none
def oSome (fe : FE) : FO := fun τ => (fe τ).bind fun d => match d with
  | .int i => .ok (some i)
  | _ => .no
def tOs (X : Cx) (f : FO) : TO := fun σ H Q => ∃ F τ, RV X.K F τ σ H ∧ Ok X (f τ) fun o => ∀ F' H', Ext F H F' H' → Q o H'
def PDO (X : Cx) (e : Option Expr) (f : FO) : Prop := PO X e (tOs X f)
theorem PO.imp {e : Option Expr} {t t' : TO} (h : PO X e t) (f : ∀ σ H Q, t' σ H Q → t σ H Q) : PO X e t' := fun pins s σ H Q I q => h pins s σ H Q I (f _ _ _ q)
theorem pdo_none : PDO X none oNone := PO.imp po_none fun σ H Q ⟨F, τ, R, h⟩ => h F H (Ext.refl R.fh)
theorem pdo_some (h : PDE X e fe) : PDO X (some e) (oSome fe) := PO.imp (po_some h) fun σ H Q ⟨F, τ, R, h⟩ => tE.of R h.bind fun d v F1 H1 g x R1 r => by
  cases d with
  | int i => simp only [Rep] at r; exact ⟨i, r, g F1 H1 x⟩
  | _ => exact g.elim
def eSl (fe : FE) (fl fh : FO) : FE := fun τ => (fe τ).bind fun d => (fl τ).bind fun l => (fh τ).bind fun u => slD d l u
theorem pde_sl {lo hi : Option Expr} {fl fh : FO} {p2 : Pos} (he : PDE X e fe) (hl : PDO X lo fl) (hu : PDO X hi fh) : PDE X (.Subscript e (.Slice lo hi none p2) pos) (eSl fe fl fh) :=
  PE.imp (pe_slice (sl_str.or sl_list) he hl hu) fun σ H Q ⟨F, τ, R, h⟩ => tE.of R h.bind fun d v F1 H1 g x R1 r => by
    refine ⟨F1, τ, R1, g.bind.imp fun l gl F2 H2 x2 => ⟨F2, τ, R1.ext x2, gl.bind.imp fun u gu F3 H3 x3 => ?_⟩⟩
    have f3 := x3.fh
    have x13 := x.trans (x2.trans x3)
    cases d with
    | str z =>
      simp only [Rep] at r
      obtain ⟨zz, gu⟩ := ok_ite gu
      exact .inl ⟨z, r, zz, gu _ F3 H3 x13 (by simp only [Rep])⟩
    | lst ds =>
      simp only [Rep] at r; obtain ⟨a, vs, rfl, e1, t⟩ := r
      have gu : Ev X.K F H Q (.lst (cutD ds l u)) := gu
      refine .inr ⟨a, vs, rfl, SqL.of (f3 _ _ (x3.ff _ _ (x2.ff _ _ e1))), fun p hp => gu _ _ _ (x13.trans (Ext.new f3 hp)) ?_⟩
      simp only [Rep]
      refine ⟨p, _, rfl, upd_same, ?_⟩
      have t3 : Reps X.K F3 (cutD ds l u) (cutV vs l u) := by
        unfold cutD cutV
        rw [← t.length]
        exact ((t.mono (x2.ff.trans x3.ff)).drop _).take _
      exact t3.mono (same_upd (none_of_same f3 hp))
    | _ => exact gu.elim
theorem pde_gl {x : Str} {v : V} {u : Value} {d : D} (hg : Gl X x) (hm : X.mg x = some u) (r : RelV v u) (rd : ∀ F, Rep X.K F d v) (hd : (x == ("__debug__" : Str)) = false := by decide) : PDE X (.Name x pos) (eC d) := pde_c (pe_glob hg hm r hd) rd
theorem pde_glS {x : Str} {y : Str} {t : Tok} (hg : Gl X x) (hm : X.mg x = some (.str y t)) (hd : (x == ("__debug__" : Str)) = false := by decide) : PDE X (.Name x pos) (eC (.str y)) := pde_gl (v := .str y) hg hm ⟨t, rfl⟩ (fun _ => by simp only [Rep]) hd
theorem pde_glI {x : Str} {y : Int} {t : Tok} (hg : Gl X x) (hm : X.mg x = some (.int y t)) (hd : (x == ("__debug__" : Str)) = false := by decide) : PDE X (.Name x pos) (eC (.int y)) := pde_gl (v := .int y) hg hm ⟨t, rfl⟩ (fun _ => by simp only [Rep]) hd
theorem pde_ty {x : Str} {T : String} (hg : Gl X x) (hm : X.mg x = none) (hv : bootBuiltins x = some (.type T)) (hn : x ≠ "__name__" := by decide) (hd : (x == ("__debug__" : Str)) = false := by decide) : PDE X (.Name x pos) (eC (.raw (.ty T))) :=
  pde_c (pe_bltn (v := .ty T) hg hm hv rfl hn hd) fun _ => by simp only [Rep]
end
end FD
set_option Elab.async false
set_option linter.all false
set_option maxRecDepth 100000
namespace FD
open PySem PySem.Spec PyProof.Rows L2
variable [Tabs]
section
variable {X : Cx} {pos : Pos} {e tg : Expr} {es : List Expr} {fe : FE} {fs : FA}
def iAnyT (K : PySem.W.Frag) (tl : TE) : TI := fun σ H R => tl σ H fun x H1 => (∃ a, x = .ref a ∧ (∃ xs, SqL K H1 a xs) ∧ R (Itl K a) H1) ∨ (∃ a, x = .ref a ∧ (∃ xs, SqT K H1 a xs) ∧ R (Itt K a) H1) ∨ ∃ z, x = .str z ∧ R (Its z) H1
theorem pi_any {l : Expr} {tl : TE} (hl : PE X l tl) : PI X tg l (iAnyT X.K tl) := by
  intro pins s σ H R I h
  refine thn (hl pins s σ H _ I h) fun v s1 ⟨x, H1, I1, r1, q1⟩ => ?_
  rcases q1 with ⟨a, e, ⟨xs, hq⟩, q⟩ | ⟨a, e, ⟨xs, hq⟩, q⟩ | ⟨z, e, q⟩
  · subst e
    cases r1
    obtain ⟨its, rv, p, hz⟩ := I1.list hq
    refine wpAny_pyIter_list p.isList ?_
    refine ⟨s1.heap.objs.size, [s1.heap.objs.size], _, _, H1, rfl, I1.kept (t' := s1.toks) fun b o e => Heap.get?_push_of_some _ e, turn_list a _, ⟨_, Heap.get?_push_size _ rfl, rfl, rfl⟩, fun b hb => ?_, q⟩
    have e : b = s1.heap.objs.size := by simpa using hb
    subst e
    exact I1.fpOk (Nat.le_refl _) (I1.hok.fresh (Nat.le_refl _))
  · subst e
    cases r1
    obtain ⟨its, rv, p, hz⟩ := I1.tuple hq
    refine wpAny_pyIter_tuple (show s1.heap.IsTuple a its.toArray from p) ?_
    refine ⟨s1.heap.objs.size, [s1.heap.objs.size], _, _, H1, rfl, I1.kept (t' := s1.toks) fun b o e => Heap.get?_push_of_some _ e, turn_tuple a _, ⟨_, Heap.get?_push_size _ rfl, rfl, rfl⟩, fun b hb => ?_, q⟩
    have e : b = s1.heap.objs.size := by simpa using hb
    subst e
    exact I1.fpOk (Nat.le_refl _) (I1.hok.fresh (Nat.le_refl _))
  · subst e
    obtain ⟨t, rfl⟩ := r1
    have fin : ∀ (ty : String), (ty = "str_ascii_iterator" ∨ ty = "str_iterator") → PIE X pins σ tg R (.ref s1.heap.objs.size) { s1 with heap := s1.heap.push { cls := .type ty, data := .fields #[.str z t, .int 0 0] } } := fun ty hty => by
      refine ⟨s1.heap.objs.size, [s1.heap.objs.size], _, _, H1, rfl, I1.kept (t' := s1.toks) fun b o e => Heap.get?_push_of_some _ e, turn_str hty, ⟨_, Heap.get?_push_size _ rfl, rfl, rfl⟩, fun b hb => ?_, q⟩
      have e : b = s1.heap.objs.size := by simpa using hb
      subst e
      exact I1.fpOk (Nat.le_refl _) (I1.hok.fresh (Nat.le_refl _))
    cases ha : z.cps.all (· < 128)
    · exact wpAny_pyIter_wide ha (fin _ (.inr rfl))
    · exact wpAny_pyIter_ascii ha (fin _ (.inl rfl))
def iterD : D → Rs (List D)
  | .lst ds => .ok ds
  | .scr ns => .ok (ns.map .int)
  | .tup ds => .ok ds
  | .str x => .ok (signsD x)
  | _ => .no
def iAny (fe : FE) : FA := fun τ => (fe τ).bind iterD
theorem pdi_any (he : PDE X e fe) : PDI X tg e (iAny fe) :=
  PI.imp (pi_any he) fun σ H R ⟨F, τ, Rv, h⟩ => tE.of Rv h.bind fun d v F1 H1 g x R1 r => by
    cases d with
    | lst ds =>
      simp only [Rep] at r; obtain ⟨a, vs, rfl, q, t⟩ := r
      exact .inl ⟨a, rfl, ⟨vs, SqL.of (R1.fh _ _ q)⟩, g _ F1 H1 x (it_list (SqL.of q) t)⟩
    | scr ns =>
      simp only [Rep] at r; obtain ⟨a, rfl, q⟩ := r
      exact .inl ⟨a, rfl, ⟨_, R1.fh.seq q⟩, g _ F1 H1 x (it_list q (Reps.ints ns))⟩
    | tup ds =>
      simp only [Rep] at r; obtain ⟨a, vs, rfl, q, t⟩ := r
      exact .inr (.inl ⟨a, rfl, ⟨vs, Same.seqT R1.fh q⟩, g _ F1 H1 x (it_tup q t)⟩)
    | str z => simp only [Rep] at r; exact .inr (.inr ⟨z, r, g _ F1 H1 x it_str⟩)
    | _ => exact g.elim
end
def DefOk (P : Program) (w : World) (K : PySem.W.Frag) (mg : Str → Option Value) (base : Heap) (x : Str) (k n : Nat) (ps : List Str) (g : List D → Rs D) : Prop :=
  ∃ f fd, FnOk P w K mg base CX0 k f fd ps (spD K n g) ∧ Binds K fd ps [] ∧ PySem.W.keepIn K (.ref f) = true ∧ mg x = some (.ref f)
structure DefAt (K : PySem.W.Frag) (mg : Str → Option Value) (x : Str) (st : Stmt) (f : Addr) (fd : FuncData) : Prop where
  fn : Fun K x x st f fd
  at_ : mg x = some (.ref f)
section
variable {P : Program} {w : World} {K : PySem.W.Frag} {mg : Str → Option Value} {base : Heap}
theorem DefOk.mk {x : Str} {st : Stmt} {f : Addr} {fd : FuncData} {N ps : List Str} {k n : Nat} {fb : FS} {g : List D → Rs D} (D : DefAt K mg x st f fd) (S : FnScope N ps (defScope st)) (hn : ps.length = n)
    (hb : ∀ (kV doc pm : Value) (an : Option Addr) (cdv ct : Value) (us : List Value), us.length = ps.length → bindArgs (PySem.W.fnOf x x (defArgs st) (defBody st) (defScope st) .none kV doc pm an cdv ct) ⟨us, []⟩ = pure (ps.zip us))
    (hbody : ∀ (cdv : Value) (A : Around) (outer : List Env) (s : Shared) (H : Hp) (E : XK), Room k (A.deeper (envOfC x (defScope st) s.heap.objs.size f cdv)) →
      PDSs (cxOf CX0 P w K mg base N x (defScope st) f cdv A outer s H E).nox (defBody st) fb)
    (hg : ∀ ds d, ds.length = n → g ds = .ok d → runF N.length fb ds = .ok d) : DefOk P w K mg base x (k + 1) n ps g :=
  ⟨f, fd, FnD.to (fnD D.fn S hn hbody) hg, D.fn.binds hb, D.fn.kp, D.at_⟩
end
section
variable {X : Cx} {pos : Pos} {e tg : Expr} {es : List Expr} {fe : FE} {fs : FA}
theorem pde_def {k n : Nat} {ps : List Str} {g : List D → Rs D} {x : Str} {p : Pos} (D : DefOk X.prog X.w X.K X.mg X.base x k n ps g) (hr : Room k X.A) (ha : PDA X (e :: es) fs) (hfs : ∀ τ ds, fs τ = .ok ds → ds.length = (e :: es).length) (hn : (e :: es).length = n := by rfl) (hg : Gl X x := by rfl) (hdb : (x == ("__debug__" : Str)) = false := by decide)
    (he : starEach (e :: es) X.env = (false, eval e X.env) :: starEach es X.env := by rfl) (hpl : (backTo pos (starEach es X.env)).any (·.1) = false := by rfl) : PDE X (.Call (.Name x p) (e :: es) [] pos) (eCall g fs) := by
  obtain ⟨f, fd, F, hb, hk, hm⟩ := D
  exact pde_call F hr hg hm hk hb ha hn hfs hdb he hpl
end
theorem room128 {k : Nat} {A : Around} (r : Room k A) : A.units + 128 < cLine := by have := r.un; omega
end FD
set_option Elab.async false
set_option linter.all false
set_option maxRecDepth 100000
namespace FD
open PySem PySem.Spec PyProof.Rows L2
variable [Tabs]
section
variable {X : Cx} {pos : Pos} {e a b : Expr} {fe fa fb : FE}
end
def spLaw (K : PySem.W.Frag) : Sp := fun vs H Q _ => ∃ (a : Addr) (ns : List Int) (F : Hp), vs = [.ref a] ∧ Same F H ∧ TbT F H ∧ SqL K F a (ns.map V.int) ∧ ns.length ≤ 63 ∧ ∀ H', Q (.bl true) H'
theorem law_fn {P : Program} {w : World} {K : PySem.W.Frag} {mg : Str → Option Value} {base : Heap} {k : Nat} {g : List D → Rs D} {p : Str} {f : Addr} {fd : FuncData} (F : FnOk P w K mg base CX0 k f fd [p] (spD K 1 g)) (h : ∀ ns : List Int, ns.length ≤ 63 → g [.scr ns] = .ok (.bl true)) :
    FnOk P w K mg base CX0 k f fd [p] (spLaw K) := by
  refine F.imp fun vs H Q E ⟨a, ns, Fz, e, fh, tt, hS, h63, q⟩ => ?_
  subst e
  refine ⟨rfl, [.scr ns], Fz, fh, tt, Reps.cons (by simp only [Rep]; exact ⟨a, rfl, hS⟩) Reps.nil, ?_⟩
  rw [h ns h63]
  intro v F' H' _ r
  simp only [Rep] at r
  subst r
  exact q H'
theorem walk {l : PySem.W.OpenLaw} {q : Program} {loose : List Str} {XP : (Str → Option Value) → Heap → Prop} {YP : World → Heap → Prop} {d : DefRec} {K : Params → PySem.W.Frag} {k : Nat} {p : Str} (hn : l.most = some 63) (hdf : d.params.defaults = []) (hk : Room k callerA)
    (hY : ∀ (w : World) (h : Heap), YP w h → (K w.params).In h)
    (F : ∀ (w : World) (mg : Str → Option Value) (fa : Addr) (h : Heap), (K w.params).In h → h.Ns mainGlobals mg → mg d.name = some (.ref fa) →
      ∃ fd : FuncData, (∀ (s : Shared) (u : Value), BindsTo s fd ⟨[u], []⟩ [(p, u)]) ∧ ∀ base : Heap, (K w.params).In base → base.Ns mainGlobals mg → FnOk l.prog w (K w.params) mg base CX0 k fa fd [p] (spLaw (K w.params)))
    (ht : Tabs.rows = [] := by rfl) :
    PySem.W.WalkO q loose XP YP l.row.toRowW d [] (fun f vs => PySem.call f vs) :=
  L2.walk_of (n := 63) (k := k) (x := p) (CX := fun _ => CX0) (sp := fun w => spLaw (K w.params)) hn (by decide) hdf hk hY F (fun _ H a ns hl hO hS => ⟨a, ns, H, rfl, Same.refl H, ⟨(fun r hr => by rw [ht] at hr; cases hr), fun d b e => by rcases hO d with z | ⟨_, _, z⟩ <;> (rw [z] at e; cases e)⟩, hS, hl, fun _ => rfl⟩) fun _ _ _ _ _ z => z
end FD
set_option Elab.async false
set_option linter.all false
set_option maxRecDepth 100000
namespace FD
open PySem PySem.Spec PyProof.Rows L2
variable [Tabs]
section
variable {X : Cx} {pos : Pos} {e tg : Expr} {es : List Expr} {fe : FE} {fs : FA}
end
end FD
set_option Elab.async false
set_option linter.all false
set_option maxRecDepth 100000
namespace FD
open PySem PySem.Spec PyProof.Rows L2
variable [Tabs]
section
open PySem.SeqAt
open PySem.AutoSeq1 (wpAny_loadPart')
open PySem.MeetsSeq PySem.MeetsSeq2 PySem.MeetsSeq3
end
section
variable {X : Cx}
end
end FD
set_option Elab.async false
set_option linter.all false
set_option maxRecDepth 100000
namespace FD
open PySem PySem.Spec PyProof.Rows L2
variable [Tabs]
section
variable {X : Cx}
end
section
variable {rest : List Expr} {env : Env}
theorem st_const {a b c} : starEach (.Constant a b c :: rest) env = (false, eval (.Constant a b c) env) :: starEach rest env := rfl
theorem st_list {a b} : starEach (.List a b :: rest) env = (false, eval (.List a b) env) :: starEach rest env := rfl
end
end FD
set_option Elab.async false
set_option linter.all false
set_option maxRecDepth 100000
namespace FD
open PySem PySem.Spec PyProof.Rows L2
variable [Tabs]
def Itn (K : PySem.W.Frag) (l : Addr) : It :=
  ⟨fun k H => ∃ vs, SqL K H l vs ∧ k < vs.length,
   fun k H y H' => ∃ p v, H p = none ∧ (∀ vs, SqL K H l vs → vs[k]? = some v) ∧ y = .ref p ∧ H' = upd H p (.tup [.int k, v]),
   fun k H => ∃ vs, SqL K H l vs ∧ vs.length ≤ k⟩
theorem turn_enum {P : Program} {w : World} {K : PySem.W.Frag} {elts : List Expr} {x1} {pos : Pos} {e it l : Addr} (D : e ≠ it) :
    Turn P w K (.Tuple elts x1 pos) (Itn K l) [e, it] e (fun k h => (∃ old, IsEnum h e it (k : Nat) old) ∧ h.IsListIter it l k) where
  mem := by simp
  obj := fun k h ⟨⟨old, h1⟩, ⟨o5, e5, c5, d5⟩⟩ b hb => by
    simp at hb
    rcases hb with rfl | rfl
    · exact ⟨_, h1, fun v z => by cases z⟩
    · exact ⟨_, e5, fun v z => by rw [d5] at z; cases z⟩
  keep := fun k h h' ⟨⟨old, h1⟩, h5⟩ hk => ⟨⟨old, hk e (by simp) _ h1⟩, h5.at fun o q => hk it (by simp) o q⟩
  item := by
    intro X hP hw hK hc k pins s σ H E I hf ⟨⟨old, h1⟩, h5⟩ hg
    subst hP hw hK
    obtain ⟨vs, hq, l2⟩ := hg
    obtain ⟨its, rv, p, hz⟩ := I.list hq
    have hlen := rv.length
    have hvk : vs[k]? = some vs[k] := by simp [l2]
    obtain ⟨u2, eu, ru⟩ := rv.get hvk
    refine wpAny_pyNext_enum_item (x := u2) h1 h5 p.isList (by simpa using eu) D fun h' q1 q2 q3 q4 q5 => ?_
    have np : s.heap.objs.size ≠ e := Nat.ne_of_gt (Heap.lt_size h1)
    refine ⟨_, rfl, wpAny_letOwnedTupleGo_enum (s := { s with heap := h', toks := s.toks + 1 }) q1 fun h'' z1 sb => ?_⟩
    refine ⟨.ref s.heap.objs.size, upd H s.heap.objs.size (.tup [.int k, vs[k]]), ?_, rfl, ⟨_, vs[k], I.hok.fresh (Nat.le_refl _), fun ws hw => by rw [I.list_inj hw hq]; exact hvk, rfl, rfl⟩, ⟨⟨_, by simpa using z1⟩, ?_⟩, fun b hb => ?_⟩
    · refine (turnedT (s := s) (h' := h'') (t' := s.toks + 1) (xs := [.int k, vs[k]]) (ch := [e, it]) I (fun b o hb q => ?_) hf (Nat.le_refl _) ⟨_, sb.extBut _ _ np q3, rfl, _, rfl⟩ (.cons ⟨_, rfl⟩ (.cons ru .nil)) (by show 2 ≤ sizeLine; decide) : Inv X pins σ _ { s with heap := h'', toks := s.toks + 1 })
      simp at hb
      exact sb.extBut _ _ hb.1 (q5 b o hb.1 hb.2 q)
    · obtain ⟨o, q, r⟩ := q2
      exact ⟨o, sb.extBut _ _ (Ne.symm D) q, r⟩
    · have lt : b < s.heap.objs.size := by
        simp at hb
        rcases hb with rfl | rfl
        · exact Heap.lt_size h1
        · obtain ⟨o, q, r⟩ := h5
          exact Heap.lt_size q
      rw [upd_ne (Nat.ne_of_lt lt)]
      exact (hf b hb).1
  done := by
    intro X hP hw hK hc k pins s σ H E I hf ⟨⟨old, h1⟩, h5⟩ hg
    subst hP hw hK
    obtain ⟨vs, hq, hend⟩ := hg
    obtain ⟨its, rv, p, hz⟩ := I.list hq
    have hlen := rv.length
    obtain ⟨f0, f1, f2, f3, f4, f5⟩ := hf it (by simp)
    exact wpAny_pyNext_enum_end (I.ok.hd hc) h1 h5 p.isList (by simp; omega) fun h' eb => ⟨rfl, I.turned (t' := s.toks) (fun b o hb q => eb b o hb q) f0 f1 f3 f4 f5⟩
  self := fun _ _ _ _ _ ⟨⟨_, h1⟩, _⟩ h => wpAny_pyIter_enum h1 h
section
variable {X : Cx} {pos : Pos} {e a b : Expr} {es : List Expr} {fe fa fb : FE} {fs : FA}
def iEnumT (K : PySem.W.Frag) (ta : TA) : TI := fun σ H R => ta σ H fun vs H1 => ∃ l ws, vs = [.ref l] ∧ SqL K H1 l ws ∧ R (Itn K l) H1
theorem pi_enum {ta : TA} {p : Pos} {elts : List Expr} {x1} {tpos : Pos} (hg : Gl X "enumerate") (hm : X.mg "enumerate" = none) (ha : PA X [a] ta) (hs : starEach [a] X.env = [(false, eval a X.env)] := by rfl) :
    PI X (.Tuple elts x1 tpos) (.Call (.Name "enumerate" p) [a] [] pos) (iEnumT X.K ta) := by
  intro pins s σ H R I h
  refine Call_ (ld_blt I hg hm boot_enumerate (PyProof.Rows.callWith_type1 (thn (ha pos pins s σ H _ I h) fun us s1 ⟨vs, H1, I1, r1, q1⟩ => ?_) (by rw [hs]; rfl) rfl))
  obtain ⟨l, ws, e, hq, q⟩ := q1
  subst e
  obtain ⟨u1, rfl, ru⟩ := vals1 r1
  cases ru
  obtain ⟨its, rr, pp, hz⟩ := I1.list hq
  refine call_enumerate_list pp.isList fun h' g1 g2 g3 g4 => ?_
  have I5 : Inv X pins σ H1 { s1 with heap := h' } := I1.kept (t' := s1.toks) g4
  refine wpAny_pyIter_enum (s := { s1 with heap := h' }) g1 ?_
  refine ⟨s1.heap.objs.size + 1, [s1.heap.objs.size + 1, s1.heap.objs.size], _, _, H1, rfl, I5, turn_enum (l := l) (by show (_ : Nat) ≠ _; omega), ⟨⟨_, g1⟩, g2⟩, fun b hb => ?_, q⟩
  have hb' : s1.heap.objs.size ≤ b := by
    simp at hb
    rcases hb with rfl | rfl <;> (show s1.heap.objs.size ≤ (_ : Nat); omega)
  obtain ⟨f0, f1, f2, f3, f4, f5⟩ := I1.fpOk (H' := H1) hb' (I1.hok.fresh hb')
  exact ⟨f0, f1, f2, f3, f4, f5⟩
def enumFrom (n : Nat) : List D → List D
  | [] => []
  | d :: r => .tup [.int n, d] :: enumFrom (n + 1) r
theorem enumFrom_len : ∀ (ds : List D) (n : Nat), (enumFrom n ds).length = ds.length
  | [], _ => rfl
  | _ :: r, n => by simp [enumFrom, enumFrom_len r]
theorem enumFrom_get : ∀ {ds : List D} {n i : Nat} {p : D}, (enumFrom n ds)[i]? = some p → ∃ d, ds[i]? = some d ∧ p = .tup [.int ((n + i : Nat) : Int), d]
  | [], _, _, _, h => by simp [enumFrom] at h
  | d :: ds, n, 0, p, h => by simp [enumFrom] at h; exact ⟨d, rfl, by simpa using h.symm⟩
  | d :: ds, n, i + 1, p, h => by
    obtain ⟨d', h2, h3⟩ := enumFrom_get (n := n + 1) (i := i) (by simpa [enumFrom] using h)
    exact ⟨d', by simpa using h2, by rw [h3]; congr 3; show ((n + 1 + i : Nat) : Int) = _; congr 1; omega⟩
theorem it_enum {K : PySem.W.Frag} {F1 : Hp} {l : Addr} {ds : List D} {vs : List V} (e : SqL K F1 l vs) (r : Reps K F1 ds vs) : ItOk K (Itn K l) F1 (enumFrom 0 ds) := fun i F H f1 f2 => by
  have q : SqL K H l vs := (f1.trans f2).seq e
  have hl := enumFrom_len ds 0
  have hr := r.length
  refine ⟨fun h => ⟨vs, q, by omega⟩, fun p hp => ?_⟩
  obtain ⟨d, h2, rfl⟩ := enumFrom_get hp
  have l2 : i < vs.length := by have := (List.getElem?_eq_some_iff.mp h2).1; omega
  refine ⟨⟨vs, q, l2⟩, fun y H' yy => ?_⟩
  obtain ⟨pa, v, hp, q', rfl, rfl⟩ := yy
  refine ⟨upd F pa (.tup [.int i, v]), Ext.new f2 hp, ?_⟩
  simp only [Rep]
  refine ⟨pa, _, rfl, SqT.of upd_same, Reps.cons (by simp only [Rep, Nat.zero_add]) (Reps.cons ?_ Reps.nil)⟩
  obtain ⟨v', hv', rv'⟩ := r.get h2
  have e3 := q' vs q
  rw [hv'] at e3; cases e3
  exact (rv'.mono f1).mono (same_upd (none_of_same f2 hp))
def lstq : List D → Option (List D)
  | [.lst ds] => some ds
  | _ => none
theorem lstq_eq {ds xs : List D} (h : lstq ds = some xs) : ds = [.lst xs] := by
  unfold lstq at h; split at h <;> cases h; rfl
def iEn (fs : FA) : FA := fun τ => (fs τ).bind fun ds => match lstq ds with
  | some xs => .ok (enumFrom 0 xs)
  | none => .no
theorem pdi_enum {p : Pos} {elts : List Expr} {x1} {tpos : Pos} (hg : Gl X "enumerate") (hm : X.mg "enumerate" = none) (ha : PDA X [a] fs) (hs : starEach [a] X.env = [(false, eval a X.env)] := by rfl) :
    PDI X (.Tuple elts x1 tpos) (.Call (.Name "enumerate" p) [a] [] pos) (iEn fs) :=
  PI.imp (pi_enum hg hm ha hs) fun σ H R ⟨F, τ, Rv, h⟩ => tAs.of Rv h.bind fun ds vs F1 H1 g x R1 r => by
    cases q1 : lstq ds with
    | none => rw [q1] at g; exact g.elim
    | some xs =>
      rw [q1] at g
      have e := lstq_eq q1
      subst e
      obtain ⟨v, rfl, r1⟩ := r.one
      simp only [Rep] at r1
      obtain ⟨l, ws, rfl, e1, t⟩ := r1
      exact ⟨l, ws, rfl, SqL.of (R1.fh _ _ e1), g _ F1 H1 x (it_enum (SqL.of e1) t)⟩
end
end FD
set_option Elab.async false
set_option linter.all false
set_option maxRecDepth 100000
namespace FD
open PySem PySem.Spec PyProof.Rows L2
variable [Tabs]
section
variable {X : Cx} {pins : List (Addr × Obj)} {σ : St} {H : Hp} {s : Shared} {h' : Heap}
end
end FD
set_option Elab.async false
set_option linter.all false
set_option maxRecDepth 100000
namespace FD
open PySem PySem.Spec PyProof.Rows L2
variable [Tabs]
section
variable {X : Cx} {pins : List (Addr × Obj)} {σ : St} {H : Hp} {s : Shared} {h' : Heap} {a : Addr} {cls : Value}
variable {M : Model} {A : Around} {E : Value → Shared → Prop} {Q : Unit → Shared → Prop}
theorem np (b : Addr) : ∀ p ∈ ([] : List (Addr × Obj)), p.1 ≠ b := fun p hp => nomatch hp
end
section
variable {P : Program} {w : World} {K : PySem.W.Frag} {mg : Str → Option Value} {base : Heap}
end
end FD
set_option Elab.async false
set_option linter.all false
set_option maxRecDepth 100000
namespace FD
open PySem PySem.Spec PyProof.Rows L2
variable [Tabs]
section
variable {X : Cx} {pos : Pos} {e : Expr} {es : List Expr} {fe : FE} {fs : FA} {st : Stmt}
def tX (X : Cx) (fs : FA) (g : List D → Rs D) : TE := fun σ H Q => ∃ F τ, RV X.K F τ σ H ∧ Ok X (fs τ) fun ds => match g ds with
  | .ok d => Ev X.K F H Q d
  | .ex c => ∀ F' H', Ext F H F' H' → XA X c σ H'
  | .no => False
end
section
variable {P : Program} {w : World} {K : PySem.W.Frag} {mg : Str → Option Value} {base : Heap}
end
end FD
set_option Elab.async false
set_option linter.all false
set_option maxRecDepth 100000
namespace FD
open PySem PySem.Spec PyProof.Rows L2
variable [Tabs]
section
variable {X : Cx} {pins : List (Addr × Obj)} {σ : St} {H : Hp} {s : Shared} {a : Addr} {cls : Value}
theorem goes {h' : Heap} {m' : Str → Option Value} {t' : Nat} (I : Inv X pins σ H s) (hn : h'.Ns X.env.locals m') (sb : Heap.SameBut X.env.locals s.heap h') : Inv X pins (List.replicate X.N.length none) H { s with heap := h', toks := t' } := by
  have nL : ∀ b o, X.s₀.heap.get? b = some o → b ≠ X.env.locals := fun b o e => Nat.ne_of_lt (Nat.lt_of_lt_of_le (Heap.lt_size e) I.ok.above)
  refine ⟨I.ok, I.os, I.bare, ⟨fun b o e n hb hx => (sb.2 b (nL b o e)).trans (I.base.keep b o e n hb hx), fun b o e n hb hx => ?_, I.base.free, fun b o e hx => ?_, I.base.tups, I.base.frzs, I.base.tbls⟩, ⟨m', hn, fun j y v e1 e2 e3 => ?_⟩, fun y c e => ?_, I.free, I.freeC, fun p hp => ?_, fun b u e => ?_, by simp⟩
  · obtain ⟨sl, q⟩ := I.base.slot b o e n hb hx
    exact ⟨sl, (sb.2 b (nL b o e)).trans q⟩
  · obtain ⟨o', q⟩ := I.base.there b o e hx
    exact ⟨o', (sb.2 b (nL b o e)).trans q⟩
  · rw [List.getElem?_replicate] at e2
    split at e2 <;> cases e2
  · obtain ⟨v, o, ho, hd⟩ := I.cell y c e
    exact ⟨v, o, (sb.2 c (I.cne y c e)).trans ho, hd⟩
  · obtain ⟨q1, q2, q3, q4⟩ := I.pin p hp
    exact ⟨(sb.2 p.1 q3).trans q1, q2, q3, q4⟩
  · refine (I.hok b u e).stay (fun c w' hc q => (sb.2 c ?_).trans q) (fun _ q => q) fun _ _ q => q
    rintro rfl
    rcases hc with rfl | hc
    · rw [I.free] at e; cases e
    · rw [I.free] at hc; cases hc
end
end FD
set_option Elab.async false
set_option linter.all false
set_option maxRecDepth 100000
namespace FD
open PySem PySem.Spec PyProof.Rows L2
variable [Tabs]
section
variable {prog : Program} {w : World} {A : Around} {E : Value → Shared → Prop} {K : PySem.W.Frag} {x C : Addr}
end
section
variable {X : Cx} {pos : Pos} {a b : Expr} {fa : FE}
end
end FD
set_option Elab.async false
set_option linter.all false
set_option maxRecDepth 100000
namespace FD
open PySem PySem.Spec PyProof.Rows L2
variable [Tabs]
section
variable {X : Cx} {pos : Pos} {e : Expr} {es : List Expr} {fs : FA} {st : Stmt}
end
end FD
set_option Elab.async false
set_option linter.all false
set_option maxRecDepth 100000
namespace FD
open PySem PySem.Spec PyProof.Rows L2
variable [Tabs]
section
variable {X : Cx} {pos : Pos} {e a b : Expr} {es : List Expr} {fe fa fb : FE} {fs : FA}
end
end FD
set_option Elab.async false
set_option linter.all false
set_option maxRecDepth 100000
namespace FD
open PySem PySem.Spec PyProof.Rows L2
variable [Tabs]
section
variable {X : Cx} {pos : Pos} {e a b : Expr} {es : List Expr} {fe fa fb : FE} {fs : FA}
end
end FD
set_option Elab.async false
set_option linter.all false
set_option maxRecDepth 100000
namespace FD
open PySem PySem.Spec PyProof.Rows L2
variable [Tabs]
section
variable {P : Program} {w : World} {K : PySem.W.Frag} {mg : Str → Option Value} {base : Heap}
end
section
variable {X : Cx} {pos : Pos} {e : Expr} {es : List Expr} {fe : FE} {fs : FA}
end
end FD
set_option Elab.async false
set_option linter.all false
set_option maxRecDepth 100000
namespace FD
open PySem PySem.Spec PyProof.Rows L2
variable [Tabs]
section
variable {X : Cx} {scope : Scope} {N' : List Str}
end
section
variable {X : Cx} {scope : Scope} {N' : List Str} {tg iter elt : Expr} {ifs : List Expr} {pos : Pos} {wi : TI} {g : TG} {ti : TT} {te : TE} {s0 : St → St}
end
section
variable {X : Cx} {scope : Scope} {tn fr : List Str} {idx : List Nat} {tg iter elt : Expr} {ifs : List Expr} {pos : Pos} {fi : FA} {set : FG} {ft : FT} {fe : FE}
end
end FD
set_option Elab.async false
set_option linter.all false
set_option maxRecDepth 100000
namespace FD
open PySem PySem.Spec PyProof.Rows L2
variable [Tabs]
end FD
set_option Elab.async false
set_option linter.all false
set_option maxRecDepth 100000
namespace FD
open PySem PySem.Spec PyProof.Rows L2
variable [Tabs]
end FD
set_option Elab.async false
set_option linter.all false
set_option maxRecDepth 100000
namespace FD
open PySem PySem.Spec PyProof.Rows L2
variable [Tabs]
section
variable {X : Cx} {tg : Expr}
end
section
variable {X : Cx} {pos : Pos} {e tg : Expr} {es : List Expr} {fe : FE} {fs : FA}
end
section
variable {P : Program} {w : World} {K : PySem.W.Frag} {mg : Str → Option Value} {base : Heap}
end
section
variable {X : Cx} {pos : Pos} {e : Expr} {es : List Expr} {fe : FE} {fs : FA}
end
end FD
set_option Elab.async false
set_option linter.all false
set_option maxRecDepth 100000
namespace FD
open PySem PySem.Spec PyProof.Rows L2
variable [Tabs]
section
variable {X : Cx} {pins : List (Addr × Obj)} {σ : St} {H : Hp} {s : Shared} {a : Addr} {cls : Value}
end
end FD
set_option Elab.async false
set_option linter.all false
set_option maxRecDepth 100000
namespace FD
open PySem PySem.Spec PyProof.Rows L2
variable [Tabs]
section
variable {X : Cx} {pos : Pos} {e a b : Expr} {es : List Expr} {fe fa fb : FE} {fs : FA}
end
end FD
set_option Elab.async false
set_option linter.all false
set_option maxRecDepth 100000
namespace FD
open PySem PySem.Spec PyProof.Rows L2
variable [Tabs]
section
variable {X : Cx} {tg : Expr}
end
section
variable {X : Cx} {pos : Pos} {e tg : Expr} {es : List Expr} {fe : FE} {fs : FA}
end
end FD
set_option Elab.async false
set_option linter.all false
set_option maxRecDepth 100000
namespace FD
open PySem PySem.Spec PyProof.Rows L2
variable [Tabs]
section
variable {X : Cx} {pos : Pos} {e a b : Expr} {es : List Expr} {fe fa fb : FE} {fs : FA}
end
end FD
set_option Elab.async false
set_option linter.all false
set_option maxRecDepth 100000
namespace FD
open PySem PySem.Spec PyProof.Rows L2
variable [Tabs]
end FD
set_option Elab.async false
set_option linter.all false
set_option maxRecDepth 100000
namespace FD
open PySem PySem.Spec PyProof.Rows L2 PySem.W
section
variable {lt : Nat → Nat → Bool} {n : Nat}
end
section
variable {n : Nat} {κ : Nat → List Int} {p : Array Nat}
variable (inj : ∀ i j, i < n → j < n → κ i = κ j → i = j)
include inj
end
end FD
set_option Elab.async false
set_option linter.all false
set_option maxRecDepth 100000
namespace FD
open PySem PySem.Spec PyProof.Rows L2 PySem.W
section
variable {prog : Program} {w : World} {A : Around} {E : Value → Shared → Prop} {s : Shared}
end
section
variable [Tabs] {X : Cx} {pins : List (Addr × Obj)} {σ : St} {F H : Hp} {s : Shared}
end
end FD
set_option Elab.async false
set_option linter.all false
set_option maxRecDepth 100000
namespace FD
open PySem PySem.Spec PyProof.Rows L2 PySem.W
variable [Tabs]
section
variable {X : Cx} {pins : List (Addr × Obj)} {σ : St} {F H : Hp} {τ : DS} {s : Shared} {Q : VK} {E : Value → Shared → Prop}
end
end FD
set_option Elab.async false
set_option linter.all false
set_option maxRecDepth 100000
namespace FD
open PySem PySem.Spec PyProof.Rows L2 PySem.W
variable [Tabs]
section
variable {X : Cx} {pins : List (Addr × Obj)} {σ : St} {F H : Hp} {τ : DS} {s : Shared} {Q : VK} {E : Value → Shared → Prop}
end
end FD
set_option Elab.async false
set_option linter.all false
set_option maxRecDepth 100000
namespace FD
open PySem PySem.Spec PyProof.Rows L2 PySem.W
variable [Tabs]
section
variable {X : Cx} {scope : Scope} {N' : List Str} {pins : List (Addr × Obj)} {σ σ' : St} {F H : Hp} {τ : DS} {s : Shared}
end
end FD
set_option Elab.async false
set_option linter.all false
set_option maxRecDepth 100000
namespace FD
open PySem PySem.Spec PyProof.Rows L2 PySem.W
variable [Tabs]
section
variable {X : Cx} {scope : Scope} {pins : List (Addr × Obj)} {σ : St} {F H : Hp} {τ : DS} {s : Shared}
end
end FD
set_option Elab.async false
set_option linter.all false
set_option maxRecDepth 100000
namespace FD
open PySem PySem.Spec PyProof.Rows L2
section
variable {prog : Program} {w : World} {A : Around} {R : Result → Shared → Prop} {E : Value → Shared → Prop} {I S : Addr} {fp wr : List Addr} {n : Nat} {P : Nat → Value → Prop} {St : Nat → Heap → Prop} {kw : List (Str × Value)}
end
variable [Tabs]
section
variable {X : Cx} {pos pp kp : Pos} {e e2 : Expr} {fe f2 : FE}
end
end FD
set_option Elab.async false
set_option linter.all false
set_option maxRecDepth 100000
namespace FD
open PySem PySem.Spec PyProof.Rows L2
variable [Tabs]
section
variable {K : PySem.W.Frag} {B Z F H : Hp} {τ : DS} {σ : St}
end
section
variable {X : Cx} {pos : Pos} {e tg : Expr} {st : Stmt} {ss : List Stmt} {fe : FE} {fs : FA} {f : FS}
def scal : D → Bool
  | .non => true
  | .bl _ => true
  | .int _ => true
  | .str _ => true
  | _ => false
end
end FD
set_option Elab.async false
set_option linter.all false
set_option maxRecDepth 100000
namespace FD
open PySem PySem.Spec PyProof.Rows L2 PySem.W
variable [Tabs]
section
variable {X : Cx} {pins : List (Addr × Obj)} {σ : St} {F H : Hp} {τ : DS} {s : Shared} {Q : VK} {E : Value → Shared → Prop}
end
end FD
set_option Elab.async false
set_option linter.all false
set_option maxRecDepth 100000
namespace FD
open PySem PySem.Spec PyProof.Rows L2 PySem.W
variable [Tabs]
section
variable {P : Program} {w : World} {K : PySem.W.Frag} {mg : Str → Option Value} {base : Heap}
end
end FD
set_option Elab.async false
set_option linter.all false
set_option maxRecDepth 100000
namespace FD
open PySem PySem.Spec PyProof.Rows L2
variable [Tabs]
section
variable {X : Cx} {pos : Pos} {e a b : Expr} {es : List Expr} {fe fa fb : FE} {fs : FA}
end
end FD
set_option Elab.async false
set_option linter.all false
set_option maxRecDepth 100000
namespace FD
open PySem PySem.Spec PyProof.Rows L2
variable [Tabs]
section
variable {X : Cx} {pos : Pos} {e : Expr} {es : List Expr} {fe : FE} {fs : FA} {C : Addr} {c f x : Str} {i : Nat}
end
end FD
set_option Elab.async false
set_option linter.all false
set_option maxRecDepth 100000
namespace FD
open PySem PySem.Spec PyProof.Rows L2
variable [Tabs]
section
variable {X : Cx} {pos : Pos} {e : Expr} {es : List Expr} {fe : FE} {fs : FA} {C : Addr} {c f x : Str} {i : Nat}
end
section
variable {X : Cx} {pos : Pos} {e : Expr} {es : List Expr} {fe : FE} {ff : FA} {C : Addr} {c f x : Str} {i : Nat}
end
section
variable {X : Cx} {pos : Pos} {e : Expr} {es : List Expr} {fe : FE} {ff : FA} {C : Addr} {c f x : Str} {i : Nat}
end
end FD
set_option Elab.async false
set_option linter.all false
set_option maxRecDepth 100000
namespace FD
open PySem PySem.Spec PyProof.Rows L2
variable [Tabs]
section
variable {P : Program} {w : World} {K : PySem.W.Frag} {mg : Str → Option Value} {base : Heap}
end
end FD
set_option Elab.async false
set_option linter.all false
set_option maxRecDepth 100000
namespace FD
open PySem PySem.Spec PyProof.Rows L2
variable [Tabs]
abbrev FOb := DS → Rs (D × DS)
abbrev FObT := DS → Rs (Bool × DS)
section
variable {X : Cx} {pos : Pos} {e a b : Expr} {es rest : List Expr} {fe fb : FE} {fs : FA} {c m x : Str} {i k n : Nat} {ps : List Str} {fo : FOb} {ga gb : FObT}
end
end FD
set_option Elab.async false
set_option linter.all false
set_option maxRecDepth 100000
namespace FD
open PySem PySem.Spec PyProof.Rows L2
variable [Tabs]
section
variable {X : Cx} {pos : Pos} {e a b : Expr} {es rest : List Expr} {fe fb : FE} {fs f1 f2 : FA} {c m x y : Str} {i k n j : Nat} {ps : List Str} {fo : FOb}
end
end FD
set_option Elab.async false
set_option linter.all false
set_option maxRecDepth 100000
namespace FD
open PySem PySem.Spec PyProof.Rows L2
variable [Tabs]
section
variable {X : Cx} {pos : Pos} {e : Expr} {es : List Expr} {fs : FA} {c x : Str} {i k n : Nat} {ps : List Str}
end
section
variable {P : Program} {w : World} {K : PySem.W.Frag} {mg : Str → Option Value} {base : Heap}
end
end FD
set_option Elab.async false
set_option linter.all false
set_option maxRecDepth 100000
namespace FD
open PySem PySem.Spec PyProof.Rows L2
variable [Tabs]
section
variable {X : Cx} {scope : Scope} {tn fr : List Str} {idx : List Nat} {tg iter elt : Expr} {ifs : List Expr} {pos : Pos} {fi : FA} {set : FG} {ft : FT} {fe : FE}
end
section
variable {X : Cx} {pos : Pos} {e tg : Expr} {es : List Expr} {fe : FE} {fs : FA} {c f x : Str} {i : Nat} {C : Addr}
end
end FD
set_option Elab.async false
set_option linter.all false
set_option maxRecDepth 100000
namespace FD
open PySem PySem.Spec PyProof.Rows L2
variable [Tabs]
section
variable {P : Program} {w : World} {K : PySem.W.Frag} {mg : Str → Option Value} {base : Heap}
end
section
variable {X : Cx} {pos : Pos} {e : Expr} {es : List Expr} {fs : FA} {c c2 m x y : Str} {i k n h_ : Nat} {ps : List Str}
end
end FD
set_option Elab.async false
set_option linter.all false
set_option maxRecDepth 100000
namespace FD
open PySem PySem.Spec PyProof.Rows L2
variable [Tabs]
def lstInt : D → D → Option (List D × Int)
  | .lst x, .int k => some (x, k)
  | _, _ => none
omit [Tabs] in
theorem lstInt_eq {d e : D} {x : List D} {k : Int} (h : lstInt d e = some (x, k)) : d = .lst x ∧ e = .int k := by
  unfold lstInt at h; split at h <;> cases h; exact ⟨rfl, rfl⟩
def eRepL (fa fb : FE) : FA := fun τ => (fa τ).bind fun x => (fb τ).bind fun y => match lstInt x y with
  | some (ds, k) => if (-(2 ^ 62) ≤ k ∧ k < 2 ^ 62) ∧ ds.length * k.toNat ≤ sizeLine then .ok (List.replicate k.toNat ds).flatten else .no
  | none => .no
section
variable {X : Cx} {pos : Pos} {e a b : Expr} {es : List Expr} {fe fa fb fi : FE} {C : Addr} {c f x : Str} {i : Nat}
theorem pdf_rep (ha : PDE X a fa) (hb : PDE X b fb) : PDF X (.BinOp a .Mult b pos) (eRepL fa fb) :=
  PE.imp (pe_op op_rep ha hb) fun σ H Q ⟨F, τ, R, h⟩ => by
    refine tE.of R h.bind fun x u F1 H1 g x1 R1 r1 => tE.of R1 g.bind fun y v F2 H2 g2 x2 R2 r2 => ?_
    cases q : lstInt x y with
    | none => rw [q] at g2; exact g2.elim
    | some ij =>
      obtain ⟨ds, k⟩ := ij
      rw [q] at g2
      obtain ⟨rfl, rfl⟩ := lstInt_eq q
      obtain ⟨z, g2⟩ := ok_ite g2
      simp only [Rep] at r1 r2
      obtain ⟨a, vs, rfl, e1, t1⟩ := r1
      subst r2
      exact ⟨a, k, vs, rfl, rfl, R2.fh _ _ (x2.ff _ _ e1), by omega, by omega, by rw [← t1.length]; exact z.2, fun p hp => g2 p _ F2 H2 (x1.trans x2) hp ((t1.mono x2.ff).rep _)⟩
end
end FD
set_option Elab.async false
set_option linter.all false
set_option maxRecDepth 100000
namespace FD
open PySem PySem.Spec PyProof.Rows L2
variable [Tabs]
omit [Tabs] in
theorem vals_ints : ∀ {vs : List Value} {ns : List Int}, IntsAre vs ns → Vals (ns.map V.int) vs
  | _, _, .nil => .nil
  | _, _, .cons n t r => .cons ⟨t, rfl⟩ (vals_ints r)
section
variable {X : Cx} {pins : List (Addr × Obj)} {σ : St} {F H : Hp} {s : Shared} {Q : VK} {E : Value → Shared → Prop}
end
end FD
set_option Elab.async false
set_option linter.all false
set_option maxRecDepth 100000
namespace FD
open PySem PySem.Spec PyProof.Rows L2
variable [Tabs]
section
variable {X : Cx} {pos : Pos} {C : Addr} {c f x : Str} {i : Nat}
end
end FD
set_option Elab.async false
set_option linter.all false
set_option maxRecDepth 100000
namespace FD
open PySem PySem.Spec PyProof.Rows L2 PySem.W
variable [Tabs]
section
variable {P : Program} {w : World} {K : PySem.W.Frag} {mg : Str → Option Value} {base : Heap}
end
end FD
set_option Elab.async false
set_option linter.all false
set_option maxRecDepth 100000
namespace FD
open PySem PySem.Spec PyProof.Rows L2
variable [Tabs]
section
variable {P : Program} {w : World} {K : PySem.W.Frag} {mg : Str → Option Value} {base : Heap}
end
section
variable {X : Cx} {pos : Pos} {e : Expr} {es : List Expr} {fe : FE} {ff : FA} {c m x : Str} {i k n h_ : Nat} {ps : List Str}
end
end FD
set_option Elab.async false
set_option linter.all false
namespace STW
open PySem
abbrev Ris (l : List Nat) : Prop := l.Pairwise (· < ·)
theorem ris_get {l : List Nat} (h : Ris l) {i k : Nat} (hik : i < k) (hk : k < l.length) : l.getD i 0 < l.getD k 0 := by
  have := List.pairwise_iff_getElem.mp h i k (by omega) hk hik
  simpa [show i < l.length by omega, hk] using this
theorem below_go (xs : Array Nat) (j : Nat) : ∀ (fuel lo hi : Nat), lo ≤ hi → hi ≤ xs.size → hi - lo ≤ fuel → Ris xs.toList → (∀ i, i < lo → xs.toList.getD i 0 < j) → (∀ i, hi ≤ i → i < xs.size → j ≤ xs.toList.getD i 0) →
    SetTable.below.go xs j fuel lo hi ≤ xs.size ∧ (∀ i, i < SetTable.below.go xs j fuel lo hi → xs.toList.getD i 0 < j) ∧ ∀ i, SetTable.below.go xs j fuel lo hi ≤ i → i < xs.size → j ≤ xs.toList.getD i 0
  | 0, lo, hi, h1, h2, h3, hr, ha, hb => by
    have e : lo = hi := by omega
    subst e
    unfold SetTable.below.go
    exact ⟨h2, ha, hb⟩
  | fuel + 1, lo, hi, h1, h2, h3, hr, ha, hb => by
    unfold SetTable.below.go
    by_cases c : lo < hi
    · rw [if_pos c]
      have hm : (lo + hi) / 2 < xs.size := by omega
      have em : xs.getD ((lo + hi) / 2) j = xs.toList.getD ((lo + hi) / 2) 0 := by
        simp [Array.getD, hm]
      dsimp only
      by_cases d : xs.getD ((lo + hi) / 2) j < j
      · rw [if_pos d]
        refine below_go xs j fuel _ hi (by omega) h2 (by omega) hr (fun i hi' => ?_) hb
        rw [em] at d
        by_cases z : i = (lo + hi) / 2
        · subst z; exact d
        · exact Nat.lt_trans (ris_get hr (by omega) (by simpa using hm)) d
      · rw [if_neg d]
        refine below_go xs j fuel lo _ (by omega) (by omega) (by omega) hr ha fun i hi' hs => ?_
        rw [em] at d
        by_cases z : i = (lo + hi) / 2
        · subst z; omega
        · have := ris_get hr (i := (lo + hi) / 2) (k := i) (by omega) (by simpa using hs)
          omega
    · rw [if_neg c]
      have e : lo = hi := by omega
      subst e
      exact ⟨h2, ha, hb⟩
theorem below_ok {xs : Array Nat} (hr : Ris xs.toList) (j : Nat) : SetTable.below xs j ≤ xs.size ∧ (∀ i, i < SetTable.below xs j → xs.toList.getD i 0 < j) ∧ ∀ i, SetTable.below xs j ≤ i → i < xs.size → j ≤ xs.toList.getD i 0 :=
  below_go xs j xs.size 0 xs.size (Nat.zero_le _) (Nat.le_refl _) (by omega) hr (fun i h => by omega) fun i h1 h2 => by omega
def TT (L : Bool) (t : SetTable) : Prop := t.led = L ∧ t.dummies = #[] ∧ Ris t.place.toList
theorem slot_dummy {L : Bool} {t : SetTable} (h : TT L t) (j : Nat) : t.slot j ≠ .dummy := by
  unfold SetTable.slot
  have : SetTable.has t.dummies j = false := by
    rw [h.2.1]; unfold SetTable.has; simp
  dsimp only
  split
  · simp
  · rw [this]; simp
theorem slot_empty {t : SetTable} {j : Nat} (h : t.slot j = .empty) : t.place[SetTable.below t.place j]? ≠ some j := fun e => by
  unfold SetTable.slot at h
  dsimp only at h
  rw [e] at h
  simp at h
theorem probe_go {L : Bool} {t : SetTable} (ht : TT L t) (hashAt : Nat → Int) (h : Int) : ∀ (fuel : Nat) (p : SetTable.Probe) (j : Nat) (d : Option Nat), p.dummy = none → SetTable.probe.go t hashAt h fuel p = some (.empty j d) → t.slot j = .empty ∧ d = none
  | 0, p, j, d, _, e => by unfold SetTable.probe.go at e; cases e
  | fuel + 1, p, j, d, hp, e => by
    unfold SetTable.probe.go at e
    cases q : t.slot p.j with
    | empty =>
      rw [q] at e
      simp only [Option.some.injEq, SetTable.Met.empty.injEq] at e
      obtain ⟨rfl, rfl⟩ := e
      exact ⟨q, hp⟩
    | dummy => exact absurd q (slot_dummy ht p.j)
    | live i =>
      rw [q] at e
      dsimp only at e
      split at e
      · cases e
      · refine probe_go ht hashAt h fuel _ j d ?_ e
        unfold SetTable.advance
        split
        · exact hp
        · exact hp
theorem free_slot {L : Bool} {t : SetTable} (ht : TT L t) {h : Int} {j : Nat} {b : Bool} (e : t.freeSlot h = some (j, b)) : t.slot j = .empty := by
  unfold SetTable.freeSlot at e
  split at e
  · rename_i j' d q
    unfold SetTable.probe at q
    obtain ⟨q1, q2⟩ := probe_go ht _ h _ _ j' d rfl q
    subst q2
    simp at e
    rw [← e.1]; exact q1
  · cases e
theorem insert_list {α : Type} (xs : Array α) (p : Nat) (x : α) (hp : p ≤ xs.size) : (SetTable.insertAt xs p x).toList = xs.toList.take p ++ x :: xs.toList.drop p := by
  unfold SetTable.insertAt
  simp [Array.toList_extract, List.extract]
  exact List.take_of_length_le (by simp)
theorem put_ris {L : Bool} {t : SetTable} (ht : TT L t) {j : Nat} (hj : t.slot j = .empty) : TT L (t.put j).1 := by
  obtain ⟨b1, b2, b3⟩ := below_ok ht.2.2 j
  have hne := slot_empty hj
  have hd : SetTable.has t.dummies j = false := by rw [ht.2.1]; unfold SetTable.has; simp
  refine ⟨ht.1, ?_, ?_⟩
  · show (if SetTable.has t.dummies j = true then _ else t.dummies) = #[]
    rw [hd]; simpa using ht.2.1
  · show Ris (SetTable.insertAt t.place (SetTable.below t.place j) j).toList
    rw [insert_list _ _ _ b1]
    generalize SetTable.below t.place j = p at *
    have hr := ht.2.2
    refine List.pairwise_append.mpr ⟨hr.sublist (List.take_sublist _ _), List.pairwise_cons.mpr ⟨fun y hy => ?_, hr.sublist (List.drop_sublist _ _)⟩, fun a ha y hy => ?_⟩
    · obtain ⟨i, hi, rfl⟩ := List.getElem_of_mem hy
      rw [List.getElem_drop]
      rw [List.length_drop] at hi
      have hs : p + i < t.place.size := by have := Array.length_toList (xs := t.place); omega
      have g := b3 (p + i) (by omega) hs
      have e : t.place.toList.getD (p + i) 0 = t.place.toList[p + i]'(by simpa using hs) := by simp [hs]
      rw [e] at g
      refine Nat.lt_of_le_of_ne g fun z => ?_
      by_cases i0 : i = 0
      · subst i0
        apply hne
        have : t.place[p]? = some (t.place.toList[p + 0]'(by simpa using hs)) := by
          have : p < t.place.size := by omega
          simp [this]
        rw [this, ← z]
      · have h2 := ris_get hr (i := p) (k := p + i) (by omega) (by simpa using hs)
        have h3 := b3 p (Nat.le_refl _) (by omega)
        rw [e] at h2
        omega
    · have ha' : a < j := by
        obtain ⟨i, hi, rfl⟩ := List.getElem_of_mem ha
        rw [List.getElem_take]
        rw [List.length_take] at hi
        have g := b2 i (by omega)
        have hi2 : i < t.place.size := by have := Array.length_toList (xs := t.place); omega
        simpa [hi2] using g
      rcases List.mem_cons.mp hy with rfl | hy
      · exact ha'
      · obtain ⟨i, hi, rfl⟩ := List.getElem_of_mem hy
        rw [List.getElem_drop]
        rw [List.length_drop] at hi
        have hs : p + i < t.place.size := by have := Array.length_toList (xs := t.place); omega
        have g := b3 (p + i) (by omega) hs
        have e : t.place.toList.getD (p + i) 0 = t.place.toList[p + i]'(by simpa using hs) := by simp [hs]
        rw [e] at g
        omega
theorem stand_ris {L : Bool} {t : SetTable} (ht : TT L t) (n : Nat) : TT L (t.standIn n) := ⟨ht.1, rfl, by
  show Ris (Array.range n).toList
  rw [Array.toList_range]; exact List.pairwise_lt_range⟩
theorem or_ris {L : Bool} {t : SetTable} (ht : TT L t) (n : Nat) : TT L (t.orStandIn n) := by
  unfold SetTable.orStandIn
  split
  · exact ht
  · exact stand_ris ht n
theorem lay_ris {L : Bool} {t : SetTable} (ht : TT L t) (es : Array (Int × Value)) (h : Int) (x : Value) : TT L (layNew t es h x).2.1 := by
  unfold layNew
  split
  · rename_i slot wd e
    exact or_ris (put_ris ht (free_slot ht e)) _
  · exact stand_ris ht _
theorem laid_ris {mask finger moves : Nat} {led plain : Bool} {hs : Array Int} {t : SetTable} {o : Array Nat} (e : SetTable.laid mask finger moves led plain hs = some (t, o)) : TT led t := by
  unfold SetTable.laid at e
  cases q : SetTable.layClean mask hs with
  | none => rw [q] at e; cases e
  | some owner =>
    rw [q] at e
    simp only [Option.bind_eq_bind, Option.bind_some, Option.pure_def, Option.some.injEq, Prod.mk.injEq] at e
    obtain ⟨rfl, _⟩ := e
    refine ⟨rfl, rfl, ?_⟩
    show Ris (((List.range (mask + 1)).filterMap fun j => (owner.getD j none).map (j, ·)).map (·.1)).toArray.toList
    show (((List.range (mask + 1)).filterMap fun j => (owner.getD j none).map (j, ·)).map (·.1)).Pairwise (· < ·)
    rw [List.pairwise_map]
    refine (List.Pairwise.filterMap (R := (· < ·)) _ (fun a a' haa b hb b' hb' => ?_) List.pairwise_lt_range)
    cases z : owner.getD a none with
    | none => rw [z] at hb; simp at hb
    | some k =>
      cases z' : owner.getD a' none with
      | none => rw [z'] at hb'; simp at hb'
      | some k' =>
        rw [z] at hb; rw [z'] at hb'
        simp at hb hb'
        subst hb; subst hb'
        exact haa
theorem relay_ris {L : Bool} {t : SetTable} (ht : TT L t) (es : Array (Int × Value)) (wanted : Nat) : TT L (relayAll t es wanted).2.1 := by
  unfold relayAll
  split
  · rename_i t' order e
    dsimp only
    split
    · unfold SetTable.relaid at e
      have := laid_ris e
      rw [ht.1] at this
      exact this
    · exact stand_ris ht _
  · exact stand_ris ht _
theorem off_ris {L : Bool} {t : SetTable} (ht : TT L t) : TT L { t with plain := false } := ht
end STW
set_option Elab.async false
set_option linter.all false
namespace STW
open PySem
section
variable {prog : Program} {w : World} {K : Type} [DecidableEq K] {knd : KeyKind prog w K} {A : Around} {E : Value → Shared → Prop} {s : Shared} {L : Bool} {a : Addr} {S : K → Bool} {n : Nat} {k : K} {x : Value}
def SetT (knd : KeyKind prog w K) (L : Bool) (h : Heap) (a : Addr) (S : K → Bool) (n : Nat) : Prop :=
  ∃ o es ep t, h.get? a = some o ∧ o.ExactSet ∧ o.data = .set es ep t ∧ ElemsOf knd es.toList ∧ (∀ k, S k = true ↔ ∃ e ∈ es.toList, knd.is k e.2 = true) ∧ es.size < scanBound ∧ t.fits es.size = true ∧ es.size = n ∧ TT L t
theorem SetT.at {h h' : Heap} (q : SetT knd L h a S n) (k : ∀ o, h.get? a = some o → h'.get? a = some o) : SetT knd L h' a S n := by
  obtain ⟨o, es, ep, t, ho, r⟩ := q; exact ⟨o, es, ep, t, k _ ho, r⟩
theorem SetT.congr {h : Heap} {S' : K → Bool} {n' : Nat} (q : SetT knd L h a S n) (e : ∀ k, S k = S' k) (en : n = n') : SetT knd L h a S' n' := by
  have : S = S' := funext e
  subst this; subst en; exact q
theorem stored {h : Heap} {o : Obj} {es : Array (Int × Value)} {ep : Nat} {t : SetTable} (ho : h.get? a = some o) (hx : o.ExactSet) (hd : o.data = .set es ep t) {es' : Array (Int × Value)} {t' : SetTable} {S' : K → Bool} (p1 : ElemsOf knd es'.toList)
    (p2 : ∀ k, S' k = true ↔ ∃ e ∈ es'.toList, knd.is k e.2 = true) (p3 : es'.size < scanBound) (p4 : t'.fits es'.size = true) (p5 : TT L t') :
    (h.update a (Obj.putSet es' t')).get? a = some { o with data := .set es' (ep + 1) t' } ∧ SetT knd L (h.update a (Obj.putSet es' t')) a S' es'.size := by
  obtain ⟨g, _⟩ := SetOf_store (knd := knd) ho hx hd p1 p2 p3 p4
  exact ⟨g, _, es', ep + 1, t', g, hx, rfl, p1, p2, p3, p4, rfl, p5⟩
theorem addEnd {g : Bool → Sem Unit} (hg : ∀ (b : Bool) (s1 : Shared) (Q : Unit → Shared → Prop), Q () s1 → wpAny (model prog w) A (g b) Q E s1) {o : Obj} {es : Array (Int × Value)} {ep : Nat} {t : SetTable} (ho : s.heap.get? a = some o) (hx : o.ExactSet) (hd : o.data = .set es ep t)
    {es1 : Array (Int × Value)} {t2 : SetTable} {S' : K → Bool} (p1 : ElemsOf knd es1.toList) (p2 : ∀ k, S' k = true ↔ ∃ e ∈ es1.toList, knd.is k e.2 = true) (p3 : es1.size < scanBound) (p4 : t2.fits es1.size = true) (p5 : TT L t2) {wasDummy : Bool} {R : Option Bool → Shared → Prop}
    (q : ∀ h', Heap.SameBut a s.heap h' → SetT knd L h' a S' es1.size → R (some true) { s with heap := h' }) :
    wpAny (model prog w) A (do
        storeSet a es1 t2
        if (!wasDummy && t2.tooFull) = true then do
            g (relayAll t2 es1 (SetTable.grown es1.size)).2.2
            storeSet a (relayAll t2 es1 (SetTable.grown es1.size)).1 (relayAll t2 es1 (SetTable.grown es1.size)).2.1
            pure (some true)
          else pure (some true)) R E s := by
  obtain ⟨g1, g2⟩ := stored (knd := knd) ho hx hd p1 p2 p3 p4 p5
  have sb := Heap.SameBut.update s.heap a (Obj.putSet es1 t2)
  refine wpAny_bind (wpAny_storeSet_of ho hd ?_ (fits_of_scanBound p3))
  split
  · have r1 := relayAll_perm t2 es1 (SetTable.grown es1.size); have r2 := relayAll_fits t2 es1 (SetTable.grown es1.size); have r3 := relay_ris p5 es1 (SetTable.grown es1.size)
    generalize relayAll t2 es1 (SetTable.grown es1.size) = Z at r1 r2 r3 ⊢
    obtain ⟨es2, t3, gv⟩ := Z
    dsimp only at r1 r2 r3 ⊢
    have z : es2.size = es1.size := by rw [← Array.length_toList, r1.length_eq, Array.length_toList]
    have p3' : es2.size < scanBound := by omega
    refine wpAny_bind (hg _ _ _ (wpAny_bind (wpAny_storeSet_of g1 rfl ?_ (fits_of_scanBound p3'))))
    obtain ⟨_, u⟩ := stored (knd := knd) (L := L) g1 hx rfl (p1.perm r1) (fun k' => (p2 k').trans ⟨fun ⟨e, he, y⟩ => ⟨e, r1.mem_iff.mpr he, y⟩, fun ⟨e, he, y⟩ => ⟨e, r1.mem_iff.mp he, y⟩⟩) p3' r2 r3
    rw [z] at u
    exact wpAny_pure (q _ (sb.trans (Heap.SameBut.update _ a _)) u)
  · exact wpAny_pure (q _ sb g2)
theorem addOk {Q : Bool → Shared → Prop} (hkey : knd.is k x = true) (hsc : x.scannable = true) (hS : SetT knd L s.heap a S n) (hroom : n + 1 < scanBound)
    (q : ∀ h', Heap.SameBut a s.heap h' → SetT knd L h' a (fun k' => S k' || decide (k' = k)) (if S k then n else n + 1) → Q (!S k) { s with heap := h' }) : wpAny (model prog w) A (setAddHashed a x (knd.hash k)) Q E s := by
  obtain ⟨o, es, ep, t, ho, hx, hd, hel, hmem, hb, hf, hn, hT⟩ := hS
  have hb1 : es.size + 1 < scanBound := by omega
  unfold setAddHashed setAddHashedIn; refine wpAny_holding (wpAny_bind (wpAny_setState_of ho hd hf ?_))
  dsimp only; rw [byScan_of hsc hb hel]; simp only [↓reduceIte]; unfold setAddByScan
  refine wpAny_bind (wpAny_bind (wpAny_rule (wpAny_bind (wpAny_setScan_of hkey ho hd hf hel ?_))))
  cases hr : List.findIdx? (fun e => knd.is k e.2) es.toList with
  | some j =>
    obtain ⟨hj, hpj, _⟩ := List.findIdx?_eq_some_iff_getElem.mp hr
    have hSk : S k = true := (hmem k).mpr ⟨es.toList[j], List.getElem_mem hj, hpj⟩
    have u := q s.heap (Heap.SameBut.refl a s.heap) ⟨o, es, ep, t, ho, hx, hd, hel, fun k' => by
      rw [Bool.or_eq_true, decide_eq_true_eq, ← hmem k']; exact ⟨fun z => z.elim id (fun e => e ▸ hSk), .inl⟩, hb, hf, by rw [hSk]; exact hn, hT⟩
    rw [hSk] at u
    dsimp only
    exact wpAny_pure (wpAny_pure u)
  | none =>
    have hSk : S k = false := by
      cases hk : S k with
      | false => rfl
      | true => obtain ⟨e, he, hp⟩ := (hmem k).mp hk; have := List.findIdx?_eq_none_iff.mp hr e he; rw [hp] at this; cases this
    have gw : ∀ (b : Bool) (s1 : Shared) (Q' : Unit → Shared → Prop), Q' () s1 → wpAny (model prog w) A (match b with | true => rule "set.scan.the-table-gave-way" | false => pure ()) Q' E s1 := fun b s1 Q' hq => by
      cases b <;> first | exact wpAny_pure hq | exact wpAny_rule hq
    have l1 := layNew_perm t es (knd.hash k) x; have l2 := layNew_fits t es (knd.hash k) x; have l3 := lay_ris hT es (knd.hash k) x
    dsimp only
    generalize layNew t es (knd.hash k) x = Z at l1 l2 l3 ⊢
    obtain ⟨es1, t1, wd, gv⟩ := Z
    dsimp only at l1 l2 l3 ⊢
    rw [Array.toList_push] at l1
    have p1 : ElemsOf knd es1.toList := (hel.push hkey hsc).perm l1
    have p2 : ∀ k', (S k' || decide (k' = k)) = true ↔ ∃ e ∈ es1.toList, knd.is k' e.2 = true := mem_push_iff hkey hmem l1
    have z1 : es1.size = n + 1 := by rw [← Array.length_toList, l1.length_eq, List.length_append, Array.length_toList, hn]; rfl
    have p3 : es1.size < scanBound := by omega
    have fin : ∀ h', Heap.SameBut a s.heap h' → SetT knd L h' a (fun k' => S k' || decide (k' = k)) es1.size → Q true { s with heap := h' } := fun h' sb u => by
      have v := q h' sb; rw [hSk] at v; rw [z1] at u; exact v u
    refine wpAny_bind (gw _ _ _ ?_)
    split
    · refine wpAny_bind ?_
      rw [hashByValue_scannable 8 hsc]
      refine wpAny_pure (addEnd (L := L) gw ho hx hd p1 p2 p3 ?_ ?_ fun h' sb u => wpAny_pure (fin h' sb u))
      · split
        · exact l2
        · exact SetTable.fits_plain_off l2
      · split
        · exact l3
        · exact off_ris l3
    · refine wpAny_bind (wpAny_pure ?_)
      simp only [↓reduceIte]
      exact addEnd (L := L) gw ho hx hd p1 p2 p3 l2 l3 fun h' sb u => wpAny_pure (fin h' sb u)
end
end STW
set_option Elab.async false
set_option linter.all false
namespace STW
open PySem PyProof.Rows
section
variable {prog : Program} {w : World} {A : Around} {R : Result → Shared → Prop} {I : Addr} {fp wr : List Addr} {G : Array GenState → Array GenState → Prop} {n : Nat} {P : Nat → Value → Prop} {St : Nat → Shared → Prop} {L : Bool}
end
def ledOf (w : World) : Bool := !w.params.followText "set-order"
section
variable {prog : Program} {w : World} {A : Around} {E : Value → Shared → Prop} {s : Shared}
theorem newT (a : Value) {Q₁ : Value → Shared → Prop}
    (h : Q₁ (.ref s.heap.objs.size) { s with heap := s.heap.push { cls := .type "set", dict := none, data := .set #[] 0 (.fresh 0 0 (ledOf w)) } }) :
    codeAny (model prog w) A (.call (.builtin "set.__new__") ⟨[.type "set", a], []⟩) (wants Q₁ E) s := by
  refine codeAny_of_tree ?_
  show wpAny _ A.in1 (do checkBuiltinCall "set.__new__" ⟨[.type "set", a], []⟩; again (.builtin "set.__new__" ⟨[.type "set", a], []⟩)) _ _ s
  refine wpAny_bind (wpAny_of_eq (PySem.F.newCall_set_1 a) (wpAny_pure ⟨plainId_quiet PySem.F.plain_set_new _, codeAny_builtin PySem.F.entry_set_new ?_⟩))
  rw [Around.under_plainId PySem.F.plain_set_new _]; unfold Builtin.«set.__new__» Builtin.Frozenset.newClass; have hsub := sub_set_self
  obtain ⟨hp, g, d, tk, os⟩ := s; dsimp only
  wp_walk
  refine wpAny_askSetting (wpAny_pure ?_); dsimp only; simp only [newObj]
  exact wpAny_bind (wpAny_alloc (wpAny_pure (wpAny_pure h)))
end
end STW
set_option Elab.async false
set_option linter.all false
namespace STW
open PySem PyProof.Rows
section
variable {prog : Program} {w : World} {A : Around} {E : Value → Shared → Prop} {s : Shared}
abbrev fm (ns : List Int) (n : Nat) : List Int := firstMet (fun i => ns.getD i 0) n
abbrev fresh0 (b : Bool) : Obj := { cls := .type "set", dict := none, data := .set #[] 0 (.fresh 0 0 b) }
end
end STW
set_option Elab.async false
set_option linter.all false
set_option maxRecDepth 100000
namespace STW
open PySem PyProof.Rows
namespace FS
theorem slot_next : Slot "set_iterator" "__next__" "set_iterator.__next__" := .of (owner := "set_iterator") (n := "__next__") (by rw [typeLookup_type, builtinLookup_eq_fast]; kernel_rfl) (by decide +kernel) (by decide +kernel) (by decide +kernel) (by first | exact .inl (by decide +kernel) | exact .inr (by decide +kernel)) (by rw [isSubtype_type]; kernel_rfl)
theorem slot_self : Slot "set_iterator" "__iter__" "set_iterator.__iter__" := .of (owner := "set_iterator") (n := "__iter__") (by rw [typeLookup_type, builtinLookup_eq_fast]; kernel_rfl) (by decide +kernel) (by decide +kernel) (by decide +kernel) (by first | exact .inl (by decide +kernel) | exact .inr (by decide +kernel)) (by rw [isSubtype_type]; kernel_rfl)
theorem entry_next : entryFor table "set_iterator.__next__" = some Builtin.«set_iterator.__next__» := entryFor_of_fast (by kernel_rfl)
theorem entry_self : entryFor table "set_iterator.__iter__" = some Builtin.«dict_keyiterator.__iter__» := entryFor_alias (id' := "dict_keyiterator.__iter__") (by kernel_rfl) rfl (by decide +kernel) (by kernel_rfl)
theorem entry_iter : entryFor table "set.__iter__" = some Builtin.«frozenset.__iter__» := entryFor_alias (id' := "frozenset.__iter__") (by kernel_rfl) rfl (by decide +kernel) (by kernel_rfl)
theorem args_next (a : Value) : argsOk "set_iterator.__next__" ⟨[a], []⟩ := by unfold argsOk; kernel_rfl
theorem args_self (a : Value) : argsOk "set_iterator.__iter__" ⟨[a], []⟩ := by unfold argsOk; kernel_rfl
end FS
section
variable {prog : Program} {w : World} {A : Around} {E : Value → Shared → Prop} {s : Shared}
structure SetAt (h : Heap) (a : Addr) (es : Array (Int × Value)) (ep : Nat) (t : SetTable) : Prop where
  ex : ∃ o, h.get? a = some o ∧ o.ExactSet ∧ o.data = .set es ep t
  fit : t.fits es.size = true
theorem SetAt.at {h h' : Heap} {a : Addr} {es : Array (Int × Value)} {ep : Nat} {t : SetTable} (q : SetAt h a es ep t) (k : ∀ o, h.get? a = some o → h'.get? a = some o) : SetAt h' a es ep t := by
  obtain ⟨⟨o, h1, h2⟩, f⟩ := q; exact ⟨⟨o, k o h1, h2⟩, f⟩
end
end STW
set_option Elab.async false
set_option linter.all false
set_option maxRecDepth 100000
namespace STW
open PySem PyProof.Rows
section
variable {prog : Program} {w : World} {A : Around} {E : Value → Shared → Prop} {s : Shared} {I a : Addr} {es : Array (Int × Value)} {ep : Nat} {t : SetTable} {Q : Option Value → Shared → Prop}
abbrev itObj (f : Value) (i : Nat) (z : Value) (n ep : Nat) : Obj := { cls := .type "set_iterator", dict := none, data := .fields #[f, .int i 0, z, .int n 0, .int ep 0], slots := #[] }
theorem itTy {f z : Value} {i n : Nat} (h : s.heap.get? I = some (itObj f i z n ep)) : s.TypeIs (.ref I) "set_iterator" := ⟨_, h, rfl⟩
theorem nextInt {sl i nx : Nat} {x : Value} (hit : s.heap.get? I = some (itObj (.int sl 0) i (.ref a) es.size ep)) (hS : SetAt s.heap a es ep t) (hnx : ∀ (A' : Around) (Q' : Option (Value × Nat) → Shared → Prop) (E' : Value → Shared → Prop), Q' (some (x, nx)) s → wpAny (model prog w) A' (setNext a sl i ep) Q' E' s)
    (hQ : ∀ h', h'.get? I = some (itObj (.int nx 0) (i + 1) (.ref a) es.size ep) → Heap.SameBut I s.heap h' → Q (some x) { s with heap := h' }) : wpAny (model prog w) A (pyNext (.ref I)) Q E s := by
  obtain ⟨⟨o, ho, _, hd⟩, hf⟩ := hS
  unfold pyNext
  refine wpAny_bind (wpAny_attempt (wpAny_callSpecial?_slot (name := Str.ofString "__next__") (itTy hit) FS.slot_next (wpAny_call_entry FS.slot_next (itTy hit) FS.entry_next ?_ (FS.args_next _))))
  show wpAny _ _ (fieldsOf (.ref I) >>= _) _ _ s
  refine wpAny_bind (wpAny_fieldsOf hit rfl ?_)
  show wpAny _ _ (setEntries a >>= _) _ _ s
  refine wpAny_bind (wpAny_setEntries_of ho hd hf ?_)
  rw [if_neg (by simp)]
  show wpAny _ _ (setNext a (sl : Int).toNat (i : Int).toNat (ep : Int).toNat >>= _) _ _ s
  simp only [Int.toNat_natCast]
  refine wpAny_bind (hnx _ _ _ ?_)
  refine wpAny_bind (wpAny_setField_rec hit (by simp) fun h1 g1 b1 => wpAny_bind (wpAny_setField_rec g1 (by simp) fun h2 g2 b2 => ?_))
  exact wpAny_pure ⟨x, rfl, wpAny_pure (hQ h2 g2 (b1.trans b2))⟩
theorem endInt {sl i : Nat} (hh : A.handled = none) (hit : s.heap.get? I = some (itObj (.int sl 0) i (.ref a) es.size ep)) (hS : SetAt s.heap a es ep t) (hnx : ∀ (A' : Around) (Q' : Option (Value × Nat) → Shared → Prop) (E' : Value → Shared → Prop), Q' none s → wpAny (model prog w) A' (setNext a sl i ep) Q' E' s)
    (hQ : ∀ h', (∀ b o, b ≠ I → s.heap.get? b = some o → h'.get? b = some o) → Q none { s with heap := h' }) : wpAny (model prog w) A (pyNext (.ref I)) Q E s := by
  obtain ⟨⟨o, ho, _, hd⟩, hf⟩ := hS
  unfold pyNext
  refine wpAny_bind (wpAny_attempt (wpAny_callSpecial?_slot (name := Str.ofString "__next__") (itTy hit) FS.slot_next (wpAny_call_entry FS.slot_next (itTy hit) FS.entry_next ?_ (FS.args_next _))))
  show wpAny _ _ (fieldsOf (.ref I) >>= _) _ _ s
  refine wpAny_bind (wpAny_fieldsOf hit rfl ?_)
  show wpAny _ _ (setEntries a >>= _) _ _ s
  refine wpAny_bind (wpAny_setEntries_of ho hd hf ?_)
  rw [if_neg (by simp)]
  show wpAny _ _ (setNext a (sl : Int).toNat (i : Int).toNat (ep : Int).toNat >>= _) _ _ s
  simp only [Int.toNat_natCast]
  refine wpAny_bind (hnx _ _ _ (wpAny_bind (wpAny_setField_rec hit (by simp) fun h1 g1 b1 => wpAny_bind ?_)))
  simp only [newExc, newTuple]; refine wpAny_bind (wpAny_newObj_type ?_ (by size_fits))
  refine wpAny_bind (m := firstArgMember _ _) (wpAny_of_eq (a := Value.none) (by first | rfl | (simp only [firstArgMember]; rfl)) (wpAny_newObj_type ?_ (by size_fits)))
  simp only [raiseNew]; refine wpAny_bind (wpAny_handled ?_)
  rw [show A.in1.handled = none from hh]; refine wpAny_bind (wpAny_pure (wpAny_throw ?_))
  refine wpAny_bind (wpAny_isInstance (T := "StopIteration") (b := true) ⟨_, Heap.get?_push_size _ rfl, rfl⟩ isSubtype_stop (wpAny_pure (hQ _ fun b o n e => ?_)))
  exact Heap.get?_push_of_some _ (Heap.get?_push_of_some _ (by rw [b1.2 b n]; exact e))
theorem walkInt (hh : A.handled = none) (hne : a ≠ I) (ord : List Value) (hl : ord.length = es.size) (fst : Nat → Nat)
    (hnx : ∀ (i : Nat) (s' : Shared) (A' : Around) (Q' : Option (Value × Nat) → Shared → Prop) (E' : Value → Shared → Prop), i ≤ es.size → SetAt s'.heap a es ep t → Q' ((ord[i]?).map fun x => (x, fst (i + 1))) s' → wpAny (model prog w) A' (setNext a (fst i) i ep) Q' E' s') :
    Walks prog w A I [I, a] [I] es.size (fun i v => ord[i]? = some v) (fun i h => h.get? I = some (itObj (.int (fst i) 0) i (.ref a) es.size ep) ∧ SetAt h a es ep t) where
  sub := fun b hb => by simp at hb; simp [hb]
  frame := fun _ _ _ st hk => ⟨hk I (by simp) _ st.1, st.2.at fun o e => hk a (by simp) o e⟩
  item := fun i s Q E hi st hQ => by
    have e : ord[i]? = some ord[i] := by simp [hl, hi]
    refine nextInt (x := ord[i]) (nx := fst (i + 1)) st.1 st.2 (fun A' Q' E' q => hnx i s A' Q' E' (by omega) st.2 (by rw [e]; exact q)) fun h' g b => ?_
    exact hQ _ h' s.toks e ⟨g, st.2.at fun o z => by rw [b.2 a hne]; exact z⟩ fun b' o hb z => by rw [b.2 b' (fun y => hb (by simp [y]))]; exact z
  done := fun s Q E st hQ => by
    have e : ord[es.size]? = none := by simp [hl]
    exact endInt hh st.1 st.2 (fun A' Q' E' q => hnx es.size s A' Q' E' (Nat.le_refl _) st.2 (by rw [e]; exact q)) fun h' k => hQ h' s.toks fun b o hb z => k b o (fun y => hb (by simp [y])) z
  self := fun i s Q E st hQ => by
    refine wpAny_pyIter_slot (itTy st.1) FS.slot_self (wpAny_call_entry FS.slot_self (itTy st.1) FS.entry_self ?_ (FS.args_self _))
    show wpAny _ _ (ret (.ref I)) _ _ s
    exact wpAny_pure ⟨_, rfl, "set_iterator", _, itTy st.1, FS.slot_next.lookup, hQ⟩
end
end STW
set_option Elab.async false
set_option linter.all false
set_option maxRecDepth 100000
namespace STW
open PySem PyProof.Rows
theorem erase_perm {α : Type} : ∀ (l : List α) (i : Nat) (h : i < l.length), (l[i] :: l.eraseIdx i).Perm l
  | [], i, h => by simp at h
  | a :: l, 0, h => by simp
  | a :: l, i + 1, h => by
    have ih := erase_perm l i (by simpa using h)
    rw [List.eraseIdx_cons_succ, List.getElem_cons_succ]
    exact (List.Perm.swap a _ _).trans (ih.cons a)
theorem pick_go {α : Type} (next : Nat → Nat) : ∀ (fuel k : Nat) (left : List α) (out : Array α), left.length ≤ fuel → (pickOrder.go next fuel k left out).toList.Perm (out.toList ++ left)
  | 0, k, left, out, h => by
    have : left = [] := List.eq_nil_of_length_eq_zero (by omega)
    subst this
    unfold pickOrder.go; simp
  | fuel + 1, k, left, out, h => by
    unfold pickOrder.go
    cases q : left[next k % left.length]? with
    | none =>
      have : left = [] := by
        cases left with
        | nil => rfl
        | cons a l =>
          have hlt : next k % (a :: l).length < (a :: l).length := Nat.mod_lt _ (by simp)
          rw [List.getElem?_eq_getElem hlt] at q; cases q
      subst this
      simp
    | some x =>
      have hlt : next k % left.length < left.length := (List.getElem?_eq_some_iff.mp q).1
      refine (pick_go next fuel (k + 1) _ _ (by rw [List.length_eraseIdx_of_lt hlt]; omega)).trans ?_
      rw [Array.toList_push, List.append_assoc]
      refine List.Perm.append_left _ ?_
      have hx : left[next k % left.length] = x := (List.getElem?_eq_some_iff.mp q).2
      show (x :: left.eraseIdx (next k % left.length)).Perm left
      rw [← hx]
      exact erase_perm _ _ hlt
theorem pick_perm {α : Type} (next : Nat → Nat) (xs : Array α) : (pickOrder next xs).toList.Perm xs.toList := by
  unfold pickOrder
  have := pick_go next xs.size 0 xs.toList #[] (by simp)
  simpa using this
section
variable {prog : Program} {w : World} {A : Around} {E : Value → Shared → Prop} {s : Shared} {I a : Addr} {es : Array (Int × Value)} {ep : Nat} {t : SetTable}
theorem chooseOk {src : Source} {n : Nat} {Q : Nat → Shared → Prop} (hn : n ≠ 0) (h : ∀ i d', i < n → Q i { s with drawn := d' }) : wpAny (model prog w) A (choose src n) Q E s :=
  fun Γ p hΓ => ⟨hn, h _ _ (Nat.mod_lt _ (Nat.pos_of_ne_zero hn))⟩
theorem drawOk {α : Type} : ∀ (n : Nat) (xs : List α) (s : Shared) (Q : List α → Shared → Prop), xs.length = n → (∀ l d', l.Perm xs → Q l { s with drawn := d' }) → wpAny (model prog w) A (drawOrder n xs) Q E s
  | 0, xs, s, Q, h, q => by
    have : xs = [] := List.eq_nil_of_length_eq_zero h
    subst this
    unfold drawOrder
    exact wpAny_pure (q [] s.drawn (List.Perm.refl _))
  | n + 1, [], s, Q, h, q => by simp at h
  | n + 1, x :: xs, s, Q, h, q => by
    unfold drawOrder
    refine wpAny_bind (chooseOk (by simp) fun i d' hi => ?_)
    have e : (x :: xs)[i]? = some (x :: xs)[i] := List.getElem?_eq_getElem hi
    rw [e]
    refine wpAny_bind (drawOk n _ _ _ (by rw [List.length_eraseIdx_of_lt hi]; omega) fun l d'' hp => ?_)
    exact wpAny_pure (q _ d'' ((hp.cons _).trans (erase_perm _ _ hi)))
theorem nxText (hb : w.params.followText "set-order" = true) (i : Nat) (s' : Shared) (A' : Around) (Q' : Option (Value × Nat) → Shared → Prop) (E' : Value → Shared → Prop) (hS : SetAt s'.heap a es ep t)
    (q : Q' ((((pickOrder (w.params.setOrder a ep) es).toList.map (·.2))[i]?).map fun x => (x, 0)) s') : wpAny (model prog w) A' (setNext a 0 i ep) Q' E' s' := by
  obtain ⟨⟨o, ho, _, hd⟩, hf⟩ := hS
  unfold setNext setsByText
  refine wpAny_bind (wpAny_setState_of ho hd hf ?_)
  refine wpAny_bind (wpAny_bind (wpAny_askSetting (wpAny_pure ?_)))
  show wpAny _ _ (if w.params.followText "set-order" = true then _ else _) _ _ _
  rw [if_pos hb, if_neg (by simp)]
  unfold setWalk setsByText
  refine wpAny_bind (wpAny_bind (wpAny_setState_of ho hd hf ?_))
  refine wpAny_bind (wpAny_bind (wpAny_askSetting (wpAny_pure ?_)))
  show wpAny _ _ (if w.params.followText "set-order" = true then _ else _) _ _ _
  rw [if_pos hb]
  refine wpAny_bind (wpAny_askSetting (wpAny_pure (wpAny_pure ?_)))
  have e : ((pickOrder (w.params.setOrder a ep) es)[i]?).map (fun e => (e.2, 0)) = (((pickOrder (w.params.setOrder a ep) es).toList.map (·.2))[i]?).map fun x => (x, 0) := by
    rw [List.getElem?_map, Option.map_map, Array.getElem?_toList]; rfl
  rw [← e] at q
  exact q
def fstOf (t : SetTable) (i : Nat) : Nat := if i = 0 then 0 else t.place.toList.getD (i - 1) 0 + 1
theorem fst_below {L : Bool} (hT : TT L t) (i : Nat) (hi : i ≤ t.place.size) : SetTable.below t.place (fstOf t i) = i := by
  obtain ⟨b1, b2, b3⟩ := below_ok hT.2.2 (fstOf t i)
  generalize SetTable.below t.place (fstOf t i) = p at *
  unfold fstOf at b2 b3
  by_cases z : i = 0
  · rw [if_pos z] at b2
    rcases Nat.eq_zero_or_pos p with y | y
    · omega
    · have := b2 0 y; omega
  · rw [if_neg z] at b2 b3
    rcases Nat.lt_trichotomy p i with y | y | y
    · have := b3 (i - 1) (by omega) (by omega); omega
    · exact y
    · have h1 := b2 i y
      have h2 := ris_get hT.2.2 (i := i - 1) (k := i) (by omega) (by have := Array.length_toList (xs := t.place); omega)
      omega
theorem nxPlace (hb : w.params.followText "set-order" = false) (hT : TT (ledOf w) t) (hnd : (!t.plain && decide (es.size > 1)) = false) (i : Nat) (s' : Shared) (A' : Around) (Q' : Option (Value × Nat) → Shared → Prop) (E' : Value → Shared → Prop) (hi : i ≤ es.size) (hS : SetAt s'.heap a es ep t)
    (q : Q' (((es.toList.map (·.2))[i]?).map fun x => (x, fstOf t (i + 1))) s') : wpAny (model prog w) A' (setNext a (fstOf t i) i ep) Q' E' s' := by
  obtain ⟨⟨o, ho, _, hd⟩, hf⟩ := hS
  have hsz : t.place.size = es.size := by
    unfold SetTable.fits at hf
    simp at hf; exact hf.1
  have hled : t.led = true := by rw [hT.1]; unfold ledOf; rw [hb]; rfl
  unfold setNext setsByText
  refine wpAny_bind (wpAny_setState_of ho hd hf ?_)
  refine wpAny_bind (wpAny_bind (wpAny_askSetting (wpAny_pure ?_)))
  show wpAny _ _ (if w.params.followText "set-order" = true then _ else _) _ _ _
  rw [if_neg (by rw [hb]; simp)]
  show wpAny _ _ (if (!t.plain && decide (es.size > 1)) = true then _ else _) _ _ _
  rw [if_neg (by rw [hnd]; simp)]
  show wpAny _ _ ((if (!t.led && !es.isEmpty) = true then unsupported "set:maker-not-led" else pure ()) >>= _) _ _ _
  rw [if_neg (by rw [hled]; simp)]
  refine wpAny_bind (wpAny_pure ?_)
  show wpAny _ _ (pure (match es[SetTable.below t.place (fstOf t i)]?, t.place[SetTable.below t.place (fstOf t i)]? with | some (_, x), some j => some (x, j + 1) | _, _ => none)) _ _ _
  rw [fst_below hT i (by omega)]
  by_cases z : i < es.size
  · have e1 : es[i]? = some es[i] := by simp [z]
    have e2 : t.place[i]? = some (t.place.toList.getD i 0) := by
      have : i < t.place.size := by omega
      simp [this]
    rw [e1, e2]
    have e3 : ((es.toList.map (·.2))[i]?).map (fun x => (x, fstOf t (i + 1))) = some (es[i].2, t.place.toList.getD i 0 + 1) := by
      rw [List.getElem?_map, Array.getElem?_toList, e1]
      simp [fstOf]
    rw [e3] at q
    exact wpAny_pure q
  · have e1 : es[i]? = none := by simp; omega
    rw [e1]
    have e3 : ((es.toList.map (·.2))[i]?).map (fun x => (x, fstOf t (i + 1))) = none := by
      rw [List.getElem?_map, Array.getElem?_toList, e1]; rfl
    rw [e3] at q
    exact wpAny_pure q
end
end STW
set_option Elab.async false
set_option linter.all false
set_option maxRecDepth 100000
namespace STW
open PySem PyProof.Rows
section
variable {prog : Program} {w : World} {A : Around} {E : Value → Shared → Prop} {s : Shared} {I a T : Addr} {es : Array (Int × Value)} {ep : Nat} {t : SetTable} {Q : Option Value → Shared → Prop}
abbrev plObj (pl : List Nat) : Obj := { cls := .type "tuple", dict := none, data := .seq (pl.map fun (i : Nat) => rawInt i).toArray 0, slots := #[] }
theorem pl_at {pl : List Nat} {i : Nat} : (pl.map fun (i : Nat) => rawInt i).toArray[i]? = (pl[i]?).map fun (p : Nat) => rawInt p := by
  rw [List.getElem?_toArray, List.getElem?_map]
theorem drawnNext {x : Value} {p i : Nat} (hS : SetAt s.heap a es ep t) (hx : (es.toList.map (·.2))[p]? = some x) {Q : Value → Shared → Prop} (q : Q x s) : wpAny (model prog w) A (setNextDrawn a p ep) Q E s := by
  obtain ⟨⟨o, ho, _, hd⟩, hf⟩ := hS
  unfold setNextDrawn
  refine wpAny_bind (wpAny_setState_of ho hd hf ?_)
  dsimp only
  rw [if_neg (by simp)]
  rw [List.getElem?_map, Array.getElem?_toList] at hx
  cases z : es[p]? with
  | none => rw [z] at hx; cases hx
  | some y => rw [z] at hx; cases hx; exact wpAny_pure q
theorem nextTup {pl : List Nat} {i p : Nat} {x : Value} (hit : s.heap.get? I = some (itObj (.ref T) i (.ref a) es.size ep)) (hT : s.heap.get? T = some (plObj pl)) (hS : SetAt s.heap a es ep t) (hp : pl[i]? = some p) (hx : (es.toList.map (·.2))[p]? = some x)
    (hQ : ∀ h', h'.get? I = some (itObj (.ref T) (i + 1) (.ref a) es.size ep) → Heap.SameBut I s.heap h' → Q (some x) { s with heap := h' }) : wpAny (model prog w) A (pyNext (.ref I)) Q E s := by
  obtain ⟨⟨o, ho, _, hd⟩, hf⟩ := id hS
  unfold pyNext
  refine wpAny_bind (wpAny_attempt (wpAny_callSpecial?_slot (name := Str.ofString "__next__") (itTy hit) FS.slot_next (wpAny_call_entry FS.slot_next (itTy hit) FS.entry_next ?_ (FS.args_next _))))
  show wpAny _ _ (fieldsOf (.ref I) >>= _) _ _ s
  refine wpAny_bind (wpAny_fieldsOf hit rfl ?_)
  show wpAny _ _ (setEntries a >>= _) _ _ s
  refine wpAny_bind (wpAny_setEntries_of ho hd hf ?_)
  rw [if_neg (by simp)]
  show wpAny _ _ (seqItems? (.ref T) >>= _) _ _ s
  refine wpAny_bind (wpAny_seqItems hT rfl ?_)
  show wpAny _ _ (match (pl.map fun (i : Nat) => rawInt i).toArray[(i : Int).toNat]? with | some (.int place _) => _ | some _ => _ | none => _) _ _ s
  rw [Int.toNat_natCast, pl_at, hp]
  show wpAny _ _ (setNextDrawn a (p : Int).toNat (ep : Int).toNat >>= _) _ _ s
  rw [Int.toNat_natCast, Int.toNat_natCast]
  refine wpAny_bind (drawnNext (i := i) hS hx (wpAny_bind (wpAny_setField_rec hit (by simp) fun h1 g1 b1 => ?_)))
  exact wpAny_pure ⟨x, rfl, wpAny_pure (hQ h1 g1 b1)⟩
theorem endTup {pl : List Nat} {i : Nat} (hh : A.handled = none) (hit : s.heap.get? I = some (itObj (.ref T) i (.ref a) es.size ep)) (hT : s.heap.get? T = some (plObj pl)) (hS : SetAt s.heap a es ep t) (hp : pl[i]? = none)
    (hQ : ∀ h', (∀ b o, b ≠ I → s.heap.get? b = some o → h'.get? b = some o) → Q none { s with heap := h' }) : wpAny (model prog w) A (pyNext (.ref I)) Q E s := by
  obtain ⟨⟨o, ho, _, hd⟩, hf⟩ := id hS
  unfold pyNext
  refine wpAny_bind (wpAny_attempt (wpAny_callSpecial?_slot (name := Str.ofString "__next__") (itTy hit) FS.slot_next (wpAny_call_entry FS.slot_next (itTy hit) FS.entry_next ?_ (FS.args_next _))))
  show wpAny _ _ (fieldsOf (.ref I) >>= _) _ _ s
  refine wpAny_bind (wpAny_fieldsOf hit rfl ?_)
  show wpAny _ _ (setEntries a >>= _) _ _ s
  refine wpAny_bind (wpAny_setEntries_of ho hd hf ?_)
  rw [if_neg (by simp)]
  show wpAny _ _ (seqItems? (.ref T) >>= _) _ _ s
  refine wpAny_bind (wpAny_seqItems hT rfl ?_)
  show wpAny _ _ (match (pl.map fun (i : Nat) => rawInt i).toArray[(i : Int).toNat]? with | some (.int place _) => _ | some _ => _ | none => _) _ _ s
  rw [Int.toNat_natCast, pl_at, hp]
  refine wpAny_bind (wpAny_setField_rec hit (by simp) fun h0 g0 b0 => wpAny_bind (wpAny_setField_rec g0 (by simp) fun h1 g1 b1 => wpAny_bind ?_))
  simp only [newExc, newTuple]; refine wpAny_bind (wpAny_newObj_type ?_ (by size_fits))
  refine wpAny_bind (m := firstArgMember _ _) (wpAny_of_eq (a := Value.none) (by first | rfl | (simp only [firstArgMember]; rfl)) (wpAny_newObj_type ?_ (by size_fits)))
  simp only [raiseNew]; refine wpAny_bind (wpAny_handled ?_)
  rw [show A.in1.handled = none from hh]; refine wpAny_bind (wpAny_pure (wpAny_throw ?_))
  refine wpAny_bind (wpAny_isInstance (T := "StopIteration") (b := true) ⟨_, Heap.get?_push_size _ rfl, rfl⟩ isSubtype_stop (wpAny_pure (hQ _ fun b o n e => ?_)))
  exact Heap.get?_push_of_some _ (Heap.get?_push_of_some _ (by rw [b1.2 b n, b0.2 b n]; exact e))
theorem walkTup (hh : A.handled = none) (hne : a ≠ I) (hne2 : T ≠ I) (pl : List Nat) (hp : pl.Perm (List.range es.size)) :
    Walks prog w A I [I, a, T] [I] es.size (fun i v => ((pl.filterMap fun p => (es.toList.map (·.2))[p]?))[i]? = some v) (fun i h => h.get? I = some (itObj (.ref T) i (.ref a) es.size ep) ∧ SetAt h a es ep t ∧ h.get? T = some (plObj pl)) := by
  have hl : pl.length = es.size := by rw [hp.length_eq, List.length_range]
  have hin : ∀ p ∈ pl, p < es.size := fun p h => by simpa using hp.mem_iff.mp h
  have ev : ∀ i p, pl[i]? = some p → ∃ x, (es.toList.map (·.2))[p]? = some x := fun i p h => by
    have := hin p (List.mem_of_getElem? h)
    exact ⟨(es.toList.map (·.2))[p]'(by simpa using this), List.getElem?_eq_getElem _⟩
  have fm : ∀ (l : List Nat), (∀ p ∈ l, p < es.size) → l.filterMap (fun p => (es.toList.map (·.2))[p]?) = l.map fun p => ((es.toList.map (·.2)).getD p .none) := fun l => by
    induction l with
    | nil => intro _; rfl
    | cons p l ih =>
      intro h
      have h1 := h p List.mem_cons_self
      have e : (es.toList.map (·.2))[p]? = some ((es.toList.map (·.2)).getD p .none) := by
        have : p < (es.toList.map (·.2)).length := by simpa using h1
        simp [h1]
      rw [List.filterMap_cons, e, List.map_cons, ih fun q hq => h q (List.mem_cons_of_mem _ hq)]
  refine ⟨fun b hb => by simp at hb; simp [hb], fun _ _ _ st hk => ⟨hk I (by simp) _ st.1, st.2.1.at fun o e => hk a (by simp) o e, hk T (by simp) _ st.2.2⟩, fun i s Q E hi st hQ => ?_, fun s Q E st hQ => ?_, fun i s Q E st hQ => ?_⟩
  · have e : pl[i]? = some pl[i] := by simp [hl, hi]
    obtain ⟨x, hx⟩ := ev i _ e
    refine nextTup (x := x) st.1 st.2.2 st.2.1 e hx fun h' g b => ?_
    refine hQ _ h' s.toks ?_ ⟨g, st.2.1.at fun o z => by rw [b.2 a hne]; exact z, by rw [b.2 T hne2]; exact st.2.2⟩ fun b' o hb z => by rw [b.2 b' (fun y => hb (by simp [y]))]; exact z
    show (pl.filterMap fun p => (es.toList.map (·.2))[p]?)[i]? = some x
    rw [fm pl hin, List.getElem?_map, e]
    have : (es.toList.map (·.2)).getD pl[i] .none = x := by rw [List.getD_eq_getElem?_getD, hx]; rfl
    rw [← this]; rfl
  · exact endTup hh st.1 st.2.2 st.2.1 (by simp [hl]) fun h' k => hQ h' s.toks fun b o hb z => k b o (fun y => hb (by simp [y])) z
  · refine wpAny_pyIter_slot (itTy st.1) FS.slot_self (wpAny_call_entry FS.slot_self (itTy st.1) FS.entry_self ?_ (FS.args_self _))
    show wpAny _ _ (ret (.ref I)) _ _ s
    exact wpAny_pure ⟨_, rfl, "set_iterator", _, itTy st.1, FS.slot_next.lookup, hQ⟩
end
end STW
set_option Elab.async false
set_option linter.all false
set_option maxRecDepth 100000
namespace STW
open PySem PyProof.Rows
section
variable {prog : Program} {w : World} {A : Around} {E : Value → Shared → Prop} {s : Shared} {a : Addr} {es : Array (Int × Value)} {ep : Nat} {t : SetTable}
theorem fm_getD (l : List Value) : ∀ (ps : List Nat), (∀ p ∈ ps, p < l.length) → ps.filterMap (fun p => l[p]?) = ps.map fun p => l.getD p .none
  | [], _ => rfl
  | p :: ps, h => by
    have h1 := h p List.mem_cons_self
    have e : l[p]? = some (l.getD p .none) := by simp [h1]
    rw [List.filterMap_cons, e, List.map_cons, fm_getD l ps fun q hq => h q (List.mem_cons_of_mem _ hq)]
def Walker (prog : Program) (w : World) (vs : List Value) (h0 : Heap) (a I : Addr) (h1 : Heap) : Prop :=
  ∃ (fp : List Addr) (St : Nat → Heap → Prop) (ord : List Value), ord.Perm vs ∧ (∀ A' : Around, A'.handled = none → Walks prog w A' I fp [I] vs.length (fun i v => ord[i]? = some v) St) ∧ St 0 h1 ∧ (∀ b ∈ fp, b < h1.objs.size ∧ (b = a ∨ h0.objs.size ≤ b)) ∧ I ∈ fp ∧ h0.objs.size ≤ I ∧ (∀ b o, h0.get? b = some o → h1.get? b = some o) ∧ ∃ o, h1.get? I = some o ∧ o.cls = .type "set_iterator"
theorem iterSet (hS : SetAt s.heap a es ep t) (hT : TT (ledOf w) t) (hz : es.size < scanBound) {Q : Value → Shared → Prop} (h : ∀ I h1 d', Walker prog w (es.toList.map (·.2)) s.heap a I h1 → Q (.ref I) { s with heap := h1, drawn := d' }) : wpAny (model prog w) A (pyIter (.ref a)) Q E s := by
  obtain ⟨⟨o, ho, hx, hd⟩, hf⟩ := id hS
  have ty : s.TypeIs (.ref a) "set" := ⟨o, ho, hx.1⟩
  have hlt : a < s.heap.objs.size := Heap.lt_size ho
  have hlen : (es.toList.map (·.2)).length = es.size := by simp
  refine wpAny_pyIter_slot ty F.slot_set_iter (wpAny_call_entry F.slot_set_iter ty FS.entry_iter ?_ (F.args_set_iter_1 _))
  unfold Builtin.«frozenset.__iter__»
  refine wpAny_bind (m := Builtin.Frozenset.slot0 "__iter__" _) (wpAny_of_eq (a := a) rfl ?_)
  refine wpAny_bind (m := Builtin.Frozenset.sizeOf a) ?_
  unfold Builtin.Frozenset.sizeOf
  refine wpAny_bind (wpAny_setEntries_of ho hd hf (wpAny_pure ?_))
  refine wpAny_bind (m := setDrawn a) ?_
  unfold setDrawn setsByText
  refine wpAny_bind (wpAny_setState_of ho hd hf ?_)
  refine wpAny_bind (wpAny_bind (wpAny_askSetting (wpAny_pure (wpAny_pure ?_))))
  show wpAny _ _ (if (!w.params.followText "set-order" && (!t.plain && decide (es.size > 1))) = true then _ else _) _ _ _
  have fin : ∀ (f : Value) (h1 : Heap) (d' : _), SetAt h1 a es ep t → (∀ I h2, h2.get? I = some (itObj f 0 (.ref a) es.size ep) → I = h1.objs.size → h2 = h1.push (itObj f 0 (.ref a) es.size ep) → Q (.ref I) { s with heap := h2, drawn := d' }) →
      wpAny (model prog w) A.in1 (do ret (← newFields "set_iterator" [f, rawInt 0, .ref a, rawInt es.size, rawInt (← setEpoch a)]) : Sem PySem.Fin) (fun fin s' => ∃ v, fin = .done (.ret v) ∧ ∃ T r, s'.TypeIs v T ∧ typeLookup (.type T) (Str.ofString "__next__") = pure (some r) ∧ Q v s') E { s with heap := h1, drawn := d' } := fun f h1 d' hS1 q => by
    obtain ⟨⟨o1, ho1, _, hd1⟩, hf1⟩ := hS1
    refine wpAny_bind (wpAny_setEpoch_of ho1 hd1 hf1 (wpAny_bind (wpAny_newObj_type ?_)))
    refine wpAny_pure ⟨_, rfl, "set_iterator", _, ⟨_, Heap.get?_push_size _ rfl, rfl⟩, FS.slot_next.lookup, q _ _ (Heap.get?_push_size _ rfl) rfl rfl⟩
  by_cases hb : w.params.followText "set-order" = true
  · rw [if_neg (by rw [hb]; simp)]
    refine wpAny_bind (wpAny_pure (fin (rawInt 0) s.heap s.drawn hS fun I h2 g e1 e2 => ?_))
    refine h I h2 s.drawn ⟨[I, a], fun i h => h.get? I = some (itObj (.int ((0 : Nat) : Int) 0) i (.ref a) es.size ep) ∧ SetAt h a es ep t, (pickOrder (w.params.setOrder a ep) es).toList.map (·.2), (pick_perm _ _).map _, fun A' hh => ?_, ⟨g, hS.at fun o z => by rw [e2]; exact Heap.get?_push_of_some _ z⟩, fun b hm => ?_, by simp, by rw [e1]; exact Nat.le_refl _, fun b o z => by rw [e2]; exact Heap.get?_push_of_some _ z, _, g, rfl⟩
    · rw [hlen]
      exact walkInt (t := t) (ep := ep) hh (by rw [e1]; exact Nat.ne_of_lt hlt) _ (by rw [List.length_map, (pick_perm _ _).length_eq]; simp) (fun _ => 0) fun i s' A' Q' E' _ hS' q => nxText hb i s' A' Q' E' hS' q
    · rw [e2, Heap.size_push]
      rcases List.mem_cons.mp hm with rfl | hm
      · rw [e1]; exact ⟨Nat.lt_succ_self _, .inr (Nat.le_refl _)⟩
      · obtain rfl := List.mem_singleton.mp hm; exact ⟨Nat.lt_succ_of_lt hlt, .inl rfl⟩
  · have hb' : w.params.followText "set-order" = false := by simpa using hb
    by_cases hn : (!t.plain && decide (es.size > 1)) = true
    · rw [if_pos (by rw [hb', hn]; rfl)]
      refine wpAny_bind (drawOk es.size (List.range es.size) s _ List.length_range fun pl d' hp => wpAny_bind (wpAny_newObj_type ?_ ?_))
      · have hS1 : SetAt (s.heap.push (plObj pl)) a es ep t := hS.at fun o z => Heap.get?_push_of_some _ z
        refine fin (.ref s.heap.objs.size) (s.heap.push (plObj pl)) d' hS1 fun I h2 g e1 e2 => ?_
        have gT : h2.get? s.heap.objs.size = some (plObj pl) := by rw [e2]; exact Heap.get?_push_of_some _ (Heap.get?_push_size _ rfl)
        have sz : (s.heap.push (plObj pl)).objs.size = s.heap.objs.size + 1 := Heap.size_push _ _
        refine h I h2 d' ⟨[I, a, s.heap.objs.size], fun i h => h.get? I = some (itObj (.ref s.heap.objs.size) i (.ref a) es.size ep) ∧ SetAt h a es ep t ∧ h.get? s.heap.objs.size = some (plObj pl), pl.filterMap (fun p => (es.toList.map (·.2))[p]?), ?_, fun A' hh => ?_, ⟨g, hS1.at fun o z => by rw [e2]; exact Heap.get?_push_of_some _ z, gT⟩, fun b hm => ?_, by simp, by rw [e1, sz]; exact Nat.le_succ _, fun b o z => by rw [e2]; exact Heap.get?_push_of_some _ (Heap.get?_push_of_some _ z), _, g, rfl⟩
        · refine (hp.filterMap _).trans ?_
          have : (List.range es.size).filterMap (fun p => (es.toList.map (·.2))[p]?) = es.toList.map (·.2) := by
            rw [← hlen]
            generalize es.toList.map (·.2) = l
            rw [fm_getD l _ fun p hp => List.mem_range.mp hp]
            refine List.ext_getElem (by simp) fun i h1 h2 => ?_
            simp [h2]
          rw [this]
        · rw [hlen]
          exact walkTup (t := t) hh (by rw [e1, sz]; exact Nat.ne_of_lt (Nat.lt_succ_of_lt hlt)) (by rw [e1, sz]; exact Nat.ne_of_lt (Nat.lt_succ_self _)) pl hp
        · rw [e2, Heap.size_push, sz]
          rcases List.mem_cons.mp hm with rfl | hm
          · rw [e1, sz]; exact ⟨Nat.lt_succ_self _, .inr (Nat.le_succ _)⟩
          · rcases List.mem_cons.mp hm with rfl | hm
            · exact ⟨Nat.lt_succ_of_lt (Nat.lt_succ_of_lt hlt), .inl rfl⟩
            · obtain rfl := List.mem_singleton.mp hm; exact ⟨Nat.lt_succ_of_lt (Nat.lt_succ_self _), .inr (Nat.le_refl _)⟩
      · show (pl.map fun (i : Nat) => rawInt i).toArray.size ≤ sizeLine
        rw [List.size_toArray, List.length_map, hp.length_eq, List.length_range]
        exact fits_of_scanBound hz
    · have hn' : (!t.plain && decide (es.size > 1)) = false := by simpa using hn
      rw [if_neg (by rw [hn']; simp)]
      refine wpAny_bind (wpAny_pure (fin (rawInt 0) s.heap s.drawn hS fun I h2 g e1 e2 => ?_))
      refine h I h2 s.drawn ⟨[I, a], fun i h => h.get? I = some (itObj (.int ((fstOf t i : Nat) : Int) 0) i (.ref a) es.size ep) ∧ SetAt h a es ep t, es.toList.map (·.2), List.Perm.refl _, fun A' hh => ?_, ⟨g, hS.at fun o z => by rw [e2]; exact Heap.get?_push_of_some _ z⟩, fun b hm => ?_, by simp, by rw [e1]; exact Nat.le_refl _, fun b o z => by rw [e2]; exact Heap.get?_push_of_some _ z, _, g, rfl⟩
      · rw [hlen]
        exact walkInt (t := t) (ep := ep) hh (by rw [e1]; exact Nat.ne_of_lt hlt) _ hlen (fstOf t) fun i s' A' Q' E' hi hS' q => nxPlace hb' hT hn' i s' A' Q' E' hi hS' q
      · rw [e2, Heap.size_push]
        rcases List.mem_cons.mp hm with rfl | hm
        · rw [e1]; exact ⟨Nat.lt_succ_self _, .inr (Nat.le_refl _)⟩
        · obtain rfl := List.mem_singleton.mp hm; exact ⟨Nat.lt_succ_of_lt hlt, .inl rfl⟩
end
end STW
set_option Elab.async false
set_option linter.all false
set_option maxRecDepth 100000
namespace STW
open PySem PyProof.Rows
section
variable {prog : Program} {w : World} {A : Around} {E : Value → Shared → Prop} {s : Shared} {a : Addr} {es : Array (Int × Value)} {ep : Nat} {t : SetTable}
abbrev emp : Obj := { cls := .type "list", data := .seq ([] : List Value).toArray }
theorem hintSet (hS : SetAt s.heap a es ep t) {Q : Bool → Shared → Prop} (q : Q false s) : wpAny (model prog w) A (Builtin.List.listLengthHint (.ref a)) Q E s := by
  obtain ⟨⟨o, ho, hx, hd⟩, hf⟩ := hS
  have ty : s.TypeIs (.ref a) "set" := ⟨o, ho, hx.1⟩
  unfold Builtin.List.listLengthHint
  refine wpAny_bind (wpAny_specialOf ty F.slot_set_len.lookup ?_)
  have e1 : splitId "set.__len__" = some ("set", "__len__") := by kernel_rfl
  dsimp only
  rw [e1]
  dsimp only
  refine wpAny_bind (wpAny_isInstance ty sub_set_self ?_)
  rw [if_neg (by simp), if_pos (by kernel_rfl)]
  refine wpAny_bind (wpAny_typeOf ty ?_)
  exact wpAny_pure q
end
end STW
set_option Elab.async false
set_option linter.all false
set_option maxRecDepth 100000
namespace STW
open PySem PyProof.Rows
section
variable {prog : Program} {w : World} {A : Around} {E : Value → Shared → Prop} {s : Shared} {a : Addr} {es : Array (Int × Value)} {ep : Nat} {t : SetTable}
theorem collectSet (hS : SetAt s.heap a es ep t) (hT : TT (ledOf w) t) (hz : es.size < scanBound) (hh : A.handled = none) {Q : List Value → Shared → Prop} (q : ∀ (ord : List Value) h' d' tk, ord.Perm (es.toList.map (·.2)) → (∀ b o, s.heap.get? b = some o → h'.get? b = some o) → s.heap.objs.size < h'.objs.size → Q ord { s with heap := h', drawn := d', toks := tk }) :
    wpAny (model prog w) A (collect (.ref a)) Q E s := by
  obtain ⟨⟨o, ho, hx, hd⟩, hf⟩ := id hS
  have hlt : a < s.heap.objs.size := Heap.lt_size ho
  unfold collect
  refine wpAny_bind (wpAny_runValue (codeAny_builtin F.entry_proto_collect ?_)); rw [Around.under_plainId F.plain_proto_collect _]
  show wpAny _ A.in1 (newList [] >>= fun l => again (.builtin "list.__iadd__" ⟨[l, .ref a], []⟩)) _ _ s
  refine wpAny_bind (wpAny_newObj_type (wpAny_pure ⟨plainId_quiet F.plain_list_iadd _, codeAny_builtin F.entry_list_iadd ?_⟩)); rw [Around.under_plainId F.plain_list_iadd _]
  have hS1 : SetAt (s.heap.push emp) a es ep t := hS.at fun o z => Heap.get?_push_of_some _ z
  show wpAny _ A.in1 (Builtin.List.listExtendWith (.ref s.heap.objs.size) (.ref a) (.ref s.heap.objs.size)) _ _ _
  unfold Builtin.List.listExtendWith
  refine wpAny_bind (wpAny_typeOf (T := "set") ⟨o, Heap.get?_push_of_some _ ho, hx.1⟩ ?_)
  have c1 : Builtin.List.listSameRef (.ref s.heap.objs.size) (.ref a) = false := by
    have : s.heap.objs.size ≠ a := Nat.ne_of_gt hlt
    simp [Builtin.List.listSameRef, this]
  have c2 : (Value.type "set" == Value.type "list") = false := by decide
  have c3 : (Value.type "set" == Value.type "tuple") = false := by decide
  simp only [c1, c2, c3, Bool.or_false, Bool.false_eq_true, if_false]
  refine wpAny_bind (iterSet (s := { s with heap := s.heap.push emp }) hS1 hT hz fun I h1 d' W => ?_)
  obtain ⟨fp, St, ord, w1, w2, w3, w4, w5, w6, w7, _⟩ := W
  have sz1 : (s.heap.push emp).objs.size = s.heap.objs.size + 1 := Heap.size_push _ _
  have hlen : (es.toList.map (·.2)).length = es.size := by simp
  refine wpAny_bind (wpAny_holding (hintSet (s := { s with heap := h1, drawn := d' }) (hS1.at fun o z => w7 a o z) ?_))
  rw [if_pos (by kernel_rfl)]
  refine wpAny_bind (wpAny_rule (wpAny_bind ?_))
  show wpAny _ A.in1 (updateSeq s.heap.objs.size (·.push .none) >>= fun _ => updateSeq s.heap.objs.size (·.pop)) _ _ _
  have g1 : h1.get? s.heap.objs.size = some emp := w7 _ _ (Heap.get?_push_size _ rfl)
  refine wpAny_bind (wpAny_updateSeq g1 rfl ?_)
  have g2 := Heap.get?_update_self (Obj.mapSeq (·.push Value.none)) g1 rfl
  refine wpAny_updateSeq g2 rfl ?_
  have g3 := Heap.get?_update_self (Obj.mapSeq (·.pop)) g2 rfl
  have oth : ∀ b o, b ≠ s.heap.objs.size → h1.get? b = some o → ((h1.update s.heap.objs.size (Obj.mapSeq (·.push Value.none))).update s.heap.objs.size (Obj.mapSeq (·.pop))).get? b = some o := fun b o hb e =>
    (Heap.get?_update_other _ _ (Ne.symm hb)).trans ((Heap.get?_update_other _ _ (Ne.symm hb)).trans e)
  have W' := (w2 A.in1 (by simp [hh])).toS
  have hSf : s.heap.objs.size ∉ fp := fun hm => by
    rcases (w4 _ hm).2 with e | e
    · exact Nat.lt_irrefl _ (e ▸ hlt)
    · have e' : (s.heap.push emp).objs.size ≤ s.heap.objs.size := e
      rw [sz1] at e'; exact Nat.not_succ_le_self _ e'
  have st1 := W'.frame 0 { s with heap := h1, drawn := d' } ((h1.update s.heap.objs.size (Obj.mapSeq (·.push Value.none))).update s.heap.objs.size (Obj.mapSeq (·.pop))) s.toks w3 (by simp) fun b hb o e => oth b o (fun h => hSf (h ▸ hb)) e
  refine wpAny_pure ⟨plainId_quiet F.plain_extend_loop _, codeAny_extend_loopS (A := A) W' (by rw [hlen]; exact fits_of_scanBound hz) _ hSf _ _ 0 _ _ _ rfl (Nat.zero_le _) st1 g3 (ItemsOf.nil _) fun s' acc' c' hm hS' hacc => ?_⟩
  show wpAny _ A (load s.heap.objs.size >>= _) _ _ s'
  refine wpAny_bind (wpAny_load hS' (wpAny_pure ?_))
  have eq : s' = { s with heap := s'.heap, drawn := d', toks := s'.toks } := by
    obtain ⟨_, g, d, o, _⟩ := hm
    cases s'; simp only at g d o; subst g; subst d; subst o; rfl
  rw [eq]
  have ea : acc'.toList = ord := by
    refine List.ext_getElem? fun i => ?_
    by_cases hi : i < acc'.size
    · have := hacc.2 i (acc'[i]) (by simp [hi])
      rw [this]; simp [hi]
    · have : ord.length = acc'.size := by rw [w1.length_eq, hacc.1]
      simp [hi, this]
  rw [ea]
  refine q ord _ _ _ w1 (fun b o hb => hm.heap b o ?_ ?_) (Heap.lt_size hS')
  · have hb' := Heap.lt_size hb
    intro h
    rcases List.mem_cons.mp h with e | h
    · exact Nat.lt_irrefl _ (e ▸ hb')
    · have e := List.mem_singleton.mp h
      have e' : (s.heap.push emp).objs.size ≤ I := w6
      rw [sz1] at e'; subst e; exact Nat.lt_irrefl _ (Nat.lt_of_lt_of_le hb' (Nat.le_of_succ_le e'))
  · exact oth b o (Nat.ne_of_lt (Heap.lt_size hb)) (w7 b o (Heap.get?_push_of_some _ hb))
end
end STW
set_option Elab.async false
set_option linter.all false
set_option maxRecDepth 100000
namespace STW
open PySem PyProof.Rows
section
variable {prog : Program} {w : World} {A : Around} {E : Value → Shared → Prop} {s : Shared} {a : Addr} {ns : List Int} {n : Nat}
end
end STW
set_option Elab.async false
set_option linter.all false
set_option maxRecDepth 100000
namespace FD
open PySem PySem.Spec PyProof.Rows L2
variable [Tabs]
section
variable {X : Cx} {e : Expr} {pos : Pos} {fs : FA}
theorem inv_drawn {pins : List (Addr × Obj)} {σ : St} {H : Hp} {s : Shared} (d : Drawn) (I : Inv X pins σ H s) : Inv X pins σ H { s with drawn := d } :=
  ⟨I.ok, I.os, I.bare, I.base, I.loc, I.cell, I.free, I.freeC, I.pin, I.hok, I.len⟩
end
end FD
set_option Elab.async false
set_option linter.all false
set_option maxRecDepth 100000
namespace FD
open PySem PySem.Spec PyProof.Rows L2
variable [Tabs]
section
variable {X : Cx}
end
end FD
set_option Elab.async false
set_option linter.all false
namespace L2
open PySem PySem.Spec PyProof.Rows
section
variable {κ : Type} [DecidableEq κ]
def valV (kvs : List (κ × V)) (k : κ) : Option V := (kvs.find? fun kv => decide (kv.1 = k)).map (·.2)
def putK (kvs : List (κ × V)) (k : κ) (v : V) : List (κ × V) :=
  if (kvs.any fun kv => decide (kv.1 = k)) = true then kvs.map (fun kv => if kv.1 = k then (kv.1, v) else kv) else kvs ++ [(k, v)]
theorem valV_pos {p : κ × V} {r : List (κ × V)} {k : κ} (e : p.1 = k) : valV (p :: r) k = some p.2 := by simp [valV, List.find?_cons, e]
theorem valV_neg {p : κ × V} {r : List (κ × V)} {k : κ} (e : ¬ p.1 = k) : valV (p :: r) k = valV r k := by simp [valV, List.find?_cons, e]
theorem valV_any (k : κ) : ∀ kvs : List (κ × V), (kvs.any fun kv => decide (kv.1 = k)) = (valV kvs k).isSome
  | [] => rfl
  | p :: r => by
    rw [List.any_cons]
    by_cases e : p.1 = k
    · simp only [valV_pos e, decide_eq_true e, Bool.true_or, Option.isSome_some]
    · rw [valV_neg e, decide_eq_false e, Bool.false_or]; exact valV_any k r
theorem length_putK (kvs : List (κ × V)) (k : κ) (v : V) : (putK kvs k v).length ≤ kvs.length + 1 := by
  unfold putK
  split
  · rw [List.length_map]; omega
  · rw [List.length_append, List.length_cons, List.length_nil]; omega
theorem RelO.isSome_eq {o : Option V} {u : Option Value} (r : RelO o u) : o.isSome = u.isSome := by
  cases o with
  | none => cases u with
    | none => rfl
    | some _ => exact (show False from r).elim
  | some _ => cases u with
    | none => exact (show False from r).elim
    | some _ => rfl
theorem RelO.getD {o : Option V} {u : Option Value} {d : V} {d' : Value} (r : RelO o u) (rd : RelV d d') : RelV (o.getD d) (u.getD d') := by
  cases o with
  | none => cases u with
    | none => exact rd
    | some _ => exact (show False from r).elim
  | some _ => cases u with
    | none => exact (show False from r).elim
    | some _ => exact r
theorem KV.val {kvs : List (κ × V)} {vs : List (κ × Value)} (r : KV kvs vs) (k : κ) : RelO (valV kvs k) (valueAt vs k) := by
  unfold KV at r
  induction r with
  | nil => exact True.intro
  | @cons p q ps qs h t ih =>
    obtain ⟨h1, h2⟩ := h
    by_cases e : p.1 = k
    · have e' : q.1 = k := h1.symm.trans e
      have b : valueAt (q :: qs) k = some q.2 := by simp [valueAt, List.find?_cons, e']
      rw [valV_pos e, b]; exact h2
    · have e' : ¬ q.1 = k := fun z => e (h1.trans z)
      have b : valueAt (q :: qs) k = valueAt qs k := by simp [valueAt, List.find?_cons, e']
      rw [valV_neg e, b]; exact ih
theorem KV.any {kvs : List (κ × V)} {vs : List (κ × Value)} (r : KV kvs vs) (k : κ) : (kvs.any fun kv => decide (kv.1 = k)) = vs.any fun kv => decide (kv.1 = k) := by
  unfold KV at r
  induction r with
  | nil => rfl
  | cons h t ih => rw [List.any_cons, List.any_cons, ih, h.1]
theorem KV.repl {kvs : List (κ × V)} {vs : List (κ × Value)} (r : KV kvs vs) (k : κ) {y : V} {u : Value} (ry : RelV y u) :
    KV (kvs.map fun kv => if kv.1 = k then (kv.1, y) else kv) (vs.map fun kv => if kv.1 = k then (kv.1, u) else kv) := by
  unfold KV at r ⊢
  induction r with
  | nil => exact .nil
  | @cons p q ps qs h t ih =>
    rw [List.map_cons, List.map_cons]
    refine .cons ?_ ih
    obtain ⟨h1, h2⟩ := h
    by_cases e : p.1 = k
    · rw [if_pos e, if_pos (h1.symm.trans e)]; exact ⟨h1, ry⟩
    · rw [if_neg e, if_neg (fun z => e (h1.trans z))]; exact ⟨h1, h2⟩
theorem KV.put {kvs : List (κ × V)} {vs : List (κ × Value)} (r : KV kvs vs) (k : κ) {y : V} {u : Value} (ry : RelV y u) : KV (putK kvs k y) (stored vs k u) := by
  unfold putK stored
  rw [r.any k]
  by_cases e : (vs.any fun kv => decide (kv.1 = k)) = true
  · rw [if_pos e, if_pos e]; exact r.repl k ry
  · rw [if_neg e, if_neg e]; exact Paired.snoc r ⟨rfl, ry⟩
theorem KV.keys {kvs : List (κ × V)} {vs : List (κ × Value)} (r : KV kvs vs) : kvs.map (·.1) = vs.map (·.1) := by
  unfold KV at r
  induction r with
  | nil => rfl
  | cons h t ih => rw [List.map_cons, List.map_cons, ih, h.1]
theorem KV.length {kvs : List (κ × V)} {vs : List (κ × Value)} (r : KV kvs vs) : kvs.length = vs.length := Paired.length r
end
theorem kV_is {P : Program} {w : World} {k : Key} {u : Value} (r : RelV (kV k) u) : (mixKind P w).is k u = true := by
  cases k with
  | inl i => obtain ⟨t, e⟩ := (show ∃ t, u = Value.int i t from r); subst e; exact mixKind_int P w i t
  | inr x => obtain ⟨t, e⟩ := (show ∃ t, u = Value.str x t from r); subst e; exact mixKind_str P w x t
theorem items_are {P : Program} {w : World} : ∀ {ks : List Key} {us : List Value}, Vals (ks.map kV) us → ItemsAre (mixKind P w) ks us
  | [], _, r => by rw [List.map_nil] at r; cases r; exact .nil
  | k :: ks, _, r => by
    rw [List.map_cons] at r
    cases r with
    | cons h t => exact .cons (kV_is h) (items_are t)
abbrev KT (H : Hp) : List (List Key × V) → List (List Key × Addr × Value) → Prop := Paired fun p q => p.1 = q.1 ∧ H q.2.1 = some (.tup (p.1.map kV)) ∧ RelV p.2 q.2.2
theorem KT.val {H : Hp} {kvs : List (List Key × V)} {xs : List (List Key × Addr × Value)} (r : KT H kvs xs) (k : List Key) : RelO (valV kvs k) ((atKey xs k).map (·.2)) := by
  induction r with
  | nil => exact True.intro
  | @cons p q ps qs h t ih =>
    obtain ⟨h1, _, h2⟩ := h
    by_cases e : p.1 = k
    · have e' : q.1 = k := h1.symm.trans e
      have b : atKey (q :: qs) k = some q.2 := by simp [atKey, List.find?_cons, e']
      rw [valV_pos e, b]; exact h2
    · have e' : ¬ q.1 = k := fun z => e (h1.trans z)
      have b : atKey (q :: qs) k = atKey qs k := by simp [atKey, List.find?_cons, e']
      rw [valV_neg e, b]; exact ih
theorem KT.repl {H : Hp} {kvs : List (List Key × V)} {xs : List (List Key × Addr × Value)} (r : KT H kvs xs) (k : List Key) {y : V} {u : Value} (ry : RelV y u) :
    KT H (kvs.map fun kv => if kv.1 = k then (kv.1, y) else kv) (xs.map (putAt k u)) := by
  induction r with
  | nil => exact .nil
  | @cons p q ps qs h t ih =>
    rw [List.map_cons, List.map_cons]
    refine .cons ?_ ih
    obtain ⟨h1, h2, h3⟩ := h
    unfold putAt
    by_cases e : p.1 = k
    · rw [if_pos e, if_pos (h1.symm.trans e)]; exact ⟨h1, h2, ry⟩
    · rw [if_neg e, if_neg (fun z => e (h1.trans z))]; exact ⟨h1, h2, h3⟩
theorem KT.put {H : Hp} {kvs : List (List Key × V)} {xs : List (List Key × Addr × Value)} (r : KT H kvs xs) (k : List Key) {b : Addr} {y : V} {u : Value} (hb : H b = some (.tup (k.map kV))) (ry : RelV y u) :
    KT H (putK kvs k y) (storedH xs k b u) := by
  have e : (kvs.any fun kv => decide (kv.1 = k)) = (atKey xs k).isSome := by
    rw [valV_any, (r.val k).isSome_eq, Option.isSome_map]
  unfold putK storedH
  rw [e]
  by_cases q : (atKey xs k).isSome = true
  · rw [if_pos q, if_pos q]; exact r.repl k ry
  · rw [if_neg q, if_neg q]; exact Paired.snoc r ⟨rfl, hb, ry⟩
theorem KT.keeps {H H' : Hp} {kvs : List (List Key × V)} {xs : List (List Key × Addr × Value)} (r : KT H kvs xs) (ht : ∀ b ys, H b = some (.tup ys) → H' b = some (.tup ys)) : KT H' kvs xs :=
  Paired.mapP r fun _ _ z => ⟨z.1, ht _ _ z.2.1, z.2.2⟩
section
variable {P : Program} {w : World} {H : Hp} {h : Heap} {a : Addr}
theorem rd_of {u : HO} (ok : HOk P w H h) (e : Rd H a u) : ObjOk P w H h a u := e.ok ok
theorem dk_rd {kvs : List (Key × V)} (ok : HOk P w H h) (e : Rd H a (.dK kvs)) : kvs.length ≤ sizeLine ∧ (a == sysModules) = false ∧ ∃ vs, KV kvs vs ∧ h.DictOf (mixKind P w) a vs :=
  show ObjOk P w H h a (.dK kvs) from rd_of ok e
theorem dk_of {kvs : List (Key × V)} (ok : HOk P w H h) (e : H a = some (.dK kvs)) : kvs.length ≤ sizeLine ∧ (a == sysModules) = false ∧ ∃ vs, KV kvs vs ∧ h.DictOf (mixKind P w) a vs := dk_rd ok (.inl e)
theorem key_of {ks : List Key} (ok : HOk P w H h) (e : H a = some (.tup (ks.map kV))) : (tupleKind (mixKind P w)).is h ks a := by
  obtain ⟨_, its, r, o, h1, h2, n, h3⟩ := (show ObjOk P w H h a (.tup (ks.map kV)) from ok a _ e)
  exact ⟨o, its.toArray, n, h1, h2, h3, by simpa using items_are r⟩
theorem dt_rd {kvs : List (List Key × V)} (ok : HOk P w H h) (e : Rd H a (.dT kvs)) : kvs.length ≤ sizeLine ∧ (a == sysModules) = false ∧
    ∃ xs, KT H kvs xs ∧ h.DictOfH (tupleKind (mixKind P w)) a xs := by
  obtain ⟨z, y, xs, r, o, es, ep, h1, h2, h3, h4, h5⟩ := (show ObjOk P w H h a (.dT kvs) from rd_of ok e)
  refine ⟨z, y, xs, r, o, es, ep, h1, h2, h3, h4, fun x hx => ?_, h5⟩
  have all : ∀ {l : List (List Key × V)} {m : List (List Key × Addr × Value)}, KT H l m → ∀ x ∈ m, (tupleKind (mixKind P w)).is h x.1 x.2.1 := by
    intro l m q
    induction q with
    | nil => intro x hx; exact nomatch hx
    | @cons p q ps qs hq t ih =>
      intro x hx
      rcases List.mem_cons.mp hx with e | hx
      · subst e
        exact key_of ok (by rw [← hq.1]; exact hq.2.1)
      · exact ih x hx
  exact all r x hx
theorem dt_of {kvs : List (List Key × V)} (ok : HOk P w H h) (e : H a = some (.dT kvs)) : kvs.length ≤ sizeLine ∧ (a == sysModules) = false ∧
    ∃ xs, KT H kvs xs ∧ h.DictOfH (tupleKind (mixKind P w)) a xs := dt_rd ok (.inl e)
end
def DGet (H : Hp) (a : Addr) (y : V) (r : Option V) : Prop :=
  (∃ kvs k, Rd H a (.dK kvs) ∧ y = kV k ∧ r = valV kvs k) ∨ ∃ kvs k b, Rd H a (.dT kvs) ∧ y = .ref b ∧ H b = some (.tup (k.map kV)) ∧ r = valV kvs k
def DPut (H : Hp) (a : Addr) (y v : V) (H' : Hp) : Prop :=
  (∃ kvs k, H a = some (.dK kvs) ∧ y = kV k ∧ kvs.length < sizeLine ∧ H' = upd H a (.dK (putK kvs k v))) ∨
  ∃ kvs k b, H a = some (.dT kvs) ∧ y = .ref b ∧ H b = some (.tup (k.map kV)) ∧ kvs.length < sizeLine ∧ H' = upd H a (.dT (putK kvs k v))
theorem DGet.k {H : Hp} {a : Addr} {kvs : List (Key × V)} {k : Key} (e : H a = some (.dK kvs)) : DGet H a (kV k) (valV kvs k) := .inl ⟨kvs, k, .inl e, rfl, rfl⟩
theorem DPut.k {H : Hp} {a : Addr} {kvs : List (Key × V)} {k : Key} {v : V} (e : H a = some (.dK kvs)) (hl : kvs.length < sizeLine) : DPut H a (kV k) v (upd H a (.dK (putK kvs k v))) := .inl ⟨kvs, k, e, rfl, hl, rfl⟩
section
variable {X : Cx} {pins : List (Addr × Obj)} {σ : St} {H : Hp} {s : Shared} {a : Addr} {y v : V} {u r : Value} {o : Option V} {A : Around} {E : Value → Shared → Prop}
theorem Inv.big (I : Inv X pins σ H s) : sysModules < s.heap.objs.size := by
  have h : mainGlobals < s.heap.objs.size := (I.mod.glob.keeps I.bk).lt
  exact Nat.lt_trans (by decide) h
theorem d_getItem {Q : Value → Shared → Prop} (hu : A.units + 1 < cLine) (I : Inv X pins σ H s) (g : DGet H a y (some v)) (ry : RelV y u) (h : ∀ w' s', Inv X pins σ H s' → RelV v w' → Q w' s') :
    wpAny (model X.prog X.w) A (getItem (.ref a) u) Q E s := by
  rcases g with ⟨kvs, k, e, ey, l⟩ | ⟨kvs, k, b, e, ey, eb, l⟩
  · subst ey
    obtain ⟨z, hd, vs, rel, dd⟩ := dk_rd I.hok e
    obtain ⟨w', hw, rw'⟩ := RelO.some_of (v := v) (o := valueAt vs k) (by rw [l]; exact rel.val k)
    exact wpAny_getItem_of (kV_is ry) dd.mapOf hw (h w' _ (I.tok _) rw')
  · subst ey
    cases (show u = Value.ref b from ry)
    obtain ⟨z, hd, xs, rel, dd⟩ := dt_rd I.hok e
    obtain ⟨w', hw, rw'⟩ := RelO.some_of (v := v) (o := (atKey xs k).map (·.2)) (by rw [l]; exact rel.val k)
    obtain ⟨p, hp, hp2⟩ := Option.map_eq_some_iff.mp hw
    refine wpAny_getItem_heap (tupleKind_room_in1 hu) (key_of I.hok eb) dd hp ?_
    rw [hp2]
    exact h w' _ (I.tok _) rw'
theorem d_notIn {Q : Value → Shared → Prop} (hu : A.units + 1 < cLine) (I : Inv X pins σ H s) (g : DGet H a y o) (ry : RelV y u) (h : ∀ s', Inv X pins σ H s' → Q (.bool (!o.isSome)) s') :
    wpAny (model X.prog X.w) A (compareOp .NotIn u (.ref a)) Q E s := by
  rcases g with ⟨kvs, k, e, ey, l⟩ | ⟨kvs, k, b, e, ey, eb, l⟩
  · subst ey
    obtain ⟨z, hd, vs, rel, dd⟩ := dk_rd I.hok e
    refine wpAny_notIn_of (kV_is ry) hd dd.mapOf ?_
    rw [← (rel.val k).isSome_eq, ← l]
    exact h _ (I.tok _)
  · subst ey
    cases (show u = Value.ref b from ry)
    obtain ⟨z, hd, xs, rel, dd⟩ := dt_rd I.hok e
    refine wpAny_notIn_heap (tupleKind_room_in1 hu) (key_of I.hok eb) hd dd ?_
    have q := (rel.val k).isSome_eq
    rw [Option.isSome_map] at q
    rw [← q, ← l]
    exact h _ (I.tok _)
theorem d_write {h' : Heap} {t' : Nat} {ob : HO} (I : Inv X pins σ H s) (mu : Mut (H a)) (hs : Heap.SameBut a s.heap h') (he : ∃ q, h'.get? a = some q) (new : ObjOk X.prog X.w (upd H a ob) h' a ob) :
    Inv X pins σ (upd H a ob) { s with heap := h', toks := t' } :=
  I.write (x := a) (e := a) mu (.inl rfl) (fun b q hb z => (hs.2 b hb).trans z) he new
theorem dk_new {P : Program} {w : World} {H' : Hp} {h' : Heap} {kvs : List (Key × V)} {vs : List (Key × Value)} (z : kvs.length ≤ sizeLine) (hd : (a == sysModules) = false) (rel : KV kvs vs) (dd : h'.DictOf (mixKind P w) a vs) :
    ObjOk P w H' h' a (.dK kvs) := ⟨z, hd, vs, rel, dd⟩
theorem d_setItem {H' : Hp} {Q : Unit → Shared → Prop} (hu : A.units + 1 < cLine) (I : Inv X pins σ H s) (g : DPut H a y v H') (ry : RelV y u) (rv : RelV v r) (h : ∀ s', Inv X pins σ H' s' → Q () s') :
    wpAny (model X.prog X.w) A (setItem (.ref a) u r) Q E s := by
  rcases g with ⟨kvs, k, e, ey, l, eH⟩ | ⟨kvs, k, b, e, ey, eb, l, eH⟩
  · subst ey eH
    obtain ⟨z, hd, vs, rel, dd⟩ := dk_of I.hok e
    have hz : vs.length ≤ sizeLine := by rw [← rel.length]; exact z
    have hl : (putK kvs k v).length ≤ sizeLine := by have := length_putK kvs k v; omega
    refine wpAny_setItem_pairs (hsz := hz) (kV_is ry) dd fun h' dd' hs => h _ ?_
    have he : ∃ q, h'.get? a = some q := let ⟨q, _, _, hq, _⟩ := dd'; ⟨q, hq⟩
    exact d_write I (by rw [e]; exact True.intro) hs he (dk_new hl hd (rel.put k rv) dd')
  · subst ey eH
    cases (show u = Value.ref b from ry)
    obtain ⟨z, hd, xs, rel, dd⟩ := dt_of I.hok e
    have hz : xs.length ≤ sizeLine := by rw [← Paired.length rel]; exact z
    have hl : (putK kvs k v).length ≤ sizeLine := by have := length_putK kvs k v; omega
    refine wpAny_setItem_heap (hsz := hz) (tupleKind_room_in1 hu) (key_of I.hok eb) dd fun h' dd' hs => h _ ?_
    obtain ⟨q, es, ep, hq, h2, h3, h4, _, h5⟩ := dd'
    refine d_write I (by rw [e]; exact True.intro) hs ⟨q, hq⟩ ⟨hl, hd, _, (rel.put k eb rv).keeps fun c ys ec => ?_, q, es, ep, hq, h2, h3, h4, h5⟩
    rw [upd_ne (ne_of ec e (fun z => nomatch z))]
    exact ec
end
section
variable {X : Cx} {pins : List (Addr × Obj)} {σ : St} {H : Hp} {s : Shared} {a : Addr} {kvs : List (Key × V)} {k : Key} {u : Value} {A : Around} {E : Value → Shared → Prop}
end
def NoSl (i : Expr) : Prop := ∀ ov iv, subscripted i false ov iv = operate [ov, iv] (getItem ov iv)
theorem subD_of {prog : Program} {w : World} {A : Around} {E : Value → Shared → Prop} {s : Shared} {env : Env} {value slice : Expr} {pos : Pos} {T id : String} {Q : Value → Shared → Prop}
    (hl : typeLookup (.type T) "__getitem__" = pure (some (.builtin id))) (hs : NoSl slice)
    (h : wpAny (model prog w) A (eval value env) (fun o s₁ => wpAny (model prog w) A (eval slice env) (fun i s₂ => s₂.TypeIs o T ∧ wpAny (model prog w) A (getItem o i) Q E s₂) E s₁) E s) :
    wpAny (model prog w) A (eval (.Subscript value slice pos) env) Q E s := by
  refine Subscript_ (wpAny_mono h (fun o s₁ h₁ => wpAny_mono h₁ (fun i s₂ h₂ => ?_) fun _ _ x => x) fun _ _ x => x)
  obtain ⟨hT, h₂⟩ := h₂
  unfold subscriptTail
  refine wpAny_bind ?_
  rw [getitemInPython_of_ne hT.not_modules]
  refine wpAny_bind (wpAny_specialOf hT hl ?_)
  have fin : wpAny (model prog w) A (subscripted slice false o i) (fun r s₃ => wpAny (model prog w) A (letTemporaryGo value o r >>= fun _ => pure r) Q E s₃) E s₂ := by
    rw [hs o i]
    exact wpAny_operating (wpAny_mono h₂ (fun r s₃ h₃ => wpAny_bind (wpAny_letTemporaryGo (wpAny_pure h₃))) fun _ _ x => x)
  first
    | exact wpAny_pure (wpAny_bind fin)
    | exact wpAny_bind (wpAny_pure (wpAny_bind fin))
    | exact wpAny_bind fin
theorem dict_typeIs {X : Cx} {pins : List (Addr × Obj)} {σ : St} {H : Hp} {s : Shared} {a : Addr} {y : V} {o : Option V} (I : Inv X pins σ H s) (g : DGet H a y o) : s.TypeIs (.ref a) "dict" := by
  rcases g with ⟨kvs, k, e, _, _⟩ | ⟨kvs, k, b, e, _, _, _⟩
  · obtain ⟨_, _, vs, _, dd⟩ := dk_rd I.hok e
    exact dd.typeIs
  · obtain ⟨_, _, xs, _, dd⟩ := dt_rd I.hok e
    exact dd.typeIs
def tDGet (td ty : TE) : TE := fun σ H Q => td σ H fun x H1 => ty σ H1 fun y H2 => ∃ a v, x = .ref a ∧ DGet H2 a y (some v) ∧ Q v H2
def tDNotIn (ty td : TE) : TE := fun σ H Q => ty σ H fun y H1 => td σ H1 fun x H2 => ∃ a o, x = .ref a ∧ DGet H2 a y o ∧ Q (.bl (!o.isSome)) H2
def sDPut (td ty tv : TE) : TS := fun D σ H => tv σ H fun v H1 => td σ H1 fun x H2 => ty σ H2 fun y H3 => ∃ a H4, x = .ref a ∧ DPut H3 a y v H4 ∧ D.nx σ H4
section
variable {X : Cx} {o i e value : Expr} {pos pos' tpos : Pos} {td ty tv : TE}
theorem pe_dget (hu : X.A.units + 1 < cLine) (ho : PE X o td) (hi : PE X i ty) (hs : NoSl i) : PE X (.Subscript o i pos) (tDGet td ty) := by
  intro pins s σ H Q I h
  refine subD_of PySem.F.slot_dict_getitem.lookup hs (thn (ho pins s σ H _ I h) fun u s1 ⟨x, H1, I1, rx, q1⟩ => thn (hi pins s1 σ H1 _ I1 q1) fun iv s2 ⟨y, H2, I2, ry, a, v, ex, g, q2⟩ => ?_)
  subst ex
  obtain rfl : u = Value.ref a := rx
  exact ⟨dict_typeIs I2 g, d_getItem hu I2 g ry fun w' s3 I3 rw' => ⟨v, H2, I3, rw', q2⟩⟩
theorem pc_dnotin (hu : X.A.units + 1 < cLine) (hi : PE X i ty) (ho : PE X o td) : PC X .NotIn i o (tDNotIn ty td) := by
  intro pins s σ H Q I h
  refine thn (hi pins s σ H _ I h) fun iv s1 ⟨y, H1, I1, ry, q1⟩ => thn (ho pins s1 σ H1 _ I1 q1) fun u s2 ⟨x, H2, I2, rx, a, ov, ex, g, q2⟩ => ?_
  subst ex
  obtain rfl : u = Value.ref a := rx
  exact d_notIn hu I2 g ry fun s3 I3 => ⟨.bl (!ov.isSome), H2, I3, rfl, q2⟩
theorem ps_dput (hu : X.A.units + 1 < cLine) (ho : PE X o td) (hi : PE X i ty) (hv : PE X value tv) (hs : swapsWith value (some (.Subscript o i pos')) pos.line X.env = pure false) :
    PS X (.Assign [.Subscript o i pos'] value pos) (sDPut td ty tv) := by
  intro pins s σ H D I h
  refine wpAny_Assign_Subscript (thn (hv pins s σ H _ I h) fun r s1 ⟨v, H1, I1, rv, q1⟩ => thn (ho pins s1 σ H1 _ I1 q1) fun u s2 ⟨x, H2, I2, rx, q2⟩ => thn (hi pins s2 σ H2 _ I2 q2) fun iv s3 ⟨y, H3, I3, ry, a, H4, ex, g, q3⟩ => ?_) hs
  subst ex
  obtain rfl : u = Value.ref a := rx
  exact d_setItem hu I3 g ry rv fun s4 I4 => ⟨σ, H4, I4, q3⟩
end
theorem dk_empty {P : Program} {w : World} {H : Hp} (h : Heap) (hb : sysModules < h.objs.size) : ObjOk P w H (h.push { cls := .type "dict", data := .dict #[] }) h.objs.size (.dK []) :=
  ⟨Nat.zero_le _, beq_eq_false_iff_ne.mpr (Ne.symm (Nat.ne_of_lt hb)), [], .nil, Heap.DictOf.new h⟩
def tDNewK : TE := fun _ H Q => ∀ p, H p = none → Q (.ref p) (upd H p (.dK []))
section
variable {X : Cx} {pos : Pos}
theorem pe_dnewK : PE X (.Dict [] [] pos) tDNewK := fun pins s σ H Q I h =>
  wpAny_Dict_empty ⟨.ref s.heap.objs.size, _, I.laid (a := s.heap.objs.size) (o := .dK []) (t' := s.toks) (fun _ _ q => Heap.get?_push_of_some _ q) (Nat.le_refl _) (dk_empty s.heap I.big), rfl, h _ (I.hok.fresh (Nat.le_refl _))⟩
end
def tPairs : List (TE × TE) → St → Hp → (List (V × V) → Hp → Prop) → Prop
  | [], _, H, Q => Q [] H
  | (tk, tv) :: r, σ, H, Q => tk σ H fun x H1 => tv σ H1 fun y H2 => tPairs r σ H2 fun ps H3 => Q ((x, y) :: ps) H3
abbrev VV : List (V × V) → List (Value × Value) → Prop := Paired fun p q => RelV p.1 q.1 ∧ RelV p.2 q.2
def PPs (X : Cx) (pos : Pos) (keys : List (Option Expr)) (values : List Expr) (trs : List (TE × TE)) : Prop :=
  ∀ (pins : List (Addr × Obj)) (s : Shared) (σ : St) (H : Hp) (Q : List (V × V) → Hp → Prop), Inv X pins σ H s → tPairs trs σ H Q →
    wpAny (model X.prog X.w) X.A (evalPairs (pairTrees keys values X.env pos)) (fun vs s' => ∃ ps H', Inv X pins σ H' s' ∧ VV ps vs ∧ Q ps H') X.xe s
theorem pps_nil {X : Cx} {pos : Pos} : PPs X pos [] [] [] := fun pins s σ H Q I h => pairTrees_nil_walk ⟨[], H, I, .nil, h⟩
theorem pps_cons {X : Cx} {pos : Pos} {k v : Expr} {ks : List (Option Expr)} {vs : List Expr} {tk tv : TE} {trs : List (TE × TE)} (hk : PE X k tk) (hv : PE X v tv) (hr : PPs X pos ks vs trs) :
    PPs X pos (some k :: ks) (v :: vs) ((tk, tv) :: trs) := fun pins s σ H Q I h =>
  pairTrees_cons_walk (thn (hk pins s σ H _ I h) fun u s1 ⟨x, H1, I1, rx, q1⟩ => thn (hv pins s1 σ H1 _ I1 q1) fun w2 s2 ⟨y, H2, I2, ry, q2⟩ =>
    thn (hr pins s2 σ H2 _ I2 q2) fun ws s3 ⟨ps, H3, I3, rel, q3⟩ => ⟨(x, y) :: ps, H3, I3, .cons ⟨rx, ry⟩ rel, q3⟩)
def mergeK (kvs more : List (Key × V)) : List (Key × V) := more.foldl (fun acc kv => putK acc kv.1 kv.2) kvs
theorem KV.merge : ∀ {more : List (Key × V)} {rs : List (Key × Value)} {kvs : List (Key × V)} {vs : List (Key × Value)}, KV more rs → KV kvs vs → KV (mergeK kvs more) (merged vs rs) := by
  intro more rs kvs vs r
  unfold KV at r
  induction r generalizing kvs vs with
  | nil => intro q; exact q
  | @cons p q ps qs h t ih =>
    intro r0
    have e : KV (putK kvs p.1 p.2) (stored vs q.1 q.2) := by
      have := r0.put p.1 h.2
      rw [← h.1]; exact this
    exact ih e
theorem length_mergeK : ∀ (more kvs : List (Key × V)), (mergeK kvs more).length ≤ kvs.length + more.length
  | [], kvs => by show kvs.length ≤ kvs.length + 0; omega
  | p :: r, kvs => by
    have h1 := length_mergeK r (putK kvs p.1 p.2)
    have h2 := length_putK kvs p.1 p.2
    show (mergeK (putK kvs p.1 p.2) r).length ≤ _
    rw [List.length_cons]; omega
theorem carries_of {P : Program} {w : World} : ∀ {kvs : List (Key × V)} {ws : List (Value × Value)}, VV (kvs.map fun kv => (kV kv.1, kv.2)) ws → ∃ rs, Carries (mixKind P w) ws rs ∧ KV kvs rs
  | [], _, r => by rw [List.map_nil] at r; cases r; exact ⟨[], True.intro, .nil⟩
  | p :: kvs, _, r => by
    rw [List.map_cons] at r
    cases r with
    | @cons a b as bs h t =>
      obtain ⟨rs, c, q⟩ := carries_of (P := P) (w := w) t
      obtain ⟨b1, b2⟩ := b
      exact ⟨(p.1, b2) :: rs, ⟨kV_is h.1, rfl, c⟩, .cons ⟨rfl, h.2⟩ q⟩
def tDisp (trs : List (TE × TE)) : TE := fun σ H Q => ∀ p, H p = none → tPairs trs σ (upd H p (.dK [])) fun ps H2 => H2 p = some (.dK []) ∧ ∃ kvs : List (Key × V), ps = kvs.map (fun kv => (kV kv.1, kv.2)) ∧ kvs.length ≤ 15 ∧ Q (.ref p) (upd H2 p (.dK (mergeK [] kvs)))
theorem pe_disp {X : Cx} {pos : Pos} {keys : List (Option Expr)} {values : List Expr} {trs : List (TE × TE)} (h : PPs X pos keys values trs) (hall : keys.all (·.isSome) = true) (hl : keys.length = values.length) (h0 : keys ≠ [])
    (h15 : keys.length ≤ 15) : PE X (.Dict keys values pos) (tDisp trs) := by
  intro pins s σ H Q I q
  have hn := I.hok.fresh (Nat.le_refl s.heap.objs.size)
  have I1 := I.laid (a := s.heap.objs.size) (o := .dK []) (h' := s.heap.push { cls := .type "dict", data := .dict #[] }) (t' := s.toks) (fun _ _ q => Heap.get?_push_of_some _ q) (Nat.le_refl _) (dk_empty s.heap I.big)
  refine wpAny_Dict_walk (knd := mixKind X.prog X.w) hall hl h0 h15 (thn (h pins _ σ _ _ I1 (q _ hn)) fun ws s2 ⟨ps, H2, I2, rel, e, kvs, ep, lk, q2⟩ => ?_)
  subst ep
  obtain ⟨rs, c, rk⟩ := carries_of (P := X.prog) (w := X.w) rel
  obtain ⟨z, hd, vs0, r0, dd⟩ := dk_of I2.hok e
  cases r0
  refine ⟨rs, c, dd, fun h' dd' hs => ⟨.ref s.heap.objs.size, _, ?_, rfl, q2⟩⟩
  have hz : (mergeK [] kvs).length ≤ sizeLine := by
    have h1 := length_mergeK kvs []
    rw [List.length_nil] at h1
    rw [sizeLine_eq]; omega
  have he : ∃ q, h'.get? s.heap.objs.size = some q := let ⟨q, _, _, hq, _⟩ := dd'; ⟨q, hq⟩
  exact d_write I2 (by rw [e]; exact True.intro) hs he (dk_new hz hd (rk.merge .nil) dd')
structure M2 (X : Cx) (o : Expr) (m : Str) (apos : Pos) (e f : Expr) (cpos : Pos) : Prop where
  base : attributeBase o m X.env (eval o X.env) = eval o X.env
  few : ((backTo cpos (starEach [e, f] X.env)).all (fun x => !x.1) && (backToKw cpos (keywordEach [] X.env)).all (fun x => x.1.isSome)
    && decide (([e, f] : List Expr).length + ([] : List Keyword).length + (if ([] : List Keyword).isEmpty then 0 else 1) < 30)) = true
  line : (apos.endLine == cpos.line) = true
  trees : backTo cpos (starEach [e, f] X.env) = [(false, eval e X.env), (false, eval f X.env)]
def IsD (H : Hp) (a : Addr) : Prop := (∃ kvs, Rd H a (.dK kvs)) ∨ ∃ kvs, Rd H a (.dT kvs)
theorem isD_at {X : Cx} {pins : List (Addr × Obj)} {σ : St} {H : Hp} {s : Shared} {a : Addr} (I : Inv X pins σ H s) (d : IsD H a) :
    s.TypeIs (.ref a) "dict" ∧ (∀ b, Value.ref a = .ref b → ∃ ob, s.heap.get? b = some ob ∧ ob.dict = none) ∧ (a == sysModules) = false := by
  rcases d with ⟨kvs, e⟩ | ⟨kvs, e⟩
  · obtain ⟨_, hd, vs, _, dd⟩ := dk_rd I.hok e
    refine ⟨dd.typeIs, fun b q => ?_, hd⟩
    cases q
    obtain ⟨ob, _, _, h1, h2, _⟩ := dd
    exact ⟨ob, h1, h2.2.1⟩
  · obtain ⟨_, hd, xs, _, dd⟩ := dt_rd I.hok e
    refine ⟨dd.typeIs, fun b q => ?_, hd⟩
    cases q
    obtain ⟨ob, _, _, h1, h2, _⟩ := dd
    exact ⟨ob, h1, h2.2.1⟩
section
variable {X : Cx} {pins : List (Addr × Obj)} {σ : St} {H : Hp} {s : Shared} {a : Addr} {y d : V} {u r : Value} {o : Option V} {A : Around} {E : Value → Shared → Prop}
theorem d_get2 {Q : Value → Shared → Prop} (hu : A.units + 1 < cLine) (I : Inv X pins σ H s) (g : DGet H a y o) (ry : RelV y u) (rd : RelV d r) (h : ∀ w' s', Inv X pins σ H s' → RelV (o.getD d) w' → Q w' s') :
    wpAny (model X.prog X.w) A (call (.builtin "dict.get") [.ref a, u, r]) Q E s := by
  rcases g with ⟨kvs, k, e, ey, l⟩ | ⟨kvs, k, b, e, ey, eb, l⟩
  · subst ey
    obtain ⟨z, hd, vs, rel, dd⟩ := dk_rd I.hok e
    refine call_meetsIn PySem.F.slot_dict_get dd.typeIs PySem.F.entry_dict_get (PySem.F.args_dict_get_3 _ _ _) (meets_dict_get_default (mixKind X.prog X.w) a (kV_is ry) hd r) ⟨_, dd.mapOf, h _ _ (I.tok _) ?_⟩
    rw [l]
    exact (rel.val k).getD rd
  · subst ey
    cases (show u = Value.ref b from ry)
    obtain ⟨z, hd, xs, rel, dd⟩ := dt_rd I.hok e
    refine call_meetsIn PySem.F.slot_dict_get dd.typeIs PySem.F.entry_dict_get (PySem.F.args_dict_get_3 _ _ _) (meetsH_dict_get_default (tupleKind (mixKind X.prog X.w)) a b hd r) ⟨tupleKind_room_in1 hu, k, xs, key_of I.hok eb, dd, h _ _ (I.tok _) ?_⟩
    rw [l]
    exact (rel.val k).getD rd
end
def tDGet2 (td ty tx : TE) : TE := fun σ H Q => td σ H fun x H1 => ∃ a, x = .ref a ∧ IsD H1 a ∧ ty σ H1 fun y H2 => tx σ H2 fun z H3 => ∃ o, DGet H3 a y o ∧ Q (o.getD z) H3
section
variable {X : Cx} {o e f : Expr} {apos cpos : Pos} {td ty tx : TE}
theorem pe_dget2 (hu : X.A.units + 1 < cLine) (ho : PE X o td) (he : PE X e ty) (hf : PE X f tx) (m : M2 X o "get" apos e f cpos) : PE X (.Call (.Attribute o "get" apos) [e, f] [] cpos) (tDGet2 td ty tx) := by
  intro pins s σ H Q I h
  refine wpAny_Call_method m.base m.few m.line PySem.F.plainAttrs_dict PySem.F.slot_dict_get PySem.F.type_dict_get (thn (ho pins s σ H _ I h) fun u s1 ⟨x, H1, I1, rx, a, ex, d, q1⟩ => ?_)
  subst ex
  obtain rfl : u = Value.ref a := rx
  obtain ⟨t1, t2, _⟩ := isD_at I1 d
  refine ⟨t1, t2, ?_⟩
  rw [m.trees]
  refine Calls.callWith_builtin rfl (Calls.evalArgs_plain (Calls.spliced_cons (thn (he pins s1 σ H1 _ I1 q1) fun iv s2 ⟨y, H2, I2, ry, q2⟩ =>
    Calls.spliced_cons (thn (hf pins s2 σ H2 _ I2 q2) fun fv s3 ⟨z, H3, I3, rz, ov, g, q3⟩ => Calls.spliced_nil ?_))))
  exact d_get2 hu I3 g ry rz fun w' s4 I4 rw' => ⟨_, H3, I4, rw', q3⟩
end
section
variable {X : Cx} {pins : List (Addr × Obj)} {σ : St} {H : Hp} {s : Shared} {a : Addr} {kvs : List (Key × V)} {A : Around} {E : Value → Shared → Prop}
end
section
variable {X : Cx} {pins : List (Addr × Obj)} {σ : St} {H : Hp} {s : Shared} {a : Addr} {y : V} {u : Value} {A : Around} {E : Value → Shared → Prop}
end
end L2
namespace L2
open PySem PySem.Spec PyProof.Rows
section
variable {κ : Type} [DecidableEq κ]
end
end L2
set_option Elab.async false
set_option linter.all false
set_option maxRecDepth 100000
namespace STW
open PySem PyProof.Rows
section
variable {prog : Program} {w : World} {K : Type} [DecidableEq K] {knd : KeyKind prog w K} {A : Around} {E : Value → Shared → Prop} {s : Shared} {d : Addr} {kvs : List (K × Value)} {ep : Nat}
theorem sub_dd : isSubtype (.type "dict") (.type "dict") = pure true := by first | exact isSubtype_dict_dict | exact PySem.isSubtype_dict_dict | (rw [isSubtype_type]; kernel_rfl)
theorem hintDict (hm : s.heap.DictAt knd d kvs ep) {Q : Bool → Shared → Prop} (q : Q false s) : wpAny (model prog w) A (Builtin.List.listLengthHint (.ref d)) Q E s := by
  have ty : s.TypeIs (.ref d) "dict" := hm.dictOf.typeIs
  unfold Builtin.List.listLengthHint
  refine wpAny_bind (wpAny_specialOf ty F.slot_dict_len.lookup ?_)
  have e1 : splitId "dict.__len__" = some ("dict", "__len__") := by kernel_rfl
  dsimp only
  rw [e1]
  dsimp only
  refine wpAny_bind (wpAny_isInstance ty sub_dd ?_)
  rw [if_neg (by simp), if_pos (by kernel_rfl)]
  refine wpAny_bind (wpAny_typeOf ty ?_)
  exact wpAny_pure q
end
end STW
set_option Elab.async false
set_option linter.all false
set_option maxRecDepth 100000
namespace STW
open PySem PyProof.Rows
section
variable {prog : Program} {w : World} {K : Type} [DecidableEq K] {knd : KeyKind prog w K} {A : Around} {E : Value → Shared → Prop} {s : Shared} {d : Addr} {kvs : List (K × Value)} {ep : Nat} {ns : List Int} {b : Bool}
end
end STW
set_option Elab.async false
set_option linter.all false
set_option maxRecDepth 100000
namespace FD
open PySem PySem.Spec PyProof.Rows L2
variable [Tabs]
section
variable {X : Cx} {pos pp kp p1 p2 : Pos} {kk : Nat}
end
end FD
set_option Elab.async false
set_option linter.all false
set_option maxRecDepth 100000
namespace FD
open PySem PySem.Spec PyProof.Rows L2
variable [Tabs]
def Vl (τ : DS) : Prop := ∀ (i : Nat) (s : Sl), τ[i]? = some (some s) → ∃ d, s = .val d
omit [Tabs] in
theorem Vl.noObj {τ : DS} (v : Vl τ) : noObj τ := fun i s h => by
  cases s with
  | none => rfl
  | some s => obtain ⟨d, rfl⟩ := v i s h; rfl
omit [Tabs] in
theorem Vl.set {τ : DS} (v : Vl τ) (i : Nat) (d : D) : Vl (τ.set i (some (.val d))) := fun j s h => by
  rw [List.getElem?_set] at h
  split at h
  · split at h
    · cases h; exact ⟨d, rfl⟩
    · cases h
  · exact v j s h
def Soft (o : Option HO) : Prop := o = none ∨ (∃ vs, o = some (.lst vs)) ∨ ∃ ks, o = some (.dK ks)
theorem RS.free {K : PySem.W.Frag} {B Z F H : Hp} {τ : DS} {σ : St} {p : Addr} {o : HO} (R : RS K B Z F τ σ H) (v : Vl τ) (hb : B p = none) (hp : F p = none) (hl : Soft (H p)) (ho : ∀ a, o ≠ .own a := by intro _ h; cases h) : RS K B Z F τ σ (upd H p o) := by
  have ne : ∀ {a : Addr} {w : HO}, H a = some w → (∀ vs, w ≠ .lst vs) → (∀ ks, w ≠ .dK ks) → a ≠ p := fun {a w} h n1 n2 z => by
    subst z
    rcases hl with z | ⟨ws, z⟩ | ⟨ws, z⟩
    · rw [z] at h; cases h
    · rw [z] at h; cases h; exact n1 _ rfl
    · rw [z] at h; cases h; exact n2 _ rfl
  have own : ∀ (i : Nat) ds, τ[i]? ≠ some (some (.own ds)) := fun i ds h => by obtain ⟨d, e⟩ := v i _ h; cases e
  have obj : ∀ (i n : Nat) c fs, τ[i]? ≠ some (some (.obj n c fs)) := fun i n c fs h => by obtain ⟨d, e⟩ := v i _ h; cases e
  have obr : ∀ (i : Nat) c fs, τ[i]? ≠ some (some (.obr c fs)) := fun i c fs h => by obtain ⟨d, e⟩ := v i _ h; cases e
  refine ⟨⟨fun b u e => ?_, R.rv.len, R.rv.val, fun i ds h => absurd h (own i ds), fun i j ds es a _ h => absurd h (own i ds), ⟨fun r hr => ?_, fun d a h => ?_⟩, ObsOk.none v.noObj⟩, fun a u e => ?_, R.zf, R.nb, fun i ds a h => absurd h (own i ds), fun i n c fs a h => absurd h (obj i n c fs), fun a0 dx _ _ i n c fs h => absurd h (obj i _ c fs), fun i c fs a h => absurd h (obr i c fs)⟩
  · have : b ≠ p := fun z => by subst z; rw [hp] at e; cases e
    rw [upd_ne this]; exact R.rv.fh b u e
  · obtain ⟨t1, t2⟩ := R.rv.tt.1 r hr
    refine ⟨t1, ?_⟩
    rcases t2 with e | ⟨c, e, e2⟩
    · exact .inl (by rw [upd_ne (ne e (fun _ z => nomatch z) (fun _ z => nomatch z))]; exact e)
    · exact .inr ⟨c, by rw [upd_ne (ne e (fun _ z => nomatch z) (fun _ z => nomatch z))]; exact e, by rw [upd_ne (ne e2 (fun _ z => nomatch z) (fun _ z => nomatch z))]; exact e2⟩
  · by_cases z : d = p
    · subst z; rw [upd_same] at h; cases h; exact absurd rfl (ho a)
    · rw [upd_ne z] at h
      obtain ⟨C, dx, vs, e⟩ := R.rv.tt.2 d a h
      exact ⟨C, dx, vs, by rw [upd_ne (ne e (fun _ z => nomatch z) (fun _ z => nomatch z))]; exact e⟩
  · have : a ≠ p := fun z => by subst z; rw [hb] at e; cases e
    rw [upd_ne this]; exact R.bh a u e
theorem ext_none {F H F' H' : Hp} {a : Addr} {o : HO} (x : Ext F H F' H') (h : H a = some o) (f : F a = none) : F' a = none := by
  cases q : F' a with
  | none => rfl
  | some u =>
    rcases x.nw a u q with z | z
    · rw [f] at z; cases z
    · rw [h] at z; cases z
end FD
set_option Elab.async false
set_option linter.all false
set_option maxRecDepth 100000
namespace FD
open PySem PySem.Spec PyProof.Rows L2
variable [Tabs]
section
variable {X : Cx} {i : Nat} {y : Str} {e0 e0' e0'' e1 : Expr} {f0 f1 : FE} {q1 q2 q3 cp sp sp2 lp ap ip atp callp xp : Pos}
theorem ok_of {X : Cx} {α : Type} {r : Rs α} {a : α} {P : α → Prop} (h : r = .ok a) (p : P a) : Ok X r P := by rw [h]; exact p
theorem none_b {B H : Hp} {p : Addr} (h : Hh B H) (e : H p = none) : B p = none := by
  cases q : B p with
  | none => rfl
  | some o => exact absurd e (Kp.some (h p o q))
theorem none_f {F H : Hp} {p : Addr} (h : Same F H) (e : H p = none) : F p = none := by
  cases q : F p with
  | none => rfl
  | some o => have := h p o q; rw [e] at this; cases this
end
end FD
set_option Elab.async false
set_option linter.all false
set_option maxRecDepth 100000
namespace FD
open PySem PySem.Spec PyProof.Rows L2
variable [Tabs]
section
variable {X : Cx} {i r : Nat} {x y : Str} {e0 e0' e0'' e1 iter : Expr} {fi : FA} {q1 q2 q3 cp sp sp2 lp ap ip atp callp xp tp pos : Pos}
end
end FD
set_option Elab.async false
set_option linter.all false
set_option maxRecDepth 100000
namespace FD
open PySem PySem.Spec PyProof.Rows L2
variable [Tabs]
end FD
set_option Elab.async false
set_option linter.all false
set_option maxRecDepth 100000
namespace FD
open PySem PySem.Spec PyProof.Rows L2
variable [Tabs]
def vlB (τ : DS) : Bool := τ.all fun s => match s with
  | none => true
  | some (.val _) => true
  | _ => false
omit [Tabs] in
theorem vlB_vl {τ : DS} (h : vlB τ = true) : Vl τ := fun i s e => by
  have := List.all_eq_true.mp h (some s) (List.mem_of_getElem? e)
  cases s with
  | val d => exact ⟨d, rfl⟩
  | _ => cases this
theorem RS.drop {K : PySem.W.Frag} {B Z F H : Hp} {τ : DS} {σ : St} {i : Nat} {v : Option V} (R : RS K B Z F τ σ H) (vl : Vl τ) : RS K B Z F (τ.set i none) (σ.set i v) H ∧ Vl (τ.set i none) := by
  have get : ∀ (j : Nat) (s : Sl), (τ.set i none)[j]? = some (some s) → i ≠ j ∧ τ[j]? = some (some s) := fun j s h => by
    by_cases z : i = j
    · subst z
      rw [List.getElem?_set] at h
      simp only [if_true] at h
      split at h <;> cases h
    · rw [List.getElem?_set_ne z] at h; exact ⟨z, h⟩
  have vl' : Vl (τ.set i none) := fun j s h => vl j s (get j s h).2
  have own : ∀ (j : Nat) ds, (τ.set i none)[j]? ≠ some (some (.own ds)) := fun j ds h => by obtain ⟨d, e⟩ := vl' j _ h; cases e
  have obj : ∀ (j n : Nat) c fs, (τ.set i none)[j]? ≠ some (some (.obj n c fs)) := fun j n c fs h => by obtain ⟨d, e⟩ := vl' j _ h; cases e
  have obr : ∀ (j : Nat) c fs, (τ.set i none)[j]? ≠ some (some (.obr c fs)) := fun j c fs h => by obtain ⟨d, e⟩ := vl' j _ h; cases e
  refine ⟨⟨⟨R.rv.fh, by rw [List.length_set, List.length_set]; exact R.rv.len, fun j d h => ?_, fun j ds h => absurd h (own j ds), fun j k ds es a _ h => absurd h (own j ds), R.rv.tt, ObsOk.none vl'.noObj⟩, R.bh, R.zf, R.nb, fun j ds a h => absurd h (own j ds), fun j n c fs a h => absurd h (obj j n c fs), fun a0 dx _ _ j n c fs h => absurd h (obj j _ c fs), fun j c fs a h => absurd h (obr j c fs)⟩, vl'⟩
  obtain ⟨ne, e⟩ := get j _ h
  obtain ⟨w, h1, h2⟩ := R.rv.val j d e
  exact ⟨w, by rw [List.getElem?_set_ne ne]; exact h1, h2⟩
section
variable {X : Cx} {i r : Nat} {x y c : Str} {iter elt : Expr} {fi : FA} {body : List Stmt} {scope : Scope} {yp tp dp a1 fp rp cpos cp sp p1 p2 kp : Pos} {kk : Nat}
end
end FD
set_option Elab.async false
set_option linter.all false
set_option maxRecDepth 100000
namespace STW
open PySem PyProof.Rows
theorem lc_irr : ∀ x : List Nat, Spec.ltCps x x = false := fun x => by
  induction x with
  | nil => rfl
  | cons a x ih => show (decide (a < a) || (a == a && Spec.ltCps x x)) = false; rw [ih]; simp
theorem lc_tri : ∀ x y : List Nat, Spec.ltCps x y = false → Spec.ltCps y x = false → x = y := fun x => by
  induction x with
  | nil =>
    intro y h1 h2
    cases y with
    | nil => rfl
    | cons b y => cases h1
  | cons a x ih =>
    intro y h1 h2
    cases y with
    | nil => cases h2
    | cons b y =>
      have g1 : (decide (a < b) || (a == b && Spec.ltCps x y)) = false := h1
      have g2 : (decide (b < a) || (b == a && Spec.ltCps y x)) = false := h2
      rw [Bool.or_eq_false_iff, decide_eq_false_iff_not] at g1 g2
      have e : a = b := by omega
      subst e
      have g3 : Spec.ltCps x y = false := by simpa using g1.2
      have g4 : Spec.ltCps y x = false := by simpa using g2.2
      rw [ih y g3 g4]
theorem lc_trans : ∀ x y z : List Nat, Spec.ltCps y x = false → Spec.ltCps z y = false → Spec.ltCps z x = false := fun x => by
  induction x with
  | nil => intro y z _ _; cases z <;> rfl
  | cons a x ih =>
    intro y z h1 h2
    cases y with
    | nil => cases h1
    | cons b y =>
      cases z with
      | nil => cases h2
      | cons c z =>
        have g1 : (decide (b < a) || (b == a && Spec.ltCps y x)) = false := h1
        have g2 : (decide (c < b) || (c == b && Spec.ltCps z y)) = false := h2
        show (decide (c < a) || (c == a && Spec.ltCps z x)) = false
        rw [Bool.or_eq_false_iff, decide_eq_false_iff_not] at g1 g2 ⊢
        refine ⟨by omega, ?_⟩
        by_cases e : c = a
        · have e1 : b = a := by omega
          have e2 : c = b := by omega
          have g3 : Spec.ltCps y x = false := by simpa [e1] using g1.2
          have g4 : Spec.ltCps z y = false := by simpa [e2] using g2.2
          rw [ih y z g3 g4]; simp
        · simp [e]
theorem lc_asym (x y : List Nat) (h : Spec.ltCps x y = true) : Spec.ltCps y x = false := by
  cases e : Spec.ltCps y x with
  | false => rfl
  | true =>
    exfalso
    have aux : ∀ x y : List Nat, Spec.ltCps x y = true → Spec.ltCps y x = true → False := fun x => by
      induction x with
      | nil => intro y _ h2; cases y <;> cases h2
      | cons a x ih =>
        intro y h1 h2
        cases y with
        | nil => cases h1
        | cons b y =>
          have g1 : (decide (a < b) || (a == b && Spec.ltCps x y)) = true := h1
          have g2 : (decide (b < a) || (b == a && Spec.ltCps y x)) = true := h2
          simp only [Bool.or_eq_true, decide_eq_true_eq, Bool.and_eq_true, beq_iff_eq] at g1 g2
          rcases g1 with g1 | ⟨e1, g1⟩
          · rcases g2 with g2 | ⟨e2, _⟩ <;> omega
          · rcases g2 with g2 | ⟨_, g2⟩
            · omega
            · exact ih y g1 g2
    exact aux x y h e
def leS (a b : Str) : Prop := Spec.ltCps b.cps.toList a.cps.toList = false
theorem leS_trans {a b c : Str} (h1 : leS a b) (h2 : leS b c) : leS a c := lc_trans _ _ _ h1 h2
theorem leS_anti {a b : Str} (h1 : leS a b) (h2 : leS b a) : a = b := by
  have := lc_tri _ _ h2 h1
  cases a; cases b
  simp only at this
  congr
  exact Array.toList_inj.mp this
def insS (a : Str) : List Str → List Str
  | [] => [a]
  | b :: r => if Spec.ltCps b.cps.toList a.cps.toList = true then b :: insS a r else a :: b :: r
def srtS : List Str → List Str
  | [] => []
  | a :: r => insS a (srtS r)
theorem insS_perm (a : Str) : ∀ l, (insS a l).Perm (a :: l) := fun l => by
  induction l with
  | nil => exact List.Perm.refl _
  | cons b r ih =>
    unfold insS
    split
    · exact (ih.cons b).trans (List.Perm.swap a b r)
    · exact List.Perm.refl _
theorem srtS_perm : ∀ l, (srtS l).Perm l := fun l => by
  induction l with
  | nil => exact List.Perm.refl _
  | cons a r ih => exact (insS_perm a _).trans (ih.cons a)
theorem insS_up (a : Str) : ∀ l : List Str, l.Pairwise leS → (insS a l).Pairwise leS := fun l => by
  induction l with
  | nil => intro _; simp [insS]
  | cons b r ih =>
    intro h
    have h' := List.pairwise_cons.mp h
    unfold insS
    split
    · rename_i z
      refine List.pairwise_cons.mpr ⟨fun x hx => ?_, ih h'.2⟩
      rcases List.mem_cons.mp ((insS_perm a r).mem_iff.mp hx) with rfl | hx
      · exact lc_asym _ _ z
      · exact h'.1 x hx
    · rename_i z
      have hab : leS a b := by unfold leS; simpa using z
      refine List.pairwise_cons.mpr ⟨fun x hx => ?_, h⟩
      rcases List.mem_cons.mp hx with rfl | hx
      · exact hab
      · exact leS_trans hab (h'.1 x hx)
theorem srtS_up : ∀ l : List Str, (srtS l).Pairwise leS := fun l => by
  induction l with
  | nil => exact List.Pairwise.nil
  | cons a r ih => exact insS_up a _ ih
theorem upS_perm : ∀ {l m : List Str}, l.Pairwise leS → m.Pairwise leS → l.Perm m → l = m := fun {l} => by
  induction l with
  | nil => intro m _ _ p; rw [List.nil_perm.mp p]
  | cons a l ih =>
    intro m h1 h2 p
    cases m with
    | nil => have := p.length_eq; simp at this
    | cons b m =>
      have g1 := List.pairwise_cons.mp h1
      have g2 := List.pairwise_cons.mp h2
      have e : a = b := by
        have ha : a ∈ b :: m := p.mem_iff.mp List.mem_cons_self
        have hb : b ∈ a :: l := p.mem_iff.mpr List.mem_cons_self
        rcases List.mem_cons.mp ha with z | z
        · exact z
        · rcases List.mem_cons.mp hb with y | y
          · exact y.symm
          · exact leS_anti (g1.1 b y) (g2.1 a z)
      subst e
      rw [ih g1.2 g2.2 p.cons_inv]
theorem rising_pw : ∀ (l : List Str) (a : Str), risingS a l = true → (a :: l).Pairwise leS := fun l => by
  induction l with
  | nil => intro a _; simp
  | cons b l ih =>
    intro a h
    have h' : (!(Spec.ltCps b.cps.toList a.cps.toList) && risingS b l) = true := h
    rw [Bool.and_eq_true, Bool.not_eq_true'] at h'
    have p := ih b h'.2
    have p' := List.pairwise_cons.mp p
    refine List.pairwise_cons.mpr ⟨fun x hx => ?_, p⟩
    rcases List.mem_cons.mp hx with rfl | hx
    · exact h'.1
    · exact leS_trans (show leS a b from h'.1) (p'.1 x hx)
theorem sorted_pw {l : List Str} (h : sortedS l = true) : l.Pairwise leS := by
  cases l with
  | nil => exact List.Pairwise.nil
  | cons a l => exact rising_pw l a h
theorem srtS_eq {l m : List Str} (p : l.Perm m) (h : sortedS l = true) : l = srtS m := upS_perm (sorted_pw h) (srtS_up m) (p.trans (srtS_perm m).symm)
section
variable {prog : Program} {w : World} {K : Type} [DecidableEq K] {knd : PySem.KeyKind prog w K} {A : Around} {E : Value → Shared → Prop} {s : Shared} {d : Addr} {kvs : List (K × Value)} {ep : Nat} {ss : List Str}
end
end STW
set_option Elab.async false
set_option linter.all false
set_option maxRecDepth 100000
namespace FD
open PySem PySem.Spec PyProof.Rows L2
variable [Tabs]
section
variable {X : Cx}
end
end FD
set_option Elab.async false
set_option linter.all false
set_option maxRecDepth 100000
namespace FD
open PySem PySem.Spec PyProof.Rows L2
variable [Tabs]
abbrev FG2 := DS → List Str → Option (DS × List Str)
section
variable {X : Cx} {i r : Nat} {x y : Str} {e0 iter : Expr} {fk : FE} {fi : FA} {f : FG2} {q1 sp bp ap tp pos : Pos} {kk : Nat} {body : List Stmt}
end
omit [Tabs] in
theorem vals_str : ∀ {vs : List Value} {ns : List Str}, StrsAre vs ns → Vals (ns.map V.str) vs := fun {vs ns} h => by
  induction h with
  | nil => exact .nil
  | cons y t _ ih => exact .cons ⟨t, rfl⟩ ih
theorem Reps.strs {K : PySem.W.Frag} {F : Hp} (ks : List Str) : Reps K F (ks.map D.str) (ks.map V.str) := by
  induction ks with
  | nil => exact Reps.nil
  | cons k ks ih => exact Reps.cons (by simp only [Rep]) ih
section
variable {X : Cx} {i r : Nat} {x y sx : Str} {iter : Expr} {f : FG2} {st : Stmt} {yp dp a1 rp p1 pos pp : Pos}
end
end FD
set_option Elab.async false
set_option linter.all false
set_option maxRecDepth 100000
namespace STW
open PySem PyProof.Rows
def addS (ks : List Str) (k : Str) : List Str := if ks.any (· == k) then ks else ks ++ [k]
def fmT (val : Nat → Str) : Nat → List Str
  | 0 => []
  | n + 1 => addS (fmT val n) (val n)
theorem fmT_zero (val : Nat → Str) : fmT val 0 = [] := rfl
theorem fmT_succ (val : Nat → Str) (i : Nat) : fmT val (i + 1) = addS (fmT val i) (val i) := rfl
theorem stepT_length (ks : List Str) (k : Str) : (addS ks k).length = if ks.any (· == k) then ks.length else ks.length + 1 := by
  unfold addS; split <;> simp
theorem stepT_any (ks : List Str) (k k' : Str) : (addS ks k).any (· == k') = (ks.any (· == k') || decide (k' = k)) := by
  unfold addS
  split
  · rename_i h
    by_cases e : k' = k
    · subst e; rw [h]; rfl
    · simp [e]
  · rw [List.any_append]
    congr 1
    by_cases e : k' = k
    · subst e; simp
    · have e2 : ¬ k = k' := fun z => e z.symm
      simp [e, e2]
theorem fmT_le (val : Nat → Str) (n : Nat) : (fmT val n).length ≤ n := by
  induction n with
  | zero => exact Nat.le_refl _
  | succ n ih => rw [fmT_succ, stepT_length]; split <;> omega
theorem strs_at {vs : List Value} {ns : List Str} (h : StrsAre vs ns) : ∀ (i : Nat) (v : Value), vs[i]? = some v → ∃ t, v = .str (ns.getD i "") t := by
  induction h with
  | nil => intro i v e; simp at e
  | cons y t _ ih =>
    intro i v e
    cases i with
    | zero => simp at e; subst e; exact ⟨t, rfl⟩
    | succ i => simpa using ih i v (by simpa using e)
section
variable {prog : Program} {w : World} {A : Around} {R : Result → Shared → Prop} {I : Addr} {fp wr : List Addr} {G : Array GenState → Array GenState → Prop} {n : Nat} {P : Nat → Value → Prop} {St : Nat → Shared → Prop} {L : Bool}
theorem updLoopS (W : WalksS prog w A.in1 I fp wr G n P St) (Z : Addr) (hZ : Z ∉ fp) (val : Nat → Str) (hval : ∀ i v, P i v → ∃ t, v = .str (val i) t) (hb : n + 1 < scanBound) :
    ∀ (k i : Nat) (s : Shared), n - i = k → i ≤ n → St i s → SetT (strKind prog w) L s.heap Z (fun k' => (fmT val i).any (· == k')) (fmT val i).length →
      (∀ s', Moved (Z :: wr) G s s' → SetT (strKind prog w) L s'.heap Z (fun k' => (fmT val n).any (· == k')) (fmT val n).length → R (.ok (.ret .none)) s') →
      codeAny (model prog w) A (.builtin "set.update.loop" ⟨[.ref Z, .ref I], []⟩) R s := by
  have hw : Z ∉ wr := fun h => hZ (W.sub _ h)
  have up : ∀ b ∈ wr, b ∈ Z :: wr := fun b h => List.mem_cons_of_mem _ h
  intro k
  induction k with
  | zero =>
    intro i s hk hi hst hS hR
    obtain rfl : i = n := by omega
    refine codeAny_builtin PyProof.Rows.F.entry_set_update_loop ?_
    rw [Around.under_plainId PyProof.Rows.F.plain_set_update_loop _]
    show wpAny _ A.in1 (pyNext (.ref I) >>= _) _ _ s; refine wpAny_bind (W.done s _ _ hst fun s' hm => ?_)
    exact wpAny_pure (hR s' (hm.mono up) (hS.at fun o e => hm.heap Z _ hw e))
  | succ k ih =>
    intro i s hk hi hst hS hR
    refine codeAny_builtin PyProof.Rows.F.entry_set_update_loop ?_
    rw [Around.under_plainId PyProof.Rows.F.plain_set_update_loop _]
    show wpAny _ A.in1 (pyNext (.ref I) >>= _) _ _ s; refine wpAny_bind (W.item i s _ _ (by omega) hst fun v s' hP hst' hm => ?_)
    obtain ⟨t, rfl⟩ := hval i v hP
    have hS1 := hS.at (h' := s'.heap) fun o e => hm.heap Z _ hw e
    show wpAny _ A.in1 (holding [Value.str (val i) t] (setAdd Z (.str (val i) t)) >>= _) _ _ s'; refine wpAny_bind (wpAny_holding ?_)
    unfold setAdd
    refine wpAny_holding (wpAny_bind ((strKind prog w).pyHash (k := val i) (strKind_is _ _ _ _) ?_))
    have room : (fmT val i).length + 1 < scanBound := by have := fmT_le val i; omega
    refine addOk (knd := strKind prog w) (s := { s' with toks := s'.toks + 1 }) (strKind_is _ _ _ _) rfl hS1 room fun h' sb hS2 => ?_
    have hS3 := hS2.congr (S' := fun k' => (fmT val (i + 1)).any (· == k')) (n' := (fmT val (i + 1)).length) (fun k' => by rw [fmT_succ, stepT_any]) (by rw [fmT_succ, stepT_length])
    refine wpAny_pure ⟨plainId_quiet PyProof.Rows.F.plain_set_update_loop _, ih (i + 1) _ (by omega) (by omega) (W.frame _ s' _ _ hst' (Nat.le_succ _) fun b hb o e => ?_) hS3 fun s'' hm'' hS'' => ?_⟩
    · rw [sb.2 b (fun h : b = Z => hZ (by rw [← h]; exact hb))]; exact e
    · refine hR s'' (Moved.trans W.gtrans ((hm.mono up).then_heap (Nat.le_succ _) fun b o hb e => ?_) hm'') hS''
      rw [sb.2 b (fun h : b = Z => hb (by rw [h]; exact List.mem_cons_self))]; exact e
end
section
variable {prog : Program} {w : World} {A : Around} {E : Value → Shared → Prop} {s : Shared}
abbrev fmS (ns : List Str) (n : Nat) : List Str := fmT (fun i => ns.getD i "") n
def AftS (prog : Program) (w : World) (s : Shared) (ns : List Str) (n : Nat) (r : Value) (s2 : Shared) : Prop :=
  r = .none ∧ ∃ h' tk, s2 = { s with heap := h', toks := tk } ∧ SetT (strKind prog w) (ledOf w) h' s.heap.objs.size (fun k => (fmS ns n).any (· == k)) (fmS ns n).length ∧ ∀ b o, b < s.heap.objs.size → s.heap.get? b = some o → h'.get? b = some o
set_option maxRecDepth 100000 in
set_option maxHeartbeats 3200000 in
theorem callSetS {l : Addr} {items : Array Value} {ns : List Str} {Q : Value → Shared → Prop} (hh : A.handled = none) (hl : s.heap.IsList l items) (hi : StrsAre items.toList ns) (hb : items.size + 1 < scanBound)
    (h : ∀ (h' : Heap) (tk : Nat), SetT (strKind prog w) (ledOf w) h' s.heap.objs.size (fun k => (fmS ns items.size).any (· == k)) (fmS ns items.size).length → (∀ b o, b < s.heap.objs.size → s.heap.get? b = some o → h'.get? b = some o) → Q (.ref s.heap.objs.size) { s with heap := h', toks := tk }) :
    wpAny (model prog w) A (call (.type "set") [.ref l]) Q E s := by
  obtain ⟨c, tl, hmro⟩ := PySem.F.called_set.mro; have hmade := PySem.F.called_set.made; have hsub := PySem.F.called_set.sub
  refine wpAny_call (codeAny_of_tree ?_); show wpAny _ _ (callAny (.type "set") _) _ _ _
  refine wpAny_pure ⟨Code.quiet_builtin _ (by decide +kernel), codeAny_builtin F.entry_type_call ?_⟩; rw [Around.under_plain (weight_type_call_type "set" [.ref l] []) rfl]
  have h1 := PySem.F.called_set.notType; have h2 := PySem.F.called_set.canCreate; have hct := PySem.F.typeCall_set_1 (.ref l)
  repeat (any_goals (first | assumption | wp_step))
  refine codeAny_mono (newT (.ref l) (E := E) (Q₁ := fun obj s1 => obj = .ref s.heap.objs.size ∧ s1 = { s with heap := s.heap.push (fresh0 (ledOf w)) }) ⟨rfl, rfl⟩) fun r s1 hr => ?_
  cases r with
  | error e => exact hr
  | ok fl =>
    cases fl with
    | ret obj =>
      obtain ⟨rfl, rfl⟩ := hr
      generalize hled : ledOf w = led at h
      have hS : (s.heap.push (fresh0 led)).get? s.heap.objs.size = some (fresh0 led) := Heap.get?_push_size _ rfl
      have hT : Shared.TypeIs { s with heap := s.heap.push (fresh0 led) } (.ref s.heap.objs.size) "set" := ⟨_, hS, rfl⟩
      have hli := PySem.F.called_set.init.lookup; have hbi := PySem.F.called_set.init.bind (.ref s.heap.objs.size)
      repeat (any_goals (first | assumption | wp_step))
      refine codeAny_mono (codeAny_call_builtin (R := wants (AftS prog w s ns items.size) E) PySem.F.called_set.init.plain PySem.F.entry_set_init (check_set_init_1 hT ?_)) fun r2 s2 hr2 => ?_
      · obtain ⟨ol, hol, hcl, nl, hdl⟩ := hl
        obtain ⟨ocls, odict, odata, oslots⟩ := ol
        simp only at hcl hdl; subst hcl; subst hdl
        have hol' : (s.heap.push (fresh0 led)).get? l = some { cls := .type "list", dict := odict, data := .seq items nl, slots := oslots } := Heap.get?_push_of_some _ hol
        have hsls := PySem.F.sub_list_set; have hslf := PySem.F.sub_list_frozenset
        have hne : (Value.type "list" == Value.type "dict") = false := by decide
        have hl1 : (s.heap.push (fresh0 led)).IsList l items := ⟨_, hol', rfl, nl, rfl⟩
        unfold Builtin.«set.__init__» noKeywords Builtin.Frozenset.updateFrom; generalize hPI : pyIter = PI
        wp_walk
        subst hPI
        refine wpAny_pyIter_list hl1 (wpAny_bind (wpAny_runValue ?_))
        have hlS : l < s.heap.objs.size := Heap.lt_size hol
        have hh3 : A.in1.in1.in1.handled = none := by simp [hh]
        have es : (s.heap.push (fresh0 led)).objs.size = s.heap.objs.size + 1 := Heap.size_push _ _
        have hneI : l ≠ (s.heap.push (fresh0 led)).objs.size := by rw [es]; exact Nat.ne_of_lt (Nat.lt_succ_of_lt hlS)
        have hSf : s.heap.objs.size ∉ [(s.heap.push (fresh0 led)).objs.size, l] := by
          rw [es]; simp only [List.mem_cons, List.not_mem_nil, or_false, not_or]; exact ⟨Nat.ne_of_lt (Nat.lt_succ_self _), Nat.ne_of_gt hlS⟩
        have hval : ∀ (i : Nat) (v : Value), items[i]? = some v → ∃ t, v = .str ((fun i => ns.getD i "") i) t := fun i v hv => strs_at hi i v (by rw [Array.getElem?_toList]; exact hv)
        refine updLoopS (L := led) ((Walks.list hh3 _ l hneI items).toS) s.heap.objs.size hSf (fun i => ns.getD i "") hval hb (items.size - 0) 0 _ (by omega) (Nat.zero_le _) ⟨⟨_, Heap.get?_push_size _ rfl, rfl, rfl⟩, (hl1.push _)⟩ ?hS0 ?hR
        case hS0 =>
          refine ⟨fresh0 led, #[], 0, .fresh 0 0 led, Heap.get?_push_of_some _ hS, ⟨rfl, rfl, rfl⟩, rfl, fun e he => by simp at he, fun k => by simp [fmT_zero], by decide, by rfl, rfl, rfl, rfl, List.Pairwise.nil⟩
        case hR =>
          intro s' hm hS'
          obtain ⟨h', g', d', tk', os'⟩ := s'
          have eg : g' = s.gens := hm.gens; have ed : d' = s.drawn := hm.drawn; have eo : os' = s.os := hm.os
          subst eg; subst ed; subst eo
          show wpAny _ _ _ _ _ _; refine wpAny_pure ?_; show wpAny _ _ (ret Value.none) _ _ _
          refine wpAny_pure ⟨rfl, h', tk', rfl, by rw [hled]; exact hS', fun b o hb e => hm.heap b o ?_ (Heap.get?_push_of_some _ (Heap.get?_push_of_some _ e))⟩
          rw [es]; simp only [List.mem_cons, List.not_mem_nil, or_false, not_or]; exact ⟨Nat.ne_of_lt hb, Nat.ne_of_lt (Nat.lt_succ_of_lt hb)⟩
      · cases r2 with
        | error e => exact hr2
        | ok fl2 =>
          cases fl2 with
          | ret r =>
            obtain ⟨rfl, h', tk, rfl, hS', hk'⟩ := hr2
            rw [hled] at hS'
            repeat (any_goals (first | assumption | wp_step))
            exact h _ _ hS' hk'
          | _ => exact hr2.elim
    | _ => exact hr.elim
end
end STW
set_option Elab.async false
set_option linter.all false
set_option maxRecDepth 100000
namespace STW
open PySem PyProof.Rows
theorem fmT_nodup (val : Nat → Str) (n : Nat) : (fmT val n).Nodup := by
  induction n with
  | zero => exact List.nodup_nil
  | succ n ih =>
    rw [fmT_succ]; unfold addS
    split
    · exact ih
    · rename_i h
      have h : val n ∉ fmT val n := fun q => h (List.any_eq_true.mpr ⟨_, q, by simp⟩)
      exact List.nodup_append.mpr ⟨ih, by simp, fun x hx y hy => by have := List.mem_singleton.mp hy; subst this; exact fun e => h (e ▸ hx)⟩
theorem fmT_mem (val : Nat → Str) (x : Str) (n : Nat) : x ∈ fmT val n ↔ ∃ i, i < n ∧ val i = x := by
  induction n with
  | zero => simp [fmT]
  | succ n ih =>
    rw [fmT_succ]; unfold addS
    split
    · rename_i h
      rw [ih]
      constructor
      · rintro ⟨i, a, b⟩; exact ⟨i, by omega, b⟩
      · rintro ⟨i, a, b⟩
        rcases Nat.lt_or_eq_of_le (Nat.le_of_lt_succ a) with z | z
        · exact ⟨i, z, b⟩
        · subst z
          obtain ⟨y, hy, e⟩ := List.any_eq_true.mp h
          have e : y = val i := by simpa using e
          rw [e, b] at hy
          exact ih.mp hy
    · rw [List.mem_append, ih, List.mem_singleton]
      constructor
      · rintro (⟨i, a, b⟩ | e)
        · exact ⟨i, by omega, b⟩
        · exact ⟨n, Nat.lt_succ_self _, e.symm⟩
      · rintro ⟨i, a, b⟩
        rcases Nat.lt_or_eq_of_le (Nat.le_of_lt_succ a) with z | z
        · exact .inl ⟨i, z, b⟩
        · subst z; exact .inr b.symm
theorem fmS_mem (ns : List Str) (x : Str) : x ∈ fmS ns ns.length ↔ x ∈ ns := by
  unfold fmS
  rw [fmT_mem]
  constructor
  · rintro ⟨i, a, rfl⟩
    have : ns.getD i "" = ns[i] := by simp [a]
    rw [this]; exact List.getElem_mem a
  · intro h
    obtain ⟨i, a, rfl⟩ := List.mem_iff_getElem.mp h
    exact ⟨i, a, by simp [a]⟩
theorem strs_ex : ∀ {vs : List Value}, (∀ v ∈ vs, ∃ k t, v = Value.str k t) → ∃ ns, StrsAre vs ns := fun {vs} => by
  induction vs with
  | nil => intro _; exact ⟨[], .nil⟩
  | cons v vs ih =>
    intro h
    obtain ⟨k, t, rfl⟩ := h v List.mem_cons_self
    obtain ⟨ns, hn⟩ := ih fun v hv => h v (List.mem_cons_of_mem _ hv)
    exact ⟨k :: ns, .cons k t hn⟩
theorem strs_mem {vs : List Value} {ns : List Str} (h : StrsAre vs ns) (x : Str) : x ∈ ns ↔ ∃ t, Value.str x t ∈ vs := by
  induction h with
  | nil => simp
  | cons y t _ ih =>
    rw [List.mem_cons, ih]
    constructor
    · rintro (rfl | ⟨u, hu⟩)
      · exact ⟨t, List.mem_cons_self⟩
      · exact ⟨u, List.mem_cons_of_mem _ hu⟩
    · rintro ⟨u, hu⟩
      rcases List.mem_cons.mp hu with e | e
      · cases e; exact .inl rfl
      · exact .inr ⟨u, e⟩
theorem strs_map {vs : List Value} {ns : List Str} (h : StrsAre vs ns) : ns = vs.map strOf := h.strs.symm
theorem strs_perm {vs us : List Value} {ns : List Str} (h : StrsAre vs ns) (p : us.Perm vs) : ∃ ms, StrsAre us ms ∧ ms.Perm ns := by
  obtain ⟨ms, hm⟩ := strs_ex (vs := us) fun v hv => h.all v (p.mem_iff.mp hv)
  refine ⟨ms, hm, ?_⟩
  rw [strs_map hm, strs_map h]; exact p.map _
theorem perm_ofS : ∀ {m l : List Str}, m.Nodup → (∀ x, x ∈ m → x ∈ l) → l.length ≤ m.length → m.Perm l := fun {m} => by
  induction m with
  | nil => intro l _ _ h; rw [List.length_eq_zero_iff.mp (Nat.le_zero.mp h)]
  | cons a m ih =>
    intro l hn hs h
    have h' := List.nodup_cons.mp hn
    have ha := hs a List.mem_cons_self
    refine ((ih (l := l.erase a) h'.2 (fun x hx => ?_) ?_).cons a).trans (List.perm_cons_erase ha).symm
    · exact (List.mem_erase_of_ne (fun e : x = a => h'.1 (by rw [← e]; exact hx))).mpr (hs x (List.mem_cons_of_mem _ hx))
    · rw [List.length_erase_of_mem ha]; simp only [List.length_cons] at h; omega
section
variable {prog : Program} {w : World} {A : Around} {E : Value → Shared → Prop} {s : Shared} {a : Addr} {ns : List Str} {n : Nat}
theorem setValsS {h : Heap} (hS : SetT (strKind prog w) (ledOf w) h a (fun k => (fmS ns ns.length).any (· == k)) (fmS ns ns.length).length) :
    ∃ es ep t, SetAt h a es ep t ∧ TT (ledOf w) t ∧ es.size < scanBound ∧ ∃ ms, StrsAre (es.toList.map (·.2)) ms ∧ ms.Perm (fmS ns ns.length) := by
  obtain ⟨o, es, ep, t, ho, hx, hd, hel, hmem, hb, hf, hn, hT⟩ := hS
  refine ⟨es, ep, t, ⟨⟨o, ho, hx, hd⟩, hf⟩, hT, hb, ?_⟩
  have isS : ∀ (k : Str) (v : Value), (strKind prog w).is k v = true → ∃ t, v = Value.str k t := fun k v h => Value.isStrOf_shape h
  obtain ⟨ms, hm⟩ := strs_ex (vs := es.toList.map (·.2)) fun v hv => by
    obtain ⟨e, he, rfl⟩ := List.mem_map.mp hv
    obtain ⟨⟨k, hk, _⟩, _⟩ := hel e he
    obtain ⟨t, e⟩ := isS k _ hk
    exact ⟨k, t, e⟩
  refine ⟨ms, hm, ?_⟩
  have mem : ∀ x, x ∈ fmS ns ns.length → x ∈ ms := fun x hx => by
    have := (hmem x).mp (List.any_eq_true.mpr ⟨x, hx, by simp⟩)
    obtain ⟨e, he, hk⟩ := this
    obtain ⟨t, z⟩ := isS x _ hk
    exact (strs_mem hm x).mpr ⟨t, by rw [← z]; exact List.mem_map_of_mem he⟩
  have hl : ms.length = es.size := by
    have := congrArg List.length (strs_map hm)
    simpa using this
  exact (perm_ofS (fmT_nodup _ _) mem (by rw [hl, hn]; exact Nat.le_refl _)).symm
theorem sortSetS (hh : A.handled = none) (hS : SetT (strKind prog w) (ledOf w) s.heap a (fun k => (fmS ns ns.length).any (· == k)) (fmS ns ns.length).length) (h64 : ns.length < 64) {Q : Value → Shared → Prop}
    (q : ∀ h' d' tk b (out : List Value) e, h'.get? b = some (seqObj "list" out.toArray e) → StrsAre out (srtS (fmS ns ns.length)) → s.heap.objs.size ≤ b → (∀ b o, s.heap.get? b = some o → h'.get? b = some o) → Q (.ref b) { s with heap := h', drawn := d', toks := tk }) :
    wpAny (model prog w) A (call (.builtin "sorted") [.ref a]) Q E s := by
  obtain ⟨es, ep, t, hA, hT, hb, ms, hm, hp⟩ := setValsS hS
  refine Calls.call_function_entry kind_sorted plain_sorted entry_sorted (args_sorted1 _) ?_
  unfold Builtin.«sorted»
  refine wpAny_bind (m := checkCount "sorted" 1 1 _) (wpAny_pure ?_)
  refine wpAny_bind (collectSet hA hT hb (by simp [hh]) fun ord h1 d' tk po hk hz => ?_)
  obtain ⟨ms', hm', hp'⟩ := strs_perm hm po
  have hl : ord.length < 64 := by
    have e1 := congrArg List.length (strs_map hm'); have e2 := (hp'.trans hp).length_eq; have e3 := fmT_le (fun i => ns.getD i "") ns.length
    have e2' : ms'.length = (fmT (fun i => ns.getD i "") ns.length).length := e2
    rw [List.length_map] at e1
    omega
  refine wpAny_bind (wpAny_newList ?_ (fits_of_scanBound (by rw [po.length_eq, List.length_map, Array.length_toList]; exact hb)))
  have hoL : (h1.push (seqObj "list" ord.toArray 0)).get? h1.objs.size = some (seqObj "list" ord.toArray 0) := Heap.get?_push_size _ rfl
  show wpAny _ _ _ _ _ { s with heap := h1.push (seqObj "list" ord.toArray 0), drawn := d', toks := tk }
  refine wpAny_bind (wpAny_holding (wpAny_call_entry slot_list_sort ⟨_, hoL, rfl⟩ entry_list_sort (list_sort_treeK (s := { s with heap := h1.push (seqObj "list" ord.toArray 0), drawn := d', toks := tk }) strKind_oneLt hoL hm'.keysOf (fun v1 v2 r e => ?_) hl fun st' a2 a3 => ⟨_, rfl, ?_⟩) (args_list_sort _)))
  · subst e; exact keyKind_strs hm'
  obtain ⟨ss', b1, b2, b3⟩ := sorted_out_str hm' a2 a3
  have en : ss' = srtS (fmS ns ns.length) := srtS_eq (b2.trans (hp'.trans hp)) b3
  subst en
  obtain ⟨e, he⟩ := sortedHeap_at (out := Array.map (fun x => x.snd) (arrOf st')) hoL
  refine wpAny_pure ⟨_, rfl, q _ _ _ h1.objs.size (Array.map (fun x => x.snd) (arrOf st')).toList e (by rw [Array.toArray_toList]; exact he) b1 (Nat.le_of_lt hz) fun b o hb => ?_⟩
  have hb1 := hk b o hb
  have hlt := Heap.lt_size hb1
  rw [sortedHeap_old (Nat.ne_of_lt hlt) (by rw [size_push']; exact Nat.lt_succ_of_lt hlt)]
  exact Heap.get?_push_of_some _ hb1
end
end STW
set_option Elab.async false
set_option linter.all false
set_option maxRecDepth 100000
namespace FD
open PySem PySem.Spec PyProof.Rows L2
variable [Tabs]
def setS : List D → Rs (List D)
  | [.lst ds] => match strsOf ds with
    | some ns => if ns.length < 64 then .ok ((STW.srtS (STW.fmS ns ns.length)).map D.str) else .no
    | none => .no
  | _ => .no
section
variable {X : Cx} {e : Expr} {pos : Pos} {fs : FA}
theorem pdf_sortSetS {p p2 pos2 : Pos} (hc : X.calm = true) (hl : Gl X "sorted") (hml : X.mg "sorted" = none) (hg : Gl X "set") (hm : X.mg "set" = none) (ha : PDA X [e] fs) (hs : starEach [e] X.env = [(false, eval e X.env)] := by rfl)
    (he : starEach [.Call (.Name "set" p2) [e] [] pos2] X.env = (false, eval (.Call (.Name "set" p2) [e] [] pos2) X.env) :: starEach [] X.env := by rfl) (hpl : (backTo pos (starEach [] X.env)).any (·.1) = false := by rfl) :
    PDF X (.Call (.Name "sorted" p) [.Call (.Name "set" p2) [e] [] pos2] [] pos) (fun τ => (fs τ).bind setS) := by
  intro pins s σ H Q I ⟨F, τ, R, h⟩
  refine wpAny_Call_Name_kw (ld_blt I hl hml PyProof.Rows.boot_sorted ?_)
  refine PyProof.Rows.callWith_builtin1 ?_ he hpl
  rw [he]
  show wpAny _ _ (spliced ((false, eval (.Call (.Name "set" p2) [e] [] pos2) X.env) :: backTo pos (starEach [] X.env))) _ _ s
  refine Calls.spliced_cons ?_
  have h := h.bind
  generalize hG : (fun ds => Ok X (setS ds) fun ds => ∀ (p : Addr) (vs : List V) (F' H' : Hp), Ext F H F' H' → H' p = none → Reps X.K F' ds vs → Q (V.ref p) (upd H' p (HO.lst vs))) = G at h
  refine Call_ (ld_blt I hg hm boot_set (PyProof.Rows.callWith_type1 (thn (ha pos2 pins s σ H (fun vs H1 => ∃ ds F1, G ds ∧ Ext F H F1 H1 ∧ RV X.K F1 τ σ H1 ∧ Reps X.K F1 ds vs) I (tAs.of R h fun ds vs F1 H1 g x R1 r => ⟨ds, F1, g, x, R1, r⟩)) fun us s1 ⟨vs, H1, I1, r1, ds, F1, g, x, R1, r⟩ => ?_) hs rfl))
  subst hG
  obtain ⟨ds', ns, e1, hns, h64, gq⟩ : ∃ (ds' : List D) (ns : List Str), ds = [.lst ds'] ∧ strsOf ds' = some ns ∧ ns.length < 64 ∧ ∀ (p : Addr) (vs : List V) (F' H' : Hp), Ext F H F' H' → H' p = none → Reps X.K F' ((STW.srtS (STW.fmS ns ns.length)).map D.str) vs → Q (V.ref p) (upd H' p (HO.lst vs)) := by
    unfold setS at g
    split at g
    · rename_i ds'
      cases q : strsOf ds' with
      | none => rw [q] at g; exact g.elim
      | some ns =>
        rw [q] at g
        obtain ⟨z, g⟩ := ok_ite g
        exact ⟨ds', ns, rfl, q, z, g⟩
    · exact g.elim
  subst e1
  obtain ⟨v, rfl, r2⟩ := r.one
  simp only [Rep] at r2
  obtain ⟨l, ws, rfl, e1, t⟩ := r2
  cases r1 with
  | cons ra rr =>
    cases rr; cases ra
    obtain ⟨its, rv, ⟨o, nn, eo, hcl, hd0, hd⟩, hz⟩ := I1.list (SqL.of (K := X.K) (R1.fh _ _ e1))
    have hi : StrsAre its ns := strs_vals hns t rv
    have hlen : its.length = ns.length := by have := congrArg List.length hi.strs; simpa using this
    refine STW.callSetS (I1.ok.hd hc) ⟨o, eo, hcl, nn, hd⟩ (by simpa using hi) (by rw [List.size_toArray, hlen]; exact Nat.lt_of_le_of_lt (Nat.succ_le_of_lt h64) (by decide)) fun h' tk hS hk => ?_
    have hlen' : its.toArray.size = ns.length := by simpa using hlen
    rw [hlen'] at hS
    refine Calls.spliced_nil ?_
    refine STW.sortSetS (s := { s1 with heap := h', toks := tk }) (I1.ok.hd hc) hS h64 fun h2 d2 tk2 b out ep hb ho hsz hk2 => ?_
    have kk : ∀ c u, s1.heap.get? c = some u → h2.get? c = some u := fun c u q => hk2 c u (hk c u (Heap.lt_size q) q)
    have hp : s1.heap.objs.size ≤ b := by
      obtain ⟨o2, _, _, _, ho2, _⟩ := hS
      exact Nat.le_trans (Nat.le_of_lt (Heap.lt_size ho2)) hsz
    have I2 := inv_drawn d2 I1
    have nH : H1 b = none := I1.hok.fresh hp
    have ll : ((STW.srtS (STW.fmS ns ns.length)).map V.str).length ≤ sizeLine := by
      rw [List.length_map, (STW.srtS_perm _).length_eq]
      exact Nat.le_of_lt (small1000 (by have := STW.fmT_le (fun i => ns.getD i "") ns.length; show (STW.fmT _ _).length ≤ _; omega))
    exact ⟨.ref b, _, I2.laid (t' := tk2) (o := .lst ((STW.srtS (STW.fmS ns ns.length)).map V.str)) kk hp ⟨ll, out, ep, vals_str ho, hb⟩, rfl, gq b _ F1 H1 x nH (Reps.strs _)⟩
end
end FD
set_option Elab.async false
set_option linter.all false
set_option maxRecDepth 100000
namespace STW
open PySem PyProof.Rows
section
variable {prog : Program} {w : World} {K : Type} [DecidableEq K] {knd : KeyKind prog w K} {A : Around} {E : Value → Shared → Prop} {s : Shared} {d : Addr} {kvs : List (K × Value)} {ep : Nat}
theorem extendDict {R : Result → Shared → Prop} (hd : (d == sysModules) = false) (hm : s.heap.DictAt knd d kvs ep) (hz : kvs.length ≤ sizeLine) (hh : A.handled = none) (S : Addr) (res : Value) (c₀ : Nat) (hS : s.heap.get? S = some { cls := .type "list", data := .seq #[] c₀ })
    (hR : ∀ h' tk acc' c', (∀ b o, b ≠ S → s.heap.get? b = some o → h'.get? b = some o) → h'.get? S = some { cls := .type "list", dict := none, data := .seq acc' c', slots := #[] } →
      ItemsOf (fun i v => ∃ k x, kvs[i]? = some (k, x) ∧ knd.is k v = true) acc' kvs.length → R (.ok (.ret res)) { s with heap := h', toks := tk }) :
    wpAny (model prog w) A.in1 (Builtin.List.listExtendWith (.ref S) (.ref d) res)
      (fun fin s' => match fin with | .done f => R (.ok f) s' | .again c' => c'.quiet = true ∧ codeAny (model prog w) A c' R s') (fun e s' => R (.error e) s') s := by
  have ty : s.TypeIs (.ref d) "dict" := hm.dictOf.typeIs
  have hlt : d < s.heap.objs.size := hm.lt_size
  have hSd : S ≠ d := fun e => by
    obtain ⟨o, es, ho, hc, hdat, _⟩ := hm
    rw [e, ho] at hS; cases hS; cases hdat
  have hSlt : S < s.heap.objs.size := Heap.lt_size hS
  have hSI : S ≠ s.heap.objs.size := Nat.ne_of_lt hSlt
  have hne : d ≠ s.heap.objs.size := Nat.ne_of_lt hlt
  unfold Builtin.List.listExtendWith
  refine wpAny_bind (wpAny_typeOf ty ?_)
  have c1 : Builtin.List.listSameRef (.ref S) (.ref d) = false := by simp [Builtin.List.listSameRef, hSd]
  have c2 : (Value.type "dict" == Value.type "list") = false := by decide
  have c3 : (Value.type "dict" == Value.type "tuple") = false := by decide
  simp only [c1, c2, c3, Bool.or_false, Bool.false_eq_true, if_false]
  refine wpAny_bind (wpAny_pyIter_dict hd hm ?_)
  generalize hh1 : s.heap.push { cls := .type "dict_keyiterator", data := .fields #[.ref d, .int 0 0, .int kvs.length 0, .int ep 0] } = h1
  have kp : ∀ b o, s.heap.get? b = some o → h1.get? b = some o := fun b o e => by rw [← hh1]; exact Heap.get?_push_of_some _ e
  have hm2 : h1.DictAt knd d kvs ep := hm.keep kp
  have hI : h1.get? s.heap.objs.size = some { cls := .type "dict_keyiterator", data := .fields #[.ref d, .int 0 0, .int kvs.length 0, .int ep 0] } := by rw [← hh1]; exact Heap.get?_push_size _ rfl
  have W' := (Walks.dictKeys (knd := knd) (prog := prog) (w := w) (A := A.in1) (by simp [hh]) s.heap.objs.size d hne kvs ep).toS
  refine wpAny_bind (wpAny_holding (hintDict (s := { s with heap := h1 }) hm2 ?_))
  rw [if_pos (by kernel_rfl)]
  refine wpAny_bind (wpAny_rule (wpAny_bind ?_))
  show wpAny _ A.in1 (updateSeq S (·.push .none) >>= fun _ => updateSeq S (·.pop)) _ _ _
  have g1 := kp _ _ hS
  refine wpAny_bind (wpAny_updateSeq g1 rfl ?_)
  have g2 := Heap.get?_update_self (Obj.mapSeq (·.push Value.none)) g1 rfl
  refine wpAny_updateSeq (hz := by seq_fits) g2 rfl ?_
  have g3 := Heap.get?_update_self (Obj.mapSeq (·.pop)) g2 rfl
  have oth : ∀ b o, b ≠ S → h1.get? b = some o → ((h1.update S (Obj.mapSeq (·.push Value.none))).update S (Obj.mapSeq (·.pop))).get? b = some o := fun b o hb e =>
    (Heap.get?_update_other _ _ (Ne.symm hb)).trans ((Heap.get?_update_other _ _ (Ne.symm hb)).trans e)
  have hSf : S ∉ [s.heap.objs.size, d] := by
    simp only [List.mem_cons, List.not_mem_nil, or_false, not_or]; exact ⟨hSI, hSd⟩
  have st0 : h1.IsKeyIter s.heap.objs.size d 0 kvs.length ep ∧ h1.DictAt knd d kvs ep := ⟨⟨_, hI, rfl, rfl⟩, hm2⟩
  have st1 := W'.frame 0 { s with heap := h1 } ((h1.update S (Obj.mapSeq (·.push Value.none))).update S (Obj.mapSeq (·.pop))) s.toks st0 (by simp) fun b hb o e => oth b o (fun h => hSf (h ▸ hb)) e
  refine wpAny_pure ⟨plainId_quiet F.plain_extend_loop _, codeAny_extend_loopS (A := A) W' hz _ hSf _ _ 0 _ _ _ rfl (Nat.zero_le _) st1 g3 (ItemsOf.nil _) fun s' acc' c' hmv hS' hacc => ?_⟩
  have eq : s' = { s with heap := s'.heap, toks := s'.toks } := by
    obtain ⟨_, g, dd, o, _⟩ := hmv
    cases s'; simp only at g dd o; subst g; subst dd; subst o; rfl
  rw [eq]
  refine hR _ _ _ _ (fun b o hb e => hmv.heap b o ?_ ?_) hS' hacc
  · have hb' := Heap.lt_size e
    simp only [List.mem_cons, List.not_mem_nil, or_false, not_or]
    exact ⟨hb, Nat.ne_of_lt hb'⟩
  · exact oth b o hb (kp b o e)
theorem callListDict {Q : Value → Shared → Prop} (hd : (d == sysModules) = false) (hm : s.heap.DictAt knd d kvs ep) (hz : kvs.length ≤ sizeLine) (hh : A.handled = none)
    (hQ : ∀ h' tk acc' c', (∀ b o, s.heap.get? b = some o → h'.get? b = some o) →
      h'.get? s.heap.objs.size = some { cls := .type "list", dict := none, data := .seq acc' c', slots := #[] } → ItemsOf (fun i v => ∃ k x, kvs[i]? = some (k, x) ∧ knd.is k v = true) acc' kvs.length → Q (.ref s.heap.objs.size) { s with heap := h', toks := tk }) :
    wpAny (model prog w) A (call (.type "list") [.ref d]) Q E s := by
  refine callType_codes (Q₁ := fun obj s₁ => obj = .ref s.heap.objs.size ∧ s₁ = { s with heap := s.heap.push { cls := .type "list", data := .seq #[] } }) F.called_list (F.typeCall_list_1 _) F.entry_list_init
    (code_list_new _ ⟨rfl, rfl⟩) fun obj s₁ h₁ => ?_
  obtain ⟨rfl, rfl⟩ := h₁
  have hS : (s.heap.push { cls := .type "list", data := .seq #[] }).get? s.heap.objs.size = some { cls := .type "list", data := .seq #[] } := Heap.get?_push_size _ rfl
  have hm1 : (s.heap.push { cls := .type "list", data := .seq #[] }).DictAt knd d kvs ep := hm.push _
  refine ⟨⟨_, hS, rfl⟩, F.args_list_init_2 _ _, ?_⟩
  have hSr : s.heap.objs.size ≠ d := Nat.ne_of_gt hm.lt_size
  show wpAny _ _ (do let old ← Builtin.List.listItems (.ref s.heap.objs.size); Builtin.List.listUpdate (.ref s.heap.objs.size) (fun _ => #[]); letGo old.toList.reverse; Builtin.List.listExtendWith (.ref s.heap.objs.size) (.ref d) .none) _ _ _
  refine wpAny_bind ?_
  unfold Builtin.List.listItems
  refine wpAny_bind (wpAny_seqItems hS rfl (wpAny_pure ?_))
  show wpAny _ _ (updateSeq s.heap.objs.size (fun _ => #[]) >>= fun _ => letGo (#[] : Array Value).toList.reverse >>= fun _ => Builtin.List.listExtendWith (.ref s.heap.objs.size) (.ref d) .none) _ _ _
  refine wpAny_bind (wpAny_updateSeq hS rfl ?_)
  have hS₂ := Heap.get?_update_self (Obj.mapSeq (fun _ => (#[] : Array Value))) hS rfl
  have oth : ∀ b o, b ≠ s.heap.objs.size → (s.heap.push { cls := .type "list", data := .seq #[] }).get? b = some o → ((s.heap.push { cls := .type "list", data := .seq #[] }).update s.heap.objs.size (Obj.mapSeq (fun _ => (#[] : Array Value)))).get? b = some o :=
    fun b o hb e => (Heap.get?_update_other _ _ (Ne.symm hb)).trans e
  refine wpAny_bind (wpAny_letGo ?_)
  have hm2 : ((s.heap.push { cls := .type "list", data := .seq #[] }).update s.heap.objs.size (Obj.mapSeq (fun _ => (#[] : Array Value)))).DictAt knd d kvs ep := hm1.at' fun o e => oth d o (Ne.symm hSr) e
  refine extendDict (A := A.in1) (s := { s with heap := (s.heap.push { cls := .type "list", data := .seq #[] }).update s.heap.objs.size (Obj.mapSeq (fun _ => (#[] : Array Value))) }) hd hm2 hz (by simp [hh]) s.heap.objs.size .none _ hS₂ fun h' tk acc' c' hk hS' hacc => ?_
  exact ⟨rfl, hQ h' tk acc' c' (fun b o e => hk b o (Nat.ne_of_lt (Heap.lt_size e)) (oth b o (Nat.ne_of_lt (Heap.lt_size e)) (Heap.get?_push_of_some _ e))) hS' hacc⟩
end
end STW
set_option Elab.async false
set_option linter.all false
set_option maxRecDepth 100000
namespace FD
open PySem PySem.Spec PyProof.Rows L2
theorem inv_frz {X : Cx} {pins : List (Addr × Obj)} {σ : St} {H : Hp} {s : Shared} {d : Addr} {kvs : List (Key × V)} {o : Obj} (I : Inv X pins σ H s) (e : H d = some (.dK kvs)) (ho : s.heap.get? d = some o) : Inv X pins σ (upd H d (.frz o (.dK kvs))) s := by
  have ne : ∀ {b : Addr} {u : HO}, H b = some u → (∀ ks, u ≠ .dK ks) → b ≠ d := fun {b u} h n z => by subst z; rw [e] at h; cases h; exact n _ rfl
  refine I.un (t' := s.toks) ⟨fun b u q _ _ _ => q, fun b u q _ _ _ => ⟨u.slots, q⟩, fun b u _ n _ => ?_, fun b u q _ => ⟨u, q⟩, fun b xs q => ?_, fun b u w q => ?_, fun b ps q => ?_⟩ fun b u q => ?_
  · rw [upd_ne (fun z => by subst z; rw [e] at n; cases n)]; exact n
  · rw [upd_ne (ne q fun _ z => nomatch z)]; exact q
  · rw [upd_ne (ne q fun _ z => nomatch z)]; exact q
  · exact ⟨#[], by rw [upd_ne (ne q fun _ z => nomatch z)]; simpa using q⟩
  · by_cases hb : b = d
    · subst hb; rw [upd_same] at q; cases q
      have z := I.hok b _ e
      exact ⟨ho, z⟩
    · rw [upd_ne hb] at q
      exact (I.hok b u q).stay (fun c v _ q => q) (fun c q => by rw [upd_ne (ne q fun _ z => nomatch z)]; exact q) fun c xs q => by rw [upd_ne (ne q fun _ z => nomatch z)]; exact q
theorem pe_frz {X : Cx} {e : Expr} {t : TE} (h : PE X e t) : PE X e (fun σ H Q => t σ H fun v H1 => ∃ d kvs, v = .ref d ∧ H1 d = some (.dK kvs) ∧ ∀ o, Q v (upd H1 d (.frz o (.dK kvs)))) := fun pins s σ H Q I q => by
  refine thn (h pins s σ H _ I q) fun u s1 ⟨v, H1, I1, r1, d, kvs, e1, e2, q2⟩ => ?_
  obtain ⟨_, _, vs, _, o, es, ep, ho, _⟩ := dk_of I1.hok e2
  exact ⟨v, _, inv_frz I1 e2 ho, r1, q2 o⟩
theorem rel_key {P : Program} {w : World} {k : Key} {u : Value} (h : (mixKind P w).is k u = true) : RelV (kV k) u := by
  cases k with
  | inl n => exact Value.isInt_shape h
  | inr x => exact Value.isStrOf_shape h
def Itk (a : Addr) (o : Obj) (kvs : List (Key × V)) : It :=
  ⟨fun i H => H a = some (.frz o (.dK kvs)) ∧ i < kvs.length, fun i H x H' => H' = H ∧ ∃ p, kvs[i]? = some p ∧ x = kV p.1, fun i H => H a = some (.frz o (.dK kvs)) ∧ kvs.length ≤ i⟩
theorem frz_at {P : Program} {w : World} {H : Hp} {h : Heap} {a : Addr} {o : Obj} {kvs : List (Key × V)} {es : Array DictEntry} {ep : Nat} (hok : HOk P w H h) (e : H a = some (.frz o (.dK kvs))) (hd : o.data = .dict es ep) :
    kvs.length ≤ sizeLine ∧ (a == sysModules) = false ∧ ∃ vs, KV kvs vs ∧ h.DictAt (mixKind P w) a vs ep := by
  obtain ⟨h1, z, hs, vs, r, o', es', ep', h2, h3, h4, h5⟩ := (show ObjOk P w H h a (.frz o (.dK kvs)) from hok a _ e)
  rw [h1] at h2; cases h2
  rw [hd] at h4; cases h4
  exact ⟨z, hs, vs, r, o, es, h1, h3, hd, h5⟩
theorem frz_ep {P : Program} {w : World} {H : Hp} {h : Heap} {a : Addr} {o : Obj} {kvs : List (Key × V)} (hok : HOk P w H h) (e : H a = some (.frz o (.dK kvs))) : ∃ es ep, o.data = .dict es ep := by
  obtain ⟨h1, z, hs, vs, r, o', es', ep', h2, h3, h4, h5⟩ := (show ObjOk P w H h a (.frz o (.dK kvs)) from hok a _ e)
  rw [h1] at h2; cases h2
  exact ⟨es', ep', h4⟩
theorem turn_dct {P : Program} {w : World} {K : PySem.W.Frag} {tg : Expr} (a it : Addr) (o : Obj) (kvs : List (Key × V)) (es : Array DictEntry) (ep : Nat) (hd : o.data = .dict es ep) : Turn P w K tg (Itk a o kvs) [it] it (fun i h => h.IsKeyIter it a i kvs.length ep) where
  mem := by simp
  obj := fun i h st b hb => by
    have e : b = it := by simpa using hb
    subst e
    obtain ⟨o, e, c, d⟩ := st
    exact ⟨o, e, fun v z => by rw [d] at z; cases z⟩
  keep := fun i h h' st k => st.at fun o e => k it (by simp) o e
  item := by
    intro X hP hw hK hc i pins s σ H E I hf st hg
    subst hP hw hK
    obtain ⟨hq, hx⟩ := hg
    obtain ⟨z, hs, vs, rel, da⟩ := frz_at I.hok hq hd
    have hl := rel.length
    obtain ⟨p, hp⟩ : ∃ p, kvs[i]? = some p := ⟨kvs[i], by simp [hx]⟩
    obtain ⟨⟨k, x⟩, hv⟩ : ∃ p, vs[i]? = some p := ⟨vs[i]'(by omega), by simp⟩
    have hk : p.1 = k := by
      have := rel.keys
      have e1 : (kvs.map (·.1))[i]? = some p.1 := by rw [List.getElem?_map, hp]; rfl
      rw [this, List.getElem?_map, hv] at e1
      exact (Option.some.inj e1).symm
    obtain ⟨f0, f1, f2, f3, f4, f5⟩ := hf it (by simp)
    refine wpAny_pyNext_dict_item (by rw [← hl]; exact st) da hv fun key h' hkey st' sb => ?_
    have I1 : Inv X pins σ H { s with heap := h' } := I.turned (t' := s.toks) (fun b o hb e => (sb.2 b hb).trans e) f0 f1 f3 f4 f5
    obtain ⟨o', e', c', d'⟩ := id st'
    exact ⟨key, rfl, go_of (s := { s with heap := h' }) e' c' d' (by decide) ⟨kV k, H, I1, rel_key hkey, ⟨rfl, p, hp, by rw [hk]⟩, by rw [hl]; exact st', fun b hb => (hf b hb).1⟩⟩
  done := by
    intro X hP hw hK hc i pins s σ H E I hf st hg
    subst hP hw hK
    obtain ⟨hq, hx⟩ := hg
    obtain ⟨z, hs, vs, rel, da⟩ := frz_at I.hok hq hd
    have hl := rel.length
    obtain ⟨f0, f1, f2, f3, f4, f5⟩ := hf it (by simp)
    exact wpAny_pyNext_dict_end (I.ok.hd hc) (by rw [← hl]; exact st) da (by simp; omega) fun h' eb => ⟨rfl, I.turned (t' := s.toks) (fun b o hb e => eb b o hb e) f0 f1 f3 f4 f5⟩
  self := fun _ _ _ _ _ st h => wpAny_pyIter_keyiter st h
theorem pi_dct {X : Cx} {tg l : Expr} {tl : TE} (hl : PE X l tl) : PI X tg l (fun σ H R => tl σ H fun x H1 => ∃ a o kvs, x = .ref a ∧ H1 a = some (.frz o (.dK kvs)) ∧ R (Itk a o kvs) H1) := by
  intro pins s σ H R I h
  refine thn (hl pins s σ H _ I h) fun v s1 ⟨x, H1, I1, r1, a, o, kvs, e, hq, q⟩ => ?_
  subst e
  cases r1
  obtain ⟨es, ep, hd⟩ := frz_ep I1.hok hq
  obtain ⟨z, hs, vs, rel, da⟩ := frz_at I1.hok hq hd
  refine wpAny_pyIter_dict hs da ?_
  refine ⟨s1.heap.objs.size, [s1.heap.objs.size], _, _, H1, rfl, I1.kept (t' := s1.toks) fun b o e => Heap.get?_push_of_some _ e, turn_dct a _ o kvs es ep hd, ⟨_, Heap.get?_push_size _ rfl, rfl, by rw [rel.length]; rfl⟩, fun b hb => ?_, q⟩
  have e : b = s1.heap.objs.size := by simpa using hb
  subst e
  exact I1.fpOk (Nat.le_refl _) (I1.hok.fresh (Nat.le_refl _))
def dOfK : Key → D
  | .inl i => .int i
  | .inr x => .str x
def keyOf : D → Option Key
  | .int i => some (.inl i)
  | .str x => some (.inr x)
  | _ => none
theorem rep_key {K : PySem.W.Frag} {F : Hp} (k : Key) : Rep K F (dOfK k) (kV k) := by
  cases k with
  | inl i => show Rep K F (.int i) (.int i); simp only [Rep]
  | inr x => show Rep K F (.str x) (.str x); simp only [Rep]
theorem key_rep {K : PySem.W.Frag} {F : Hp} {d : D} {k : Key} {v : V} (h : keyOf d = some k) (r : Rep K F d v) : v = kV k := by
  cases d <;> first | cases h | skip
  all_goals (simp only [Rep] at r; subst r; rfl)
def getK : List Key → List D → Key → Option D
  | k' :: ks, d :: ds, k => if k' = k then some d else getK ks ds k
  | _, _, _ => none
theorem getK_val {K : PySem.W.Frag} {F : Hp} (k : Key) : ∀ {kvs : List (Key × V)} {ks : List Key} {ds : List D}, kvs.map (·.1) = ks → Reps K F ds (kvs.map (·.2)) →
    (∀ d, getK ks ds k = some d → ∃ v, valV kvs k = some v ∧ Rep K F d v) ∧ (getK ks ds k = none → valV kvs k = none) := fun {kvs} => by
  induction kvs with
  | nil =>
    intro ks ds h r
    subst h
    refine ⟨fun d h => ?_, fun _ => rfl⟩
    rw [List.map_nil] at h
    unfold getK at h
    cases h
  | cons p kvs ih =>
    intro ks ds h r
    subst h
    cases ds with
    | nil => have := r.length; simp at this
    | cons d ds =>
      simp only [List.map_cons, Reps] at r
      obtain ⟨v, r', e, q, t⟩ := r
      cases e
      obtain ⟨i1, i2⟩ := ih rfl t
      rw [List.map_cons]
      unfold getK
      by_cases z : p.1 = k
      · rw [if_pos z]
        exact ⟨fun d' h => by cases h; exact ⟨p.2, valV_pos z, q⟩, fun h => by cases h⟩
      · rw [if_neg z, valV_neg z]
        exact ⟨i1, i2⟩
variable [Tabs]
section
variable {X : Cx} {pos apos cpos : Pos} {e o f tg : Expr} {fe fo ff : FE}
theorem it_dct {K : PySem.W.Frag} {a : Addr} {ob : Obj} {F1 : Hp} {kvs : List (Key × V)} (h : F1 a = some (.frz ob (.dK kvs))) : ItOk K (Itk a ob kvs) F1 ((kvs.map (·.1)).map dOfK) := fun i F H f1 f2 => by
  have q := f2 _ _ (f1 _ _ h)
  refine ⟨fun hl => ⟨q, by simpa using hl⟩, fun d hd => ?_⟩
  have hi : i < kvs.length := by have := (List.getElem?_eq_some_iff.mp hd).1; simpa using this
  refine ⟨⟨q, hi⟩, fun x H' y => ?_⟩
  obtain ⟨e1, p, hp, rfl⟩ := y
  subst e1
  refine ⟨F, Ext.refl f2, ?_⟩
  rw [List.getElem?_map, List.getElem?_map, hp] at hd
  cases hd
  exact rep_key p.1
def iDct (fe : FE) : FA := fun τ => (fe τ).bind fun d => match d with
  | .dct ks _ => .ok (ks.map dOfK)
  | _ => .no
theorem pdi_dct (he : PDE X e fe) : PDI X tg e (iDct fe) :=
  PI.imp (pi_dct he) fun σ H R ⟨F, τ, Rv, h⟩ => tE.of Rv h.bind fun d v F1 H1 g x R1 r => by
    cases d with
    | dct ks ds =>
      simp only [Rep] at r; obtain ⟨a, kvs, ob, rfl, q, rfl, t⟩ := r
      exact ⟨a, ob, kvs, rfl, R1.fh _ _ q, g _ F1 H1 x (it_dct q)⟩
    | _ => exact g.elim
def eDIx (fo fe : FE) : FE := fun τ => (fo τ).bind fun d => match d with
  | .dct ks ds => (fe τ).bind fun k => match keyOf k with
    | some k => (match getK ks ds k with
      | some v => .ok v
      | none => .no)
    | none => .no
  | _ => .no
theorem pde_dix (hu : X.A.units + 1 < cLine) (ho : PDE X o fo) (he : PDE X e fe) (hs : NoSl e := by intro _ _; rfl) : PDE X (.Subscript o e pos) (eDIx fo fe) :=
  PE.imp (pe_dget hu ho he hs) fun σ H Q ⟨F, τ, R, h⟩ => tE.of R h.bind fun d v F1 H1 g x R1 r => by
    cases d with
    | dct ks ds =>
      simp only [Rep] at r; obtain ⟨a, kvs, ob, rfl, q, kk, t⟩ := r
      refine tE.of R1 g.bind fun dk vk F2 H2 g2 x2 R2 r2 => ?_
      cases hk : keyOf dk with
      | none => rw [hk] at g2; exact g2.elim
      | some k =>
        rw [hk] at g2; dsimp only at g2
        have ek := key_rep hk r2
        subst ek
        have q3 := x2.ff _ _ q
        obtain ⟨i1, i2⟩ := getK_val k kk (t.mono x2.ff)
        cases hg : getK ks ds k with
        | none => rw [hg] at g2; exact g2.elim
        | some dv =>
          rw [hg] at g2
          obtain ⟨w, e1, e2⟩ := i1 dv hg
          have gt : DGet H2 a (kV k) (some w) := .inl ⟨kvs, k, .inr ⟨ob, R2.fh _ _ q3⟩, rfl, e1.symm⟩
          exact ⟨a, w, rfl, gt, g2 w F2 H2 (x.trans x2) e2⟩
    | _ => exact g.elim
theorem vals_keys {P : Program} {w : World} : ∀ {ks : List Key} {us : List Value}, us.length = ks.length → (∀ (i : Nat) (u : Value) (k : Key), us[i]? = some u → ks[i]? = some k → (mixKind P w).is k u = true) → Vals (ks.map kV) us := fun {ks} => by
  induction ks with
  | nil =>
    intro us h _
    cases us with
    | nil => exact .nil
    | cons _ _ => simp at h
  | cons k ks ih =>
    intro us h q
    cases us with
    | nil => simp at h
    | cons u us => exact .cons (rel_key (q 0 u k rfl rfl)) (ih (by simpa using h) fun i u' k' h1 h2 => q (i + 1) u' k' (by simpa using h1) (by simpa using h2))
theorem call_listK (hc : X.calm = true) : CallR X (.type "list") (fun vs H Q => ∃ a ob kvs, vs = [.ref a] ∧ H a = some (.frz ob (.dK kvs)) ∧ ∀ p, H p = none → Q (.ref p) (upd H p (.lst ((kvs.map (·.1)).map kV)))) := by
  intro pins s σ H vs us Q I r ⟨a, ob, kvs, e1, e2, q⟩
  subst e1
  obtain ⟨u, rfl, ru⟩ := Vals.one r
  cases ru
  obtain ⟨es, ep, hd⟩ := frz_ep I.hok e2
  obtain ⟨z, hs, ws, rel, da⟩ := frz_at I.hok e2 hd
  have hl := rel.length
  refine STW.callListDict hs da (by omega) (I.ok.hd hc) fun h' tk acc' c' hk hS hacc => ?_
  have nH : H s.heap.objs.size = none := I.hok.fresh (Nat.le_refl _)
  refine ⟨.ref s.heap.objs.size, _, I.laid (t' := tk) (o := .lst ((kvs.map (·.1)).map kV)) hk (Nat.le_refl _) ⟨by simpa using z, acc'.toList, c', vals_keys (P := X.prog) (w := X.w) ?_ fun i u k h1 h2 => ?_, ?_⟩, rfl, q _ nH⟩
  · rw [Array.length_toList, List.length_map, hl]; exact hacc.1
  · obtain ⟨k', x, h3, h4⟩ := hacc.2 i u (by rw [← Array.getElem?_toList]; exact h1)
    have := rel.keys
    rw [this, List.getElem?_map, h3] at h2
    cases h2
    exact h4
  · simpa using hS
def listKD : List D → Rs D
  | [.dct ks _] => .ok (.lst (ks.map dOfK))
  | _ => .no
theorem reps_keys {K : PySem.W.Frag} {F : Hp} (ks : List Key) : Reps K F (ks.map dOfK) (ks.map kV) := by
  induction ks with
  | nil => exact Reps.nil
  | cons k ks ih => exact Reps.cons (rep_key k) ih
theorem cd_listK (hc : X.calm = true) : CallD X (.type "list") listKD := ⟨_, call_listK hc, fun F H vs ds Q fh r h => by
  cases ds with
  | nil => exact h.elim
  | cons d r2 =>
    cases r2 with
    | cons a b => cases d <;> exact h.elim
    | nil =>
      cases d with
      | dct ks xs =>
        obtain ⟨v, rfl, q⟩ := r.one
        simp only [Rep] at q; obtain ⟨a, kvs, ob, rfl, e, rfl, t⟩ := q
        refine ⟨a, ob, kvs, rfl, fh _ _ e, fun p hp => ?_⟩
        exact h _ _ _ (Ext.new fh hp) (by simp only [Rep]; exact ⟨_, _, rfl, upd_same, reps_keys _⟩)
      | _ => exact h.elim⟩
end
end FD
set_option Elab.async false
set_option linter.all false
set_option maxRecDepth 100000
namespace FD
open PySem PySem.Spec PyProof.Rows L2
variable [Tabs]
abbrev SI := List (Str × Int)
def kvI (ks : SI) : List (Key × V) := ks.map fun p => (Sum.inr p.1, V.int p.2)
def getI (ks : SI) (k : Str) : Option Int := (ks.find? fun p => decide (p.1 = k)).map (·.2)
def putI (ks : SI) (k : Str) (v : Int) : SI := if ks.any (fun p => decide (p.1 = k)) = true then ks.map fun p => if p.1 = k then (p.1, v) else p else ks ++ [(k, v)]
omit [Tabs] in
theorem any_I (ks : SI) (k : Str) : ((kvI ks).any fun kv => decide (kv.1 = Sum.inr k)) = ks.any fun p => decide (p.1 = k) := by
  unfold kvI
  induction ks with
  | nil => rfl
  | cons a ks ih => rw [List.map_cons, List.any_cons, List.any_cons, ih]; simp
omit [Tabs] in
theorem put_I (ks : SI) (k : Str) (v : Int) : putK (kvI ks) (Sum.inr k) (V.int v) = kvI (putI ks k v) := by
  unfold putK putI
  rw [any_I]
  by_cases h : ks.any (fun p => decide (p.1 = k)) = true
  · rw [if_pos h, if_pos h]
    unfold kvI
    rw [List.map_map, List.map_map]
    refine List.map_congr_left fun a _ => ?_
    simp only [Function.comp]
    by_cases z : a.1 = k
    · rw [if_pos (by rw [z]), if_pos z]
    · rw [if_neg (fun y => z (by cases y; rfl)), if_neg z]
  · rw [if_neg h, if_neg h]
    unfold kvI
    rw [List.map_append]; rfl
omit [Tabs] in
theorem val_I (ks : SI) (k : Str) : valV (kvI ks) (Sum.inr k) = (getI ks k).map V.int := by
  unfold getI
  induction ks with
  | nil => rfl
  | cons a ks ih =>
    show valV ((Sum.inr a.1, V.int a.2) :: kvI ks) _ = _
    by_cases z : a.1 = k
    · rw [valV_pos (by rw [z]), List.find?_cons]; simp [z]
    · rw [valV_neg (fun y => z (by cases y; rfl)), ih, List.find?_cons]; simp [z]
structure Di (B F H : Hp) (σ : St) (i : Nat) (ks : SI) (d : Addr) : Prop where
  sl : σ[i]? = some (some (.ref d))
  db : B d = none
  df : F d = none
  dh : H d = some (.dK (kvI ks))
theorem Di.ext {B F H F' H' : Hp} {σ : St} {i : Nat} {ks : SI} {d : Addr} (D : Di B F H σ i ks d) (x : Ext F H F' H') : Di B F' H' σ i ks d :=
  ⟨D.sl, D.db, ext_none x D.dh D.df, x.hh _ _ D.dh⟩
theorem Di.set {B F H : Hp} {σ : St} {i k : Nat} {ks : SI} {d : Addr} {v : Option V} (D : Di B F H σ i ks d) (h : k ≠ i) : Di B F H (σ.set k v) i ks d :=
  { D with sl := by rw [List.getElem?_set_ne h]; exact D.sl }
abbrev FG3 := DS → SI → Option (DS × SI)
def tGi (X : Cx) (i : Nat) (f : FG3) : TS := fun E σ H => ∃ B Z F τ ks d τ' ks', RS X.K B Z F τ σ H ∧ Vl τ ∧ Di B F H σ i ks d ∧ f τ ks = some (τ', ks') ∧
  ∀ σ' F' H', Same F F' → RS X.K B Z F' τ' σ' H' → Vl τ' → Di B F' H' σ' i ks' d → E.nx σ' H'
def hInc (fk : FE) : FG3 := fun τ ks => match fk τ with
  | .ok (.str k) => if ks.length ≤ 1000000 then some (τ, putI ks k ((getI ks k).getD 0 + 1)) else none
  | _ => none
omit [Tabs] in
theorem hInc_some {fk : FE} {τ τ' : DS} {ks ks' : SI} (h : hInc fk τ ks = some (τ', ks')) : ∃ k, fk τ = .ok (.str k) ∧ ks.length ≤ 1000000 ∧ τ' = τ ∧ ks' = putI ks k ((getI ks k).getD 0 + 1) := by
  unfold hInc at h
  split at h
  · rename_i k e
    split at h
    · rename_i z
      cases h
      exact ⟨k, e, z, rfl, rfl⟩
    · cases h
  · cases h
def hNew (fk fv : FE) : FG3 := fun τ ks => match fk τ with
  | .ok (.str k) => (match getI ks k with
    | some _ => some (τ, ks)
    | none => (match fv τ with
      | .ok (.int v) => if ks.length ≤ 1000000 then some (τ, putI ks k v) else none
      | _ => none))
  | _ => none
def hloop (f : FG3) (r : Nat) : List D → FG3
  | [], τ, ks => some (τ, ks)
  | d :: ds, τ, ks => (f (τ.set r (some (.val d))) ks).bind fun p => hloop f r ds p.1 p.2
def hFor (fi : FA) (r : Nat) (f : FG3) : FG3 := fun τ ks => match fi τ with
  | .ok ds => hloop f r ds τ ks
  | _ => none
section
variable {X : Cx} {i r : Nat} {x y : Str} {e0 e0' ev iter : Expr} {fk fv : FE} {fi : FA} {f : FG3} {q1 q2 sp bp ap tp pos gp gc c0 c1 cp ip : Pos} {k0 k1 : Nat} {body : List Stmt}
theorem ps_hinc (hu : X.A.units + 1 < cLine) (hd : PE X (.Name y q1) (tVar i)) (hd2 : PE X (.Name y q2) (tVar i)) (hk : PDE X e0 fk) (hk' : PDE X e0' fk) (m : M2 X (.Name y q2) "get" gp e0' (.Constant (.int 0) k0 c0) gc)
    (hsw : swapsWith (.BinOp (.Call (.Attribute (.Name y q2) "get" gp) [e0', .Constant (.int 0) k0 c0] [] gc) .Add (.Constant (.int 1) k1 c1) bp) (some (.Subscript (.Name y q1) e0 sp)) ap.line X.env = pure false := by rfl) :
    PS X (.Assign [.Subscript (.Name y q1) e0 sp] (.BinOp (.Call (.Attribute (.Name y q2) "get" gp) [e0', .Constant (.int 0) k0 c0] [] gc) .Add (.Constant (.int 1) k1 c1) bp) ap) (tGi X i (hInc fk)) :=
  PS.imp (ps_dput hu hd hk (pe_op op_add (pe_dget2 hu hd2 hk' pe_int m) pe_int) hsw) fun E σ H h => by
    obtain ⟨B, Z, F, τ, ks, d, τ', ks', R, vl, D, hf, q⟩ := h
    obtain ⟨k, z1, z2, z3, z4⟩ := hInc_some hf
    subst z3; subst z4
    refine ⟨_, D.sl, d, rfl, .inl ⟨_, .inl D.dh⟩, ?_⟩
    refine tE.at R (ok_of z1 rfl) fun dd w F1 H1 g x R1 r => ?_
    subst g
    simp only [Rep] at r; subst r
    have D1 := D.ext x
    refine ⟨_, DGet.k (k := Sum.inr k) D1.dh, (getI ks k).getD 0, 1, ?_, rfl, ?_⟩
    · rw [val_I]
      cases getI ks k <;> rfl
    · refine ⟨_, D1.sl, ?_⟩
      refine tE.at R1 (ok_of z1 rfl) fun dd w F2 H2 g x2 R2 r => ?_
      subst g
      simp only [Rep] at r; subst r
      have D2 := D1.ext x2
      have pt := DPut.k (k := Sum.inr k) (v := .int ((getI ks k).getD 0 + 1)) D2.dh (by rw [sizeLine_eq]; unfold kvI; rw [List.length_map]; omega)
      rw [put_I] at pt
      exact ⟨d, _, rfl, pt, q σ F2 _ (x.ff.trans x2.ff) (RS.free (o := .dK (kvI (putI ks k ((getI ks k).getD 0 + 1)))) R2 vl D2.db D2.df (.inr (.inr ⟨_, D2.dh⟩))) vl ⟨D2.sl, D2.db, D2.df, upd_same⟩⟩
theorem ps_hnew (hu : X.A.units + 1 < cLine) (hd : PE X (.Name y q1) (tVar i)) (hd2 : PE X (.Name y q2) (tVar i)) (hk : PDE X e0 fk) (hk' : PDE X e0' fk) (hv : PDE X ev fv)
    (hb : behindInMarks .NotIn (.Name y q1) = false := by rfl) (hsw : swapsWith ev (some (.Subscript (.Name y q2) e0' sp)) ap.line X.env = pure false := by rfl) :
    PS X (.If (.Compare e0 [.NotIn] [.Name y q1] cp) [.Assign [.Subscript (.Name y q2) e0' sp] ev ap] [] ip) (tGi X i (hNew fk fv)) :=
  PS.imp (ps_if (pt_cmp (pc_dnotin hu hk hd) hb) (pss_one (ps_dput hu hd2 hk' hv hsw)) pss_nil) fun E σ H h => by
    obtain ⟨B, Z, F, τ, ks, d, τ', ks', R, vl, D, hf, q⟩ := h
    unfold hNew at hf
    split at hf
    · rename_i k z1
      refine tE.at R (ok_of z1 rfl) fun dd w F1 H1 g x R1 r => ?_
      subst g
      simp only [Rep] at r; subst r
      have D1 := D.ext x
      refine ⟨_, D1.sl, d, valV (kvI ks) (Sum.inr k), rfl, DGet.k (k := Sum.inr k) D1.dh, _, rfl, ?_⟩
      rw [val_I]
      cases hg : getI ks k with
      | some v =>
        rw [hg] at hf
        cases hf
        exact q σ F1 H1 x.ff R1 vl D1
      | none =>
        rw [hg] at hf
        dsimp only at hf
        split at hf
        · rename_i v z2
          split at hf
          · rename_i z3
            cases hf
            show sDPut (tVar i) (tE X fk) (tE X fv) _ σ H1
            refine tE.at R1 (ok_of z2 rfl) fun dd w F2 H2 g x2 R2 r => ?_
            subst g
            simp only [Rep] at r; subst r
            have D2 := D1.ext x2
            refine ⟨_, D2.sl, ?_⟩
            refine tE.at R2 (ok_of z1 rfl) fun dd w F3 H3 g x3 R3 r => ?_
            subst g
            simp only [Rep] at r; subst r
            have D3 := D2.ext x3
            have pt := DPut.k (k := Sum.inr k) (v := .int v) D3.dh (by rw [sizeLine_eq]; unfold kvI; rw [List.length_map]; omega)
            rw [put_I] at pt
            exact ⟨d, _, rfl, pt, q σ F3 _ ((x.ff.trans x2.ff).trans x3.ff) (RS.free (o := .dK (kvI (putI ks k v))) R3 vl D3.db D3.df (.inr (.inr ⟨_, D3.dh⟩))) vl ⟨D3.sl, D3.db, D3.df, upd_same⟩⟩
          · cases hf
        · cases hf
    · cases hf
theorem ps_hfor (hp : PassesOwn (model X.prog X.w) X.A X.env X.xe) (hc : X.calm = true) (hi : PDI X (.Name x tp) iter fi) (hN : X.N.Nodup) (hx : X.N[r]? = some x) (hlc : Loc X.env.scope x) (hri : r ≠ i)
    (hb : PSs X body (tGi X i f)) (hf : X.fn x = true ∨ X.env.scope.names.lookup x = some .local := by first | exact .inl rfl | exact .inr rfl | assumption) (hs : ∀ x, foldedSetIterable iter X.env x = pure x := by intro _; rfl) :
    PS X (.For (.Name x tp) iter body [] pos) (tGi X i (hFor fi r f)) :=
  PS.imp (ps_for hp hc hi (pg_name hN hx hlc hf) hb hs) fun E σ H h => by
    obtain ⟨B, Z, F, τ, ks, d, τe, kse, R, vl, D, hf, q⟩ := h
    unfold hFor at hf
    cases hfi : fi τ with
    | no => rw [hfi] at hf; cases hf
    | ex c => rw [hfi] at hf; cases hf
    | ok ds =>
      rw [hfi] at hf
      dsimp only at hf
      refine ⟨F, τ, R.rv, ok_of hfi fun J F1 H1 x1 io => ?_⟩
      refine ⟨fun n m σ H => m = ds.length - n ∧ n ≤ ds.length ∧ ∃ F' τ' ks', Same F1 F' ∧ RS X.K B Z F' τ' σ H ∧ Vl τ' ∧ Di B F' H σ i ks' d ∧ hloop f r (ds.drop n) τ' ks' = some (τe, kse), ⟨ds.length, by simp, Nat.zero_le _, F1, τ, ks, Same.refl _, R.ext x1, vl, D.ext x1, hf⟩, ?_⟩
      rintro n m σ2 H2 ⟨rfl, hn, F2, τ2, k2, f2, R2, v2, D2, g2⟩
      obtain ⟨i1, i2⟩ := io n F2 H2 f2 R2.rv.fh
      by_cases hlt : n < ds.length
      · have hd : ds.drop n = ds[n] :: ds.drop (n + 1) := List.drop_eq_getElem_cons hlt
        rw [hd] at g2
        obtain ⟨go, yl⟩ := i2 ds[n] (by simp [hlt])
        refine .inr ⟨go, fun σ' H' => ∃ F' τ' ks', Same F2 F' ∧ RS X.K B Z F' τ' σ' H' ∧ Vl τ' ∧ Di B F' H' σ' i ks' d ∧ hloop f r (ds.drop (n + 1)) τ' ks' = some (τe, kse), fun σ' H' ⟨F', τ', ks', a, b, c, t, e⟩ => ⟨ds.length - (n + 1), by omega, rfl, hlt, F', τ', ks', f2.trans a, b, c, t, e⟩, fun w H' yy => ?_⟩
        obtain ⟨F3, x3, r3⟩ := yl w H' yy
        have R3 := (R2.ext x3).set (i := r) r3
        have D3 := (D2.ext x3).set (v := some w) (k := r) hri
        unfold hloop at g2
        cases z : f (τ2.set r (some (.val ds[n]))) k2 with
        | none => rw [z] at g2; cases g2
        | some p =>
          obtain ⟨τ3, k3⟩ := p
          rw [z] at g2
          exact ⟨B, Z, F3, _, k2, d, τ3, k3, R3, v2.set r _, D3, z, fun σ' F' H'' ff RR vv DD => ⟨F', τ3, k3, x3.ff.trans ff, RR, vv, DD, g2⟩⟩
      · have e : n = ds.length := by omega
        subst e
        rw [List.drop_length] at g2
        cases g2
        exact .inl ⟨i1 (by simp), q σ2 F2 H2 (x1.ff.trans f2) R2 v2 D2⟩
end
theorem RS.outD {K : PySem.W.Frag} {B Z F H : Hp} {τ : DS} {σ : St} {d : Addr} {o : Obj} {kvs : List (Key × V)} (R : RS K B Z F τ σ H) (hb : B d = none) (hf : F d = none) (hh : H d = some (.dK kvs)) : Ext Z B (upd F d (.frz o (.dK kvs))) (upd H d (.frz o (.dK kvs))) := by
  have ne : ∀ {b : Addr} {u : HO}, H b = some u → (∀ ks, u ≠ .dK ks) → b ≠ d := fun {b u} h n z => by subst z; rw [hh] at h; cases h; exact n _ rfl
  refine ⟨fun b u q => ?_, fun b u q => ?_, fun b u q => ?_, fun b u q => ?_, fun _ => ⟨fun r hr => ?_, fun x a h => ?_⟩⟩
  · have q1 := R.zf b u q
    rw [upd_ne (fun z => by subst z; rw [hf] at q1; cases q1)]; exact q1
  · rw [upd_ne (fun z => by subst z; rw [hb] at q; cases q)]; exact R.bh b u q
  · by_cases z : b = d
    · subst z; rw [upd_same] at q ⊢; exact q
    · rw [upd_ne z] at q ⊢; exact R.rv.fh b u q
  · by_cases z : b = d
    · subst z; exact .inr hb
    · rw [upd_ne z] at q; exact R.nb b u q
  · obtain ⟨t1, t2⟩ := R.rv.tt.1 r hr
    have n : r.1 ≠ d := by
      rcases t2 with e | ⟨c, e, e2⟩
      · exact ne e fun _ z => nomatch z
      · exact ne e fun _ z => nomatch z
    refine ⟨by rw [upd_ne n]; exact t1, ?_⟩
    rcases t2 with e | ⟨c, e, e2⟩
    · exact .inl (by rw [upd_ne n]; exact e)
    · exact .inr ⟨c, by rw [upd_ne n]; exact e, by rw [upd_ne (ne e2 fun _ z => nomatch z)]; exact e2⟩
  · have z : x ≠ d := fun z => by subst z; rw [upd_same] at h; cases h
    rw [upd_ne z] at h
    obtain ⟨C, dx, vs, e⟩ := R.rv.tt.2 x a h
    exact ⟨C, dx, vs, by rw [upd_ne (ne e fun _ z => nomatch z)]; exact e⟩
def dctI (ks : SI) : D := .dct (ks.map fun p => Sum.inr p.1) (ks.map fun p => D.int p.2)
theorem rep_dctI {K : PySem.W.Frag} {F : Hp} {d : Addr} {o : Obj} {ks : SI} (h : F d = some (.frz o (.dK (kvI ks)))) : Rep K F (dctI ks) (.ref d) := by
  unfold dctI
  simp only [Rep]
  refine ⟨d, kvI ks, o, rfl, h, ?_, ?_⟩
  · unfold kvI; rw [List.map_map]; rfl
  · unfold kvI
    rw [List.map_map]
    have e1 : (ks.map fun p => D.int p.2) = (ks.map (·.2)).map D.int := by rw [List.map_map]; rfl
    have e2 : (ks.map ((fun x : Key × V => x.2) ∘ fun p : Str × Int => ((Sum.inr p.1 : Key), V.int p.2))) = (ks.map (·.2)).map V.int := by rw [List.map_map]; rfl
    rw [e1, e2]
    exact Reps.ints _
def sMkD (i : Nat) (f : FG3) : FS := fun τ => if vlB τ = true ∧ i < τ.length then match f (τ.set i none) [] with
  | some p => .rt (dctI p.2)
  | none => .no
  else .no
section
variable {X : Cx} {i : Nat} {y : Str} {f : FG3} {st : Stmt} {yp dp a1 rp p1 : Pos}
theorem pdss_mkD (hN : X.N.Nodup) (hy : X.N[i]? = some y) (hly : Loc X.env.scope y) (hb : PS X st (tGi X i f)) (hpy : PE X (.Name y p1) (tVar i))
    (hsw : swapsWith (.Dict [] [] dp) (some (.Name y yp)) a1.line X.env = pure false := by rfl) (hfy : X.fn y = true ∨ X.env.scope.names.lookup y = some .local := by first | exact .inl rfl | exact .inr rfl | assumption) :
    PDSs X [.Assign [.Name y yp] (.Dict [] [] dp) a1, st, .Return (some (.Name y p1)) rp] (sMkD i f) :=
  PSs.imp (pss_cons (ps_set (i := i) hN hy hly pe_dnewK hsw hfy) (pss_cons hb (pss_one (ps_ret (pe_frz hpy))))) fun E σ H h => by
    obtain ⟨B, Z, F, τ, R, h⟩ := h
    unfold sMkD at h
    by_cases z : vlB τ = true ∧ i < τ.length
    · rw [if_pos z] at h
      obtain ⟨z1, z3⟩ := z
      have vl := vlB_vl z1
      intro p hp'
      have bp : B p = none := none_b R.bh hp'
      have fp' : F p = none := none_f R.rv.fh hp'
      obtain ⟨R1, v1⟩ := RS.drop (i := i) (v := some (.ref p)) (RS.free (o := .dK []) R vl bp fp' (.inl hp')) vl
      cases q : f (τ.set i none) [] with
      | none => rw [q] at h; exact h.elim
      | some pr =>
        obtain ⟨τ', ks⟩ := pr
        rw [q] at h
        dsimp only at h
        refine ⟨B, Z, F, τ.set i none, [], p, τ', ks, R1, v1, ⟨?_, bp, fp', upd_same⟩, q, fun σ' F' H' ff R' v' D' => ?_⟩
        · rw [List.getElem?_set_self (by rw [← R.rv.len]; exact z3)]
        · refine ⟨_, D'.sl, p, _, rfl, D'.dh, fun o => ?_⟩
          exact h _ _ _ (R'.outD (o := o) D'.db D'.df D'.dh) (rep_dctI upd_same)
    · rw [if_neg z] at h; exact h.elim
end
section
variable {X : Cx} {pos p1 p2 : Pos} {k1 k2 : Nat} {x : Str} {n : Int}
theorem pde_dct1 : PDE X (.Dict [some (.Constant (.str x) k1 p1)] [.Constant (.int n) k2 p2] pos) (fun _ => .ok (dctI [(x, n)])) :=
  PE.imp (pe_frz (pe_disp (pps_cons pe_str pe_int pps_nil) rfl rfl (by simp) (by simp))) fun σ H Q ⟨F, τ, R, h⟩ => by
    intro p hp
    refine ⟨upd_same, [(Sum.inr x, V.int n)], rfl, by simp, p, _, rfl, upd_same, fun o => ?_⟩
    have e : upd (upd (upd H p (.dK [])) p (.dK (mergeK [] [(Sum.inr x, V.int n)]))) p (.frz o (.dK (mergeK [] [(Sum.inr x, V.int n)]))) = upd H p (.frz o (.dK (kvI [(x, n)]))) := by
      rw [upd_upd, upd_upd]; rfl
    rw [e]
    exact h _ _ _ (Ext.new R.fh hp) (rep_dctI upd_same)
end
end FD
set_option Elab.async false
set_option linter.all false
set_option maxRecDepth 100000
namespace FD
open PySem PySem.Spec PyProof.Rows L2
theorem argBest_le (bt : Nat → Nat → Bool) : ∀ k, argBest bt k ≤ k := fun k => by
  induction k with
  | zero => exact Nat.le_refl _
  | succ k ih => unfold argBest; split <;> omega
def CmpH (prog : Program) (w : World) (A : Around) (P : Nat → Value → Prop) (bt : Nat → Nat → Bool) (Ph : Heap → Prop) : Prop :=
  ∀ i j vi vj (s : Shared) (Q : Value → Shared → Prop) (E : Value → Shared → Prop), j < i → Ph s.heap → P i vi → P j vj → Q (.bool (bt i j)) s → wpAny (model prog w) A (richCompare .Lt vi vj) Q E s
section
variable {prog : Program} {w : World} {A : Around} {R : Result → Shared → Prop} {E : Value → Shared → Prop} {I S : Addr} {fp wr : List Addr} {n : Nat} {P : Nat → Value → Prop} {St : Nat → Heap → Prop} {kw : List (Str × Value)} {Ph : Heap → Prop}
theorem minQ : (toString "min" ++ toString ".loop" : String) = "min.loop" := by decide
theorem minK_loop (W : Walks prog w A.in1 I fp wr n P St) (bt : Nat → Nat → Bool) (hcmp : CmpH prog w A.in1 P bt Ph) (hPh : ∀ h h' : Heap, Ph h → (∀ b o, b ∉ wr → b ≠ S → h.get? b = some o → h'.get? b = some o) → Ph h') (hSf : S ∉ fp) : ∀ (k j : Nat) (s : Shared) (vb : Value) (c : Nat), n - (j + 1) = k → j + 1 ≤ n → St (j + 1) s.heap → Ph s.heap → P (argBest bt j) vb →
    s.heap.get? S = some { cls := .type "list", dict := none, data := .seq #[vb, vb] c, slots := #[] } → (∀ v h' tk, P (argBest bt (n - 1)) v → (∀ b o, b ∉ wr → b ≠ S → s.heap.get? b = some o → h'.get? b = some o) → R (.ok (.ret v)) { s with heap := h', toks := tk }) →
    codeAny (model prog w) A (.builtin "min.loop" ⟨[.ref I, .none, .ref S], kw⟩) R s := by
  have hSw : S ∉ wr := fun h => hSf (W.sub _ h)
  intro k
  induction k with
  | zero =>
    intro j s vb c hk hj hst hp hPb hS hR; have hin : j + 1 = n := by omega
    refine codeAny_builtin F.entry_min_loop ?_; rw [Around.under_plainId F.plain_min_loop _]
    refine wpAny_bind (m := seqItems? (.ref S)) (wpAny_seqItems hS rfl ?_)
    refine wpAny_bind (wpAny_tryCatch (W.done s _ _ (hin ▸ hst) fun h' tk hk' => ?_)); have hS' := hk' S _ hSw hS
    refine wpAny_bind (m := updateSeq S (fun _ => #[])) (wpAny_updateSeq hS' rfl (wpAny_bind (wpAny_letGo (wpAny_pure ?_))))
    exact hR vb _ tk (by rw [← hin]; exact hPb) fun b o hbw hbS e => (Heap.get?_update_other _ _ (Ne.symm hbS)).trans (hk' b o hbw e)
  | succ k ih =>
    intro j s vb c hk hj hst hp hPb hS hR; have hlt : j + 1 < n := by omega
    refine codeAny_builtin F.entry_min_loop ?_; rw [Around.under_plainId F.plain_min_loop _]
    refine wpAny_bind (m := seqItems? (.ref S)) (wpAny_seqItems hS rfl ?_)
    refine wpAny_bind (wpAny_tryCatch (W.item (j + 1) s _ _ hlt hst fun v h' tk hP hst' hk' => ?_)); have hS' := hk' S _ hSw hS
    have hp' : Ph h' := hPh _ _ hp fun b o hbw _ e => hk' b o hbw e
    refine wpAny_bind (wpAny_pure ?_); refine wpAny_bind (wpAny_tryCatch (wpAny_holding (wpAny_bind (m := richCompare .Lt v vb) (hcmp (j + 1) (argBest bt j) v vb _ _ _ (Nat.lt_succ_of_le (argBest_le bt j)) hp' hP hPb ?_))))
    refine wpAny_bind (wpAny_holding (wpAny_truthy_bool ?_)); refine wpAny_bind (wpAny_letGo (wpAny_pure ?_))
    cases hb : bt (j + 1) (argBest bt j) with
    | true =>
      simp only [if_true]; refine wpAny_bind ?_
      refine wpAny_updateSeq hS' rfl (wpAny_bind (wpAny_letGo ?_)); rw [minQ]
      refine wpAny_pure ⟨plainId_quiet F.plain_min_loop _, ih (j + 1) _ v _ (by omega) hlt (W.frame _ _ _ hst' fun b hbf o e => (Heap.get?_update_other _ _ (fun h : S = b => hSf (by rw [h]; exact hbf))).trans e) (hPh _ _ hp' fun b o _ hbS e => (Heap.get?_update_other _ _ (Ne.symm hbS)).trans e) (by simp only [argBest, hb, if_true]; exact hP) (Heap.get?_update_self _ hS' rfl) fun v' h'' tk'' hP' hk'' => ?_⟩
      exact hR v' h'' tk'' hP' fun b o hbw hbS e => hk'' b o hbw hbS ((Heap.get?_update_other _ _ (Ne.symm hbS)).trans (hk' b o hbw e))
    | false =>
      simp only [Bool.false_eq_true, if_false]; refine wpAny_bind (wpAny_letGo ?_); rw [minQ]
      refine wpAny_pure ⟨plainId_quiet F.plain_min_loop _, ih (j + 1) _ vb c (by omega) hlt hst' hp' (by simp only [argBest, hb, Bool.false_eq_true, if_false]; exact hPb) hS' fun v' h'' tk'' hP' hk'' => hR v' h'' tk'' hP' fun b o hbw hbS e => hk'' b o hbw hbS (hk' b o hbw e)⟩
theorem minK_first (W : Walks prog w A.in1 I fp wr n P St) (bt : Nat → Nat → Bool) (hcmp : CmpH prog w A.in1 P bt Ph) (hPh : ∀ h h' : Heap, Ph h → (∀ b o, b ∉ wr → b ≠ S → h.get? b = some o → h'.get? b = some o) → Ph h') (hSf : S ∉ fp) (hn : 0 < n) {s : Shared} {c : Nat} (hst : St 0 s.heap) (hp : Ph s.heap) (hS : s.heap.get? S = some { cls := .type "list", dict := none, data := .seq #[] c, slots := #[] })
    (hR : ∀ v h' tk, P (argBest bt (n - 1)) v → (∀ b o, b ∉ wr → b ≠ S → s.heap.get? b = some o → h'.get? b = some o) → R (.ok (.ret v)) { s with heap := h', toks := tk }) : codeAny (model prog w) A (.builtin "min.loop" ⟨[.ref I, .none, .ref S], kw⟩) R s := by
  have hSw : S ∉ wr := fun h => hSf (W.sub _ h)
  refine codeAny_builtin F.entry_min_loop ?_; rw [Around.under_plainId F.plain_min_loop _]
  refine wpAny_bind (m := seqItems? (.ref S)) (wpAny_seqItems hS rfl ?_)
  refine wpAny_bind (wpAny_tryCatch (W.item 0 s _ _ hn hst fun v h' tk hP hst' hk' => ?_)); have hS' := hk' S _ hSw hS
  have hp' : Ph h' := hPh _ _ hp fun b o hbw _ e => hk' b o hbw e
  refine wpAny_bind (wpAny_pure ?_); refine wpAny_bind (m := updateSeq S (fun _ => #[v, v])) (wpAny_updateSeq hS' rfl ?_); rw [minQ]
  refine wpAny_pure ⟨plainId_quiet F.plain_min_loop _, minK_loop W bt hcmp hPh hSf _ 0 _ v _ rfl hn (W.frame _ _ _ hst' fun b hbf o e => (Heap.get?_update_other _ _ (fun h : S = b => hSf (by rw [h]; exact hbf))).trans e) (hPh _ _ hp' fun b o _ hbS e => (Heap.get?_update_other _ _ (Ne.symm hbS)).trans e) hP (Heap.get?_update_self _ hS' rfl) fun v' h'' tk'' hP' hk'' => ?_⟩
  exact hR v' h'' tk'' hP' fun b o hbw hbS e => hk'' b o hbw hbS ((Heap.get?_update_other _ _ (Ne.symm hbS)).trans (hk' b o hbw e))
theorem minK_none {d : Value} {k : Str} (W : Walks prog w A.in1 I fp wr 0 P St) (hSf : S ∉ fp) {s : Shared} {c : Nat} (hst : St 0 s.heap) (hS : s.heap.get? S = some { cls := .type "list", dict := none, data := .seq #[] c, slots := #[] })
    (hR : ∀ h' tk, (∀ b o, b ∉ wr → s.heap.get? b = some o → h'.get? b = some o) → R (.ok (.ret d)) { s with heap := h', toks := tk }) : codeAny (model prog w) A (.builtin "min.loop" ⟨[.ref I, .none, .ref S], [(k, d)]⟩) R s := by
  refine codeAny_builtin F.entry_min_loop ?_; rw [Around.under_plainId F.plain_min_loop _]
  refine wpAny_bind (m := seqItems? (.ref S)) (wpAny_seqItems hS rfl ?_)
  refine wpAny_bind (wpAny_tryCatch (W.done s _ _ hst fun h' tk hk' => ?_))
  refine wpAny_bind (wpAny_rule ?_)
  exact wpAny_pure (hR h' tk hk')
theorem args_minD (a v : Value) : argsOk "min" ⟨[a], [(Str.ofString "default", v)]⟩ := by unfold argsOk; kernel_rfl
theorem call_minD_walk {x d : Value} {s : Shared} {Q : Value → Shared → Prop}
    (h : wpAny (model prog w) A.in1 (pyIter x) (fun it s₂ => ∃ I fp wr n P St bt Ph, it = .ref I ∧ Walks prog w A.in1 I fp wr n P St ∧ St 0 s₂.heap ∧ (∀ b ∈ fp, b < s₂.heap.objs.size) ∧ CmpH prog w A.in1 P bt Ph ∧ Ph s₂.heap ∧ (∀ h h' : Heap, Ph h → (∀ b o, b < s₂.heap.objs.size → b ∉ wr → h.get? b = some o → h'.get? b = some o) → Ph h') ∧
      (n = 0 → ∀ h' tk, (∀ b o, b ∉ wr → s₂.heap.get? b = some o → h'.get? b = some o) → Q d { s₂ with heap := h', toks := tk }) ∧
      (0 < n → ∀ v h' tk, P (argBest bt (n - 1)) v → (∀ b o, b ∉ wr → s₂.heap.get? b = some o → h'.get? b = some o) → Q v { s₂ with heap := h', toks := tk })) E s) :
    wpAny (model prog w) A (call (.builtin "min") [x] [(Str.ofString "default", d)]) Q E s := by
  refine wpAny_call (codeAny_call_builtin F.plain_min F.entry_min ?_)
  have main : wpAny (model prog w) A.in1 (Builtin.«min» ⟨[x], [(Str.ofString "default", d)]⟩) (fun fin s' => match fin with
      | .done f => (match (Except.ok f : Result) with | .ok (.ret v) => Q v s' | .ok _ => False | .error e => E e s')
      | .again c' => c'.quiet = true ∧ codeAny (model prog w) A c' (fun r s' => match r with | .ok (.ret v) => Q v s' | .ok _ => False | .error e => E e s') s') E s := by
    refine wpAny_bind (m := Builtin.Builtins.bindParams "min" ["key", "default"] 0 ⟨[], [(Str.ofString "default", d)]⟩) (wpAny_of_eq (show Builtin.Builtins.bindParams "min" ["key", "default"] 0 ⟨[], [(Str.ofString "default", d)]⟩ = pure [none, some d] from rfl) ?_)
    refine wpAny_bind (wpAny_pure ?_)
    refine wpAny_bind (wpAny_mono h (fun it s₂ h₂ => ?_) fun _ _ e => e)
    obtain ⟨I, fp, wr, n, P, St, bt, Ph, rfl, W, hst, hfp, hcmp, hp, hPh, h0, hQ⟩ := h₂
    refine wpAny_bind (wpAny_newObj_type ?_); have hSf : s₂.heap.objs.size ∉ fp := fun hm => Nat.lt_irrefl _ (hfp _ hm)
    rw [minQ]
    have st1 := W.frame _ _ _ hst fun b (_ : b ∈ fp) o e => Heap.get?_push_of_some { cls := Value.type "list", data := Data.seq (List.toArray []) } e
    rcases Nat.eq_zero_or_pos n with z | z
    · subst z
      exact wpAny_pure ⟨plainId_quiet F.plain_min_loop _, minK_none W hSf st1 (Heap.get?_push_size _ rfl) fun h' tk hk => h0 rfl h' tk fun b o hbw e => hk b o hbw (Heap.get?_push_of_some _ e)⟩
    · exact wpAny_pure ⟨plainId_quiet F.plain_min_loop _, minK_first W bt hcmp (fun h h' a b => hPh h h' a fun c o hc hw e => b c o hw (Nat.ne_of_lt hc) e) hSf z st1 (hPh _ _ hp fun b o _ _ e => Heap.get?_push_of_some _ e) (Heap.get?_push_size _ rfl) fun v h' tk hP hk => hQ z v h' tk hP fun b o hbw e => hk b o hbw (Nat.ne_of_lt (Heap.lt_size e)) (Heap.get?_push_of_some _ e)⟩
  simp only [checkBuiltinCall, F.kind_min]
  cases hsig : Manifest.signature? "min" with
  | none => exact wpAny_pure main
  | some sig =>
    have ha := args_minD x d
    have ha' : Bind.checkArgs "min" sig ⟨[x], [(Str.ofString "default", d)]⟩ = pure () := by simpa only [argsOk, hsig] using ha
    simp only [ha']
    exact wpAny_pure main
end
def ltC (x y : Str) : Bool := Spec.ltCps x.cps.toList y.cps.toList
theorem ltC_dec (x y : List Nat) : decide (x < y) = Spec.ltCps x y := by
  induction x generalizing y with
  | nil =>
    cases y with
    | nil => rfl
    | cons b y => exact decide_eq_true (by simp)
  | cons a x ih =>
    cases y with
    | nil => exact decide_eq_false (by simp)
    | cons b y =>
      show _ = (decide (a < b) || (a == b && Spec.ltCps x y))
      rw [← ih y, Bool.eq_iff_iff]
      simp [List.cons_lt_cons_iff]
theorem cmpH_strs {prog : Program} {w : World} {A : Around} {P : Nat → Value → Prop} (val : Nat → Str) (hval : ∀ i v, P i v → ∃ t, v = .str (val i) t) : CmpH prog w A P (fun i j => ltC (val i) (val j)) (fun _ => True) := fun i j vi vj s Q E _ _ hi hj h => by
  obtain ⟨t, rfl⟩ := hval i vi hi
  obtain ⟨u, rfl⟩ := hval j vj hj
  have h : Q (.bool (Spec.ltCps (val i).cps.toList (val j).cps.toList)) s := h
  rw [← ltC_dec] at h
  exact (PySem.P.lt_str h : wpAny (model prog w) A (compareOp .Lt (.str _ t) (.str _ u)) Q E s)
def bestS (bt : Str → Str → Bool) (ss : List Str) : Str := ss.getD (argBest (fun i j => bt (ss.getD i "") (ss.getD j "")) (ss.length - 1)) ""
def mnS (ss : List Str) : Str := bestS ltC ss
theorem argBest_leS (f : Nat → Str) : ∀ k i, i ≤ k → STW.leS (f (argBest (fun i j => ltC (f i) (f j)) k)) (f i) := fun k => by
  induction k with
  | zero =>
    intro i h
    have : i = 0 := by omega
    subst this
    exact STW.lc_irr _
  | succ k ih =>
    intro i h
    unfold argBest
    by_cases z : ltC (f (k + 1)) (f (argBest (fun i j => ltC (f i) (f j)) k)) = true
    · rw [if_pos z]
      by_cases e : i = k + 1
      · subst e; exact STW.lc_irr _
      · exact STW.leS_trans (STW.lc_asym _ _ z) (ih i (by omega))
    · rw [if_neg z]
      by_cases e : i = k + 1
      · subst e
        show ltC _ _ = false
        simpa using z
      · exact ih i (by omega)
theorem mnS_spec (ss : List Str) (h : ss ≠ []) : mnS ss ∈ ss ∧ ∀ x ∈ ss, STW.leS (mnS ss) x := by
  have hl := List.length_pos_iff.mpr h
  have hb := argBest_le (fun i j => ltC (ss.getD i "") (ss.getD j "")) (ss.length - 1)
  refine ⟨?_, fun x hx => ?_⟩
  · unfold mnS bestS
    have : argBest (fun i j => ltC (ss.getD i "") (ss.getD j "")) (ss.length - 1) < ss.length := by omega
    rw [List.getD_eq_getElem?_getD, List.getElem?_eq_getElem this]
    exact List.getElem_mem this
  · obtain ⟨j, hj, rfl⟩ := List.mem_iff_getElem.mp hx
    have := argBest_leS (fun i => ss.getD i "") (ss.length - 1) j (by omega)
    unfold mnS bestS
    simpa [List.getD_eq_getElem?_getD, hj] using this
theorem strs_get {us : List Value} {ss : List Str} (h : StrsAre us ss) {i : Nat} {u : Value} (hu : us[i]? = some u) : ∃ t, u = Value.str (ss.getD i "") t := by
  induction h generalizing i with
  | nil => simp at hu
  | cons x t r ih =>
    cases i with
    | zero => cases hu; exact ⟨t, rfl⟩
    | succ i =>
      obtain ⟨t', e⟩ := ih (by simpa using hu)
      exact ⟨t', by simpa using e⟩
variable [Tabs]
section
variable {X : Cx} {pos pp kp : Pos} {e e2 : Expr} {fe f2 : FE}
def minSD (d : D) : D → Rs D
  | .lst xs => match strsOf xs with
    | some ss => .ok (if ss = [] then d else .str (mnS ss))
    | none => .no
  | _ => .no
def eMinS (fe f2 : FE) : FE := fun τ => (fe τ).bind fun l => (f2 τ).bind fun d => minSD d l
theorem pde_minS {x : Str} (hc : X.calm = true) (hg : Gl X x) (hm : X.mg x = none) (hv : bootBuiltins x = some (.builtin "min")) (he : PDE X e fe) (h2 : PDE X e2 f2)
    (hn : x ≠ "__name__" := by decide) (hdb : (x == ("__debug__" : Str)) = false := by decide) (h1 : starEach [e] X.env = (false, eval e X.env) :: starEach [] X.env := by rfl) :
    PDE X (.Call (.Name x pp) [e] [⟨some "default", e2, kp⟩] pos) (eMinS fe f2) := by
  intro pins s σ H Q I ⟨F, τ, R, hq⟩
  refine wpAny_Call_Name_kw (ld_blt I hg hm hv ?_ hn hdb)
  refine callWith_kw ?_ (by rw [h1]; rfl) (by rw [h1]; rfl)
  have ha : PDA X [e] (aCons fe aNil) := pda_cons he pda_nil (by rw [h1])
  have hqb := hq.bind
  refine thn (ha pos pins s σ H (fun vs H1 => ∃ F1 d v, vs = [v] ∧ Ext F H F1 H1 ∧ Rep X.K F1 d v ∧ fe τ = .ok d) I ⟨F, τ, R, ?_⟩) fun us s1 hA => ?_
  · unfold aCons aNil
    cases z : fe τ with
    | no => rw [z] at hqb; exact hqb.elim
    | ex cc => rw [z] at hqb; exact hqb
    | ok d =>
      intro vs F1 H1 x1 rr
      obtain ⟨v, rfl, rd⟩ := Reps.one rr
      exact ⟨F1, d, v, rfl, x1, rd, rfl⟩
  obtain ⟨vs, H1, I1, rvs, F1, d, v, rfl, x1, rd, ed⟩ := hA
  obtain ⟨u, rfl, ru⟩ := Vals.one rvs
  rw [ed] at hqb
  have hqb : Ok X ((f2 τ).bind fun d2 => minSD d2 d) (Ev X.K F H Q) := hqb
  refine kws_cons (thn (h2 pins s1 σ H1 (fun v2 H2 => ∃ F2 d2, Ext F1 H1 F2 H2 ∧ Rep X.K F2 d2 v2 ∧ Ok X (minSD d2 d) (Ev X.K F H Q)) I1 ⟨F1, τ, R.ext x1, hqb.bind.imp fun d2 g v2 F2 H2 x2 r2 => ⟨F2, d2, x2, r2, g⟩⟩) fun u2 s2 ⟨v2, H2, I2, ru2, F2, d2, x2, rd2, g⟩ => kws_nil ?_)
  show wpAny _ _ (call (.builtin "min") [u] [(Str.ofString "default", u2)]) _ _ _
  cases d with
  | lst xs =>
    simp only [minSD] at g
    cases z : strsOf xs with
    | none => rw [z] at g; exact g.elim
    | some ss =>
      rw [z] at g
      simp only [Rep] at rd
      obtain ⟨l, ws, rfl, hF1, rs⟩ := rd
      obtain rfl : u = Value.ref l := ru
      obtain ⟨its, rr, p, _⟩ := I2.list (SqL.of (K := X.K) (x2.fh _ _ (x2.ff _ _ hF1)))
      have hi : StrsAre its ss := strs_vals z rs rr
      have hh : X.A.in1.handled = none := I2.ok.hd hc
      have hlt : l < s2.heap.objs.size := I2.hok.lt (x2.fh _ _ (x2.ff _ _ hF1))
      have hln : its.length = ss.length := by have := congrArg List.length hi.strs; simpa using this
      have en : its.toArray.size = ss.length := by simp [hln]
      have I3 : Inv X pins σ H2 { s2 with heap := s2.heap.push { cls := .type "list_iterator", data := .fields #[.ref l, .int 0 0] } } := I2.kept (t' := s2.toks) fun b o e => Heap.get?_push_of_some _ e
      have fk := I2.fpOk (H' := H2) (Nat.le_refl s2.heap.objs.size) (I2.hok.fresh (Nat.le_refl _))
      have turned : ∀ h' tk, (∀ b o, b ∉ [s2.heap.objs.size] → (s2.heap.push { cls := .type "list_iterator", data := .fields #[.ref l, .int 0 0] }).get? b = some o → h'.get? b = some o) → Inv X pins σ H2 { s2 with heap := h', toks := tk } := fun h' tk hk =>
        turnedL (s := { s2 with heap := s2.heap.push { cls := .type "list_iterator", data := .fields #[.ref l, .int 0 0] } }) (ch := [s2.heap.objs.size]) I3 (fun b o hb e => hk b o hb e) (fun b hb => by
          have z : b = s2.heap.objs.size := by simpa using hb
          subst z; exact fk) fun b hb => by
          have z : b = s2.heap.objs.size := by simpa using hb
          subst z; exact fk.1
      refine call_minD_walk (wpAny_pyIter_list p.isList ⟨s2.heap.objs.size, _, _, _, _, _, _, _, rfl, Walks.list hh s2.heap.objs.size l (Nat.ne_of_lt hlt) its.toArray, ⟨⟨_, Heap.get?_push_size _ rfl, rfl, rfl⟩, p.isList.push _⟩, fun b hb => ?_, cmpH_strs (fun i => ss.getD i "") (fun i v hP => strs_get hi (by simpa using hP)), trivial, fun _ _ _ _ => trivial, fun hz h' tk hk => ?_, fun hz v h' tk hP hk => ?_⟩)
      · have : b = s2.heap.objs.size ∨ b = l := by simpa using hb
        rw [Heap.size_push]
        rcases this with z | z
        · rw [z]; exact Nat.lt_succ_self _
        · rw [z]; exact Nat.lt_succ_of_lt hlt
      · have : ss = [] := List.eq_nil_of_length_eq_zero (by omega)
        subst this
        exact ⟨v2, H2, turned h' tk hk, ru2, g v2 F2 H2 (x1.trans x2) (by simpa using rd2)⟩
      · have hne : ss ≠ [] := fun z => by subst z; simp at hln; rw [en] at hz; simp at hz
        rw [en] at hP
        obtain ⟨t, rfl⟩ := strs_get hi (i := argBest (fun i j => ltC (ss.getD i "") (ss.getD j "")) (ss.length - 1)) (by simpa using hP)
        refine ⟨.str (mnS ss), H2, turned h' tk hk, ⟨t, rfl⟩, g _ F2 H2 (x1.trans x2) ?_⟩
        rw [if_neg hne]; simp only [Rep]
  | _ => exact g.elim
end
end FD
set_option Elab.async false
set_option linter.all false
set_option maxRecDepth 100000
namespace FD
open PySem PySem.Spec PyProof.Rows L2
section
open PySem.SeqAt
open PySem.AutoSeq1 (wpAny_loadPart')
open PySem.MeetsSeq PySem.MeetsSeq2 PySem.MeetsSeq3
end
section
variable {prog : Program} {w : World} {A : Around} {E : Value → Shared → Prop} {s : Shared}
end
variable [Tabs]
section
variable {X : Cx}
end
end FD
set_option Elab.async false
set_option linter.all false
set_option maxRecDepth 100000
namespace FD
open PySem PySem.Spec PyProof.Rows L2
variable [Tabs]
section
variable {X : Cx}
end
end FD
set_option Elab.async false
set_option linter.all false
set_option maxRecDepth 100000
namespace FD
open PySem PySem.Spec PyProof.Rows L2
mutual
def cstN : Nat → Expr → Option D
  | 0, _ => none
  | n + 1, e => match e with
    | .Constant (.str x) _ _ => some (.str x)
    | .Constant (.int i) _ _ => some (.int i)
    | .List es _ => (cstL n es).bind fun ds => if ds.length ≤ 100 then some (.lst ds) else none
    | _ => none
def cstL : Nat → List Expr → Option (List D)
  | 0, _ => none
  | n + 1, es => match es with
    | [] => some []
    | e :: r => (cstN n e).bind fun d => (cstL n r).map (d :: ·)
end
variable [Tabs]
section
variable {X : Cx}
theorem cst_star {n : Nat} {e : Expr} {d : D} (h : cstN n e = some d) (r : List Expr) (env : Env) : starEach (e :: r) env = (false, eval e env) :: starEach r env := by
  cases n with
  | zero => unfold cstN at h; cases h
  | succ n =>
    unfold cstN at h
    split at h
    · exact st_const
    · exact st_const
    · exact st_list
    · cases h
theorem cst_both : ∀ n : Nat, (∀ (e : Expr) (d : D), cstN n e = some d → PDE X e (fun _ => .ok d)) ∧ ∀ (es : List Expr) (ds : List D), cstL n es = some ds → PDA X es (fun _ => .ok ds) := fun n => by
  induction n with
  | zero => exact ⟨fun e d h => (by unfold cstN at h; cases h), fun es ds h => (by unfold cstL at h; cases h)⟩
  | succ n ih =>
    obtain ⟨i1, i2⟩ := ih
    refine ⟨fun e d h => ?_, fun es ds h => ?_⟩
    · unfold cstN at h
      split at h
      · cases h; exact pde_str
      · cases h; exact pde_int
      · rename_i es p
        cases z : cstL n es with
        | none => rw [z] at h; cases h
        | some ds =>
          rw [z, Option.bind_some] at h
          by_cases hl : ds.length ≤ 100
          · rw [if_pos hl] at h
            cases h
            have := pde_lst (pos := p) (i2 es ds z)
            have e1 : eLst (fun _ => .ok ds) = fun _ => Rs.ok (D.lst ds) := by
              funext τ
              show (if ds.length ≤ sizeLine then Rs.ok (D.lst ds) else .no) = _
              rw [if_pos (by rw [sizeLine_eq]; omega)]
            rw [e1] at this
            exact this
          · rw [if_neg hl] at h; cases h
      · cases h
    · unfold cstL at h
      split at h
      · cases h; exact pda_nil
      · rename_i e r
        cases z : cstN n e with
        | none => rw [z] at h; cases h
        | some d =>
          rw [z, Option.bind_some] at h
          cases z2 : cstL n r with
          | none => rw [z2] at h; cases h
          | some ds' =>
            rw [z2] at h
            cases h
            exact pda_cons (i1 e d z) (i2 r ds' z2) (cst_star z r X.env)
theorem pde_cst {n : Nat} {e : Expr} {d : D} (h : cstN n e = some d) : PDE X e (fun _ => .ok d) := (cst_both n).1 e d h
end
end FD
set_option Elab.async false
set_option linter.all false
namespace FD
open PySem PySem.Spec PyProof.Rows L2
section
variable {τ : DS} {fa fb fc fe fi : FE} {fs : FA} {op : D → D → Rs D} {d x y : D} {i j k : Int} {n m : Nat}
def getV : Option (Option Sl) → Rs D
  | some (some (.val d)) => .ok d
  | _ => .no
def getO : Option (Option Sl) → Rs (List D)
  | some (some (.own d)) => .ok d
  | _ => .no
@[simp] theorem getV_val : getV (some (some (.val d))) = .ok d := rfl
@[simp] theorem getO_own {ds : List D} : getO (some (some (.own ds))) = .ok ds := rfl
theorem eVar_ap : eVar n τ = getV τ[n]? := rfl
theorem ownAt_ap : ownAt τ n = getO τ[n]? := rfl
theorem eC_ap : eC d τ = .ok d := rfl
theorem eOp_ap : eOp op fa fb τ = (fa τ).bind fun x => (fb τ).bind fun y => op x y := rfl
theorem aNil_ap : aNil τ = .ok [] := rfl
theorem aCons_ap : aCons fa fs τ = (fa τ).bind fun x => (fs τ).bind fun r => .ok (x :: r) := rfl
theorem eLst_ap : eLst fs τ = (fs τ).bind fun ds => if ds.length ≤ sizeLine then .ok (.lst ds) else .no := rfl
theorem eCall_ap {g : List D → Rs D} : eCall g fs τ = (fs τ).bind fun ds => noEx (g ds) := rfl
theorem eBlt_ap {g : List D → Rs D} : eBlt g fs τ = (fs τ).bind g := rfl
theorem eIf_ap {g : FT} : eIf g fa fb τ = (g τ).bind fun b => if b = true then fa τ else fb τ := rfl
theorem eAnd_ap : eAnd fa fb τ = (fa τ).bind fun x => (truD x).bind fun b => if b = true then fb τ else .ok x := rfl
theorem eOr_ap : eOr fa fb τ = (fa τ).bind fun x => (truD x).bind fun b => if b = true then .ok x else fb τ := rfl
def boolOf : D → Rs Bool
  | .bl b => .ok b
  | _ => .no
@[simp] theorem boolOf_bl {b : Bool} : boolOf (.bl b) = .ok b := rfl
theorem tB_ap : FD.tB fe τ = (fe τ).bind boolOf := rfl
theorem tTru_ap : tTru fe τ = (fe τ).bind truD := rfl
theorem tAnd_ap {f g : FT} : tAndD f g τ = (f τ).bind fun b => if b = true then g τ else .ok false := rfl
theorem tOr_ap {f g : FT} : tOrD f g τ = (f τ).bind fun b => if b = true then .ok true else g τ := rfl
theorem tNot_ap {f : FT} : tNotD f τ = (f τ).bind fun b => .ok (!b) := rfl
theorem eMt0_ap {T : String} {g : D → List D → Rs D} : eMt0 T g fa τ = (fa τ).bind fun d => if isTy T d = true then g d [] else .no := rfl
theorem eSl_ap {fl fh : FO} : eSl fe fl fh τ = (fe τ).bind fun d => (fl τ).bind fun l => (fh τ).bind fun u => slD d l u := rfl
theorem oNone_ap : oNone τ = .ok none := rfl
def Fl.thn (r : Fl) (g : FS) : Fl := match r with
  | .nx τ => g τ
  | r => r
@[simp] theorem thn_nx {g : FS} : (Fl.nx τ).thn g = g τ := rfl
@[simp] theorem thn_rt {g : FS} : (Fl.rt d).thn g = .rt d := rfl
theorem sSeq_ap {f g : FS} : sSeq f g τ = (f τ).thn g := rfl
theorem sSet_ap : sSet n fe τ = Fl.of (fe τ) fun d => .nx (τ.set n (some (.val d))) := rfl
theorem sSetO_ap : sSetO n fs τ = Fl.of (fs τ) fun ds => .nx (τ.set n (some (.own ds))) := rfl
theorem sIf_ap {g : FT} {f h : FS} : sIf g f h τ = Fl.of (g τ) fun b => if b = true then f τ else h τ := rfl
theorem sRet_ap : sRet fe τ = Fl.of (fe τ) fun d => .rt d := rfl
theorem sRetO_ap : sRetO n τ = Fl.of (ownAt τ n) fun ds => .rt (.lst ds) := rfl
theorem sNext_ap : sNext τ = .nx τ := rfl
theorem sFor_ap {set : FG} {body : FS} : sFor fs set body τ = Fl.of (fs τ) fun ds => loopD set body ds τ := rfl
@[simp] theorem flRes_rt : flRes (.rt d) = .ok d := rfl
@[simp] theorem noEx_ok : noEx (.ok d) = .ok d := rfl
@[simp] theorem addD_i : addD (.int i) (.int j) = .ok (.int (i + j)) := rfl
theorem addD_s {a b : Str} (h : a.length + b.length ≤ sizeLine) : addD (.str a) (.str b) = .ok (.str (a ++ b)) := if_pos h
theorem mulD_i (h : (-(18446744073709551616) < i ∧ i < 18446744073709551616) ∨ (-(18446744073709551616) < j ∧ j < 18446744073709551616)) : mulD (.int i) (.int j) = .ok (.int (i * j)) := if_pos h
theorem modD_i (h : 0 < j) : modD (.int i) (.int j) = .ok (.int (i % j)) := by
  show (if decide (0 < j) = true then _ else _) = _
  rw [if_pos (by simpa using h)]
theorem fdivD_i (h : 0 < j ∧ j < 1073741824) : fdivD (.int i) (.int j) = .ok (.int (i / j)) := by
  show (if decide (0 < j ∧ j < 1073741824) = true then _ else _) = _
  rw [if_pos (by simpa using h)]
@[simp] theorem ltI_i : ltI (.int i) (.int j) = .ok (.bl (decide (i < j))) := rfl
@[simp] theorem gtD_i : gtD (.int i) (.int j) = .ok (.bl (decide (j < i))) := rfl
@[simp] theorem eqD_i : eqD (.int i) (.int j) = .ok (.bl (i == j)) := rfl
@[simp] theorem eqD_s {a b : Str} : eqD (.str a) (.str b) = .ok (.bl (a == b)) := rfl
@[simp] theorem neD_i : neD (.int i) (.int j) = .ok (.bl (!(i == j))) := rfl
@[simp] theorem neD_s {a b : Str} : neD (.str a) (.str b) = .ok (.bl (!(a == b))) := rfl
@[simp] theorem inD_s {a b : Str} : inD (.str a) (.str b) = .ok (.bl (strIn a b)) := rfl
theorem strIn_one (c : Nat) (x : Str) : strIn ⟨#[c]⟩ x = decide (c ∈ x.cps.toList) := StrLaws.found_one x c
@[simp] theorem lenD_scr {ns : List Int} : lenD [.scr ns] = .ok (.int ns.length) := rfl
@[simp] theorem lenD_lst {ds : List D} : lenD [.lst ds] = .ok (.int ds.length) := rfl
theorem lenD_str {a : Str} (h : a.length ≤ sizeLine) : lenD [.str a] = .ok (.int a.length) := if_pos h
theorem ixD_scr {ns : List Int} {a : Int} (h : atI ns k = some a) : ixD (.scr ns) (.int k) = .ok (.int a) := by
  show (match atI ns k with | some d => Rs.ok (D.int d) | none => .no) = _
  rw [h]
theorem ixD_lst {ds : List D} {a : D} (h : atI ds k = some a) : ixD (.lst ds) (.int k) = .ok a := by
  show (match atI ds k with | some d => Rs.ok d | none => .no) = _
  rw [h]
theorem ixD_str {a : Str} {c : Nat} (h : atI a.cps.toList k = some c) (hz : a.length ≤ sizeLine) : ixD (.str a) (.int k) = .ok (signD c) := by
  show (match atI a.cps.toList k with | some c => if a.length ≤ sizeLine then Rs.ok (D.str ⟨#[c]⟩) else .no | none => .no) = _
  rw [h]
  exact if_pos hz
theorem atI_of {α : Type} {xs : List α} {a : α} (h0 : 0 ≤ k) (h : xs[k.toNat]? = some a) : atI xs k = some a := by
  have := atI_nat (j := k.toNat) h
  rwa [Int.toNat_of_nonneg h0] at this
@[simp] theorem truD_bl {b : Bool} : truD (.bl b) = .ok b := rfl
theorem runF_ap {b : FS} {ds : List D} : runF n b ds = flRes (b (startD n ds)) := rfl
end
theorem eqvAll_nil (l : List PyData) : PyData.eqvAll l [] = l.isEmpty := by cases l <;> simp [PyData.eqvAll]
theorem okD_scr (ns : List Int) : okD (.scr ns) = true := by
  have c : ∀ l : List Int, PyData.canLayAll0 (l.map PyData.int) = true := fun l => by
    induction l with
    | nil => rfl
    | cons a r ih => simp [PyData.canLayAll0, PyData.canLay0, ih]
  have d : ∀ l : List Int, PyData.depthAll (l.map PyData.int) = 0 := fun l => by
    induction l with
    | nil => rfl
    | cons a r ih => simp [PyData.depthAll, PyData.depth, ih]
  simp [okD, plainD, toPy, PyData.canLay0, PyData.depth, c, d]
theorem eqD_scr_nil (ns : List Int) : eqD (.scr ns) (.lst []) = .ok (.bl ns.isEmpty) := by
  have o2 : okD (.lst []) = true := by decide
  have : eqvD (.scr ns) (.lst []) = ns.isEmpty := by
    simp only [eqvD, toPy, toPys, PyData.eqv, eqvAll_nil]
    cases ns <;> rfl
  simp only [eqD, okD_scr, o2, this, and_self, if_true]
end FD
set_option Elab.async false
set_option linter.all false
set_option maxRecDepth 100000
namespace Law
open PySem PySem.Spec PyProof.Rows L2 FD
instance tabs : FD.Tabs := ⟨[], fun c f => false⟩
def b_longer_queries : FS := (sMkD 2 (hFor (iDct (eVar 0)) 3 (hFor (iRg2 (aCons (eDIx (eVar 0) (eVar 3)) (aCons (eBlt lenD (aCons (eVar 1) aNil)) aNil))) 4 (hFor (iAny (eOp ixD (eVar 1) (eVar 4))) 5 (hNew (eOp addD (eVar 3) (eVar 5)) (eOp addD (eVar 4) (eC (.int 1))))))))
def m_longer_queries (ds : List D) : Rs D := runF 6 b_longer_queries ds
def b_all_queries : FS := (sSeq (sSet 2 (fun _ => .ok (dctI [("", 0)])))
      (sSeq (sFor (iRg1 (aCons (eVar 1) aNil)) (gNm 3) (sSet 2 (eCall m_longer_queries (aCons (eVar 2) (aCons (eVar 0) aNil)))))
      (sRet (eBlt listKD (aCons (eVar 2) aNil)))))
def m_all_queries (ds : List D) : Rs D := runF 4 b_all_queries ds
def b_is_query_sign : FS := (sRet (eOr (eOp inD (eVar 0) (eC (.str "abcdefghijklmnopqrstuvwxyz"))) (eOr (eOp inD (eVar 0) (eC (.str "ABCDEFGHIJKLMNOPQRSTUVWXYZ"))) (eOp inD (eVar 0) (eC (.str "0123456789"))))))
def m_is_query_sign (ds : List D) : Rs D := runF 1 b_is_query_sign ds
def b_own_signs : FS := (sRet (eIf (tTru (eCall m_is_query_sign (aCons (eVar 0) aNil))) (eLst (aCons (eVar 0) aNil)) (eLst aNil)))
def m_own_signs (ds : List D) : Rs D := runF 1 b_own_signs ds
def b_meeting_signs : FS := (sSeq (sIf (tB (eOp inD (eVar 0) (eC (.str "ABCDEFGHIJKLMNOPQRSTUVWXYZ")))) (sRet (eLst (aCons (eMt0 "str" loD (eVar 0)) (aCons (eVar 0) aNil)))) sNext)
      (sRet (eCall m_own_signs (aCons (eVar 0) aNil))))
def m_meeting_signs (ds : List D) : Rs D := runF 1 b_meeting_signs ds
def b_fitted_names : FS := (sMkD 2 (hFor (iAny (eVar 0)) 3 (hFor (iAny (eCall m_all_queries (aCons (fun τ => ((eComp 1 [] (iAny (eVar 3)) (gNm 0) (fun _ => .ok true) (eCall m_meeting_signs (aCons (eVar 0) aNil))) τ).bind fun ds => .ok (.lst ds)) (aCons (eVar 1) aNil)))) 4 (hInc (eVar 4)))))
def m_fitted_names (ds : List D) : Rs D := runF 5 b_fitted_names ds
def b_least_alone : FS := (sSeq (sSet 3 (eCall m_all_queries (aCons (fun τ => ((eComp 1 [] (iAny (eVar 0)) (gNm 0) (fun _ => .ok true) (eCall m_own_signs (aCons (eVar 0) aNil))) τ).bind fun ds => .ok (.lst ds)) (aCons (eVar 1) aNil))))
      (sRet (eMinS (fun τ => ((eComp 1 [2] (iAny (eVar 3)) (gNm 0) (tB (eOp eqD (eDIx (eVar 1) (eVar 0)) (eC (.int 1)))) (eVar 0)) τ).bind fun ds => .ok (.lst ds)) (eC .non))))
def m_least_alone (ds : List D) : Rs D := runF 4 b_least_alone ds
def b_telling : FS := (sSeq (sSetO 1 (eRepL (eLst (aCons (eC .non) aNil)) (eBlt lenD (aCons (eVar 0) aNil))))
      (sSeq (sFor (iRg1 (aCons (eOp addD (eC (.int 3)) (eC (.int 1))) aNil)) (gNm 2) (sSeq (sSet 3 (eCall m_fitted_names (aCons (eVar 0) (aCons (eVar 2) aNil))))
      (sFor (iEn (aCons (eVar 0) aNil)) (gPr 4 5) (sIf (tB (eOp isD (eIxO 1 (eVar 4)) (eC .non))) (sPut 1 (eVar 4) (eCall m_least_alone (aCons (eVar 5) (aCons (eVar 2) (aCons (eVar 3) aNil))))) sNext))))
      (sRetO 1)))
def m_telling (ds : List D) : Rs D := runF 6 b_telling ds
def b__law_mark : FS := (sRet (eOp inD (eVar 0) (eC (.str "_-./"))))
def m__law_mark (ds : List D) : Rs D := runF 1 b__law_mark ds
def b__law_queries : FS := (sSeq (sSet 2 (eLst (aCons (eC (.str "")) aNil)))
      (sSeq (sFor (iAny (eVar 0)) (gNm 3) (sSet 2 (eOp addD (eVar 2) (fun τ => ((eComp 1 [3, 1] (iAny (eVar 2)) (gNm 0) (tAndD (tB (eOp ltI (eBlt lenD (aCons (eVar 0) aNil)) (eVar 2))) (tNotD (tTru (eCall m__law_mark (aCons (eVar 1) aNil))))) (eOp addD (eVar 0) (eVar 1))) τ).bind fun ds => .ok (.lst ds)))))
      (sRet (fun τ => (((aCons (fun τ => ((eComp 1 [1] (iAny (eVar 2)) (gNm 0) (tB (eOp eqD (eBlt lenD (aCons (eVar 0) aNil)) (eVar 1))) (eVar 0)) τ).bind fun ds => .ok (.lst ds)) aNil) τ).bind setS).bind fun ds => .ok (.lst ds)))))
def m__law_queries (ds : List D) : Rs D := runF 4 b__law_queries ds
def b_meets : FS := (sRet (eOr (eOp eqD (eVar 0) (eVar 1)) (eAnd (eOp inD (eVar 0) (eC (.str "abcdefghijklmnopqrstuvwxyz"))) (eOp eqD (eMt0 "str" upD (eVar 0)) (eVar 1)))))
def m_meets (ds : List D) : Rs D := runF 2 b_meets ds
def b_earliest_places : FS := (sSeq (sSetO 2 (fun τ => (aNil τ).bind fun ds => if ds.length ≤ sizeLine then .ok ds else .no))
      (sSeq (sFor (iRg1 (aCons (eBlt lenD (aCons (eVar 1) aNil)) aNil)) (gNm 3) (sIf (tAndD (tB (eOp ltI (eLenO 2) (eBlt lenD (aCons (eVar 0) aNil)))) (tTru (eCall m_meets (aCons (eOp ixD (eVar 0) (eLenO 2)) (aCons (eOp ixD (eVar 1) (eVar 3)) aNil))))) (sApp 2 (eVar 3)) sNext))
      (sRetO 2)))
def m_earliest_places (ds : List D) : Rs D := runF 4 b_earliest_places ds
def b_fits : FS := (sRet (eOp eqD (eBlt lenD (aCons (eCall m_earliest_places (aCons (eVar 0) (aCons (eVar 1) aNil))) aNil)) (eBlt lenD (aCons (eVar 0) aNil))))
def m_fits (ds : List D) : Rs D := runF 2 b_fits ds
def b_is_query : FS := (sSeq (sIf (tNotD (tTru (eBlt isiD (aCons (eVar 0) (aCons (eC (.raw (.ty "str"))) aNil))))) (sRet (eC (.bl false))) sNext)
      (sSeq (sIf (tB (eOp gtD (eBlt lenD (aCons (eVar 0) aNil)) (eC (.int 8)))) (sRet (eC (.bl false))) sNext)
      (sRet (eBlt allD (aCons (fun τ => ((eComp 1 [] (iAny (eVar 0)) (gNm 0) (fun _ => .ok true) (eCall m_is_query_sign (aCons (eVar 0) aNil))) τ).bind fun ds => .ok (.lst ds)) aNil)))))
def m_is_query (ds : List D) : Rs D := runF 1 b_is_query ds
def b__law_tells : FS := (sSeq (sSet 1 (eCall m_telling (aCons (eVar 0) aNil)))
      (sSeq (sIf (tOrD (tNotD (tTru (eBlt isiD (aCons (eVar 1) (aCons (eC (.raw (.ty "list"))) aNil))))) (tB (eOp neD (eBlt lenD (aCons (eVar 1) aNil)) (eBlt lenD (aCons (eVar 0) aNil))))) (sRet (eC (.bl false))) sNext)
      (sSeq (sFor (iEn (aCons (eVar 0) aNil)) (gPr 2 3) (sSeq (sSet 4 (eOp addD (eSl (eVar 0) oNone (oSome (eVar 2))) (eSl (eVar 0) (oSome (eOp addD (eVar 2) (eC (.int 1)))) oNone)))
      (sSeq (sSet 5 (eC .non))
      (sSeq (sFor (iRg1 (aCons (eC (.int 4)) aNil)) (gNm 6) (sFor (iAny (eCall m__law_queries (aCons (eVar 3) (aCons (eVar 6) aNil)))) (gNm 7) (sIf (tAndD (tB (eOp isD (eVar 5) (eC .non))) (tB (eOp eqD (fun τ => ((eComp 1 [7] (iAny (eVar 4)) (gNm 0) (tTru (eCall m_fits (aCons (eVar 1) (aCons (eVar 0) aNil)))) (eVar 0)) τ).bind fun ds => .ok (.lst ds)) (eLst aNil)))) (sSet 5 (eVar 7)) sNext)))
      (sSeq (sIf (tOrD (tB (eOp neD (eOp ixD (eVar 1) (eVar 2)) (eVar 5))) (tAndD (tB (eOp isNotD (eVar 5) (eC .non))) (tOrD (tNotD (tTru (eCall m_fits (aCons (eVar 5) (aCons (eVar 3) aNil))))) (tNotD (tTru (eCall m_is_query (aCons (eVar 5) aNil))))))) (sRet (eC (.bl false))) sNext)
      (sIf (tAndD (tB (eOp inD (eVar 3) (eVar 4))) (tB (eOp isNotD (eVar 5) (eC .non)))) (sRet (eC (.bl false))) sNext))))))
      (sRet (eOr (eOp neD (eVar 0) (eLst aNil)) (eOp eqD (eVar 1) (eLst aNil)))))))
def m__law_tells (ds : List D) : Rs D := runF 8 b__law_tells ds
def b__law_cell : FS := (sSeq (sIf (tB (eOp eqD (eVar 0) (eLst aNil))) (sRet (eOp mulD (eC (.int 7)) (eVar 1))) sNext)
      (sRet (eOp addD (eOp ixD (eVar 0) (eOp modD (eVar 1) (eBlt lenD (aCons (eVar 0) aNil)))) (eOp mulD (eC (.int 6553)) (eOp fdivD (eVar 1) (eBlt lenD (aCons (eVar 0) aNil)))))))
def m__law_cell (ds : List D) : Rs D := runF 2 b__law_cell ds
def b__law_drawn : FS := (sSeq (sSet 3 (eOp modD (eOp addD (eOp mulD (eOp modD (eCall m__law_cell (aCons (eVar 0) (aCons (eVar 1) aNil))) (eC (.int 2147483563))) (eC (.int 69069))) (eOp mulD (eC (.int 104723)) (eOp addD (eVar 1) (eC (.int 1))))) (eC (.int 2147483563))))
      (sSeq (sSet 3 (eOp modD (eOp addD (eOp mulD (eVar 3) (eVar 3)) (eOp fdivD (eVar 3) (eC (.int 3)))) (eC (.int 2147483399))))
      (sRet (eOp modD (eOp fdivD (eOp modD (eOp addD (eOp mulD (eVar 3) (eVar 3)) (eOp fdivD (eVar 3) (eC (.int 7)))) (eC (.int 2147483647))) (eC (.int 11))) (eVar 2)))))
def m__law_drawn (ds : List D) : Rs D := runF 4 b__law_drawn ds
def b__law_name : FS := (sSeq (sSet 2 (eC (.str "")))
      (sSeq (sFor (iRg1 (aCons (eOp addD (eC (.int 1)) (eCall m__law_drawn (aCons (eVar 0) (aCons (eVar 1) (aCons (eC (.int 10)) aNil))))) aNil)) (gNm 3) (sSet 2 (eOp addD (eVar 2) (eOp ixD (eC (.str "abcabABCab1_-./xyz")) (eCall m__law_drawn (aCons (eVar 0) (aCons (eOp addD (eOp addD (eVar 1) (eC (.int 1))) (eVar 3)) (aCons (eC (.int 18)) aNil))))))))
      (sRet (eVar 2))))
def m__law_name (ds : List D) : Rs D := runF 4 b__law_name ds
def b__law_names : FS := (sSeq (sSetO 3 (eComp 1 [0, 1] (iRg1 (aCons (eCall m__law_drawn (aCons (eVar 0) (aCons (eVar 1) (aCons (eOp addD (eVar 2) (eC (.int 1))) aNil)))) aNil)) (gNm 0) (fun _ => .ok true) (eCall m__law_name (aCons (eVar 1) (aCons (eOp addD (eOp addD (eVar 2) (eC (.int 1))) (eOp mulD (eC (.int 12)) (eVar 0))) aNil)))))
      (sSeq (sIf (tAndD (tB (eOp gtD (eLenO 3) (eC (.int 1)))) (tB (eOp eqD (eCall m__law_drawn (aCons (eVar 0) (aCons (eOp addD (eVar 1) (eC (.int 12))) (aCons (eC (.int 5)) aNil)))) (eC (.int 0))))) (sPut 3 (eC (.int 0)) (eIxO 3 (eNeg (eC (.int 1))))) sNext)
      (sRetO 3)))
def m__law_names (ds : List D) : Rs D := runF 4 b__law_names ds
def b_law : FS := (sSeq (sSet 1 (fun _ => .ok (.lst [.lst [.str "abc", .str "ab", .str "bc", .str "ac"], .lst [.str "abcd", .str "abc", .str "abd", .str "acd", .str "bcd"], .lst [.str "AB", .str "ab", .str "Ab"], .lst [.str "a.b", .str "ab1", .str "a"]])))
      (sSeq (sIf (tNotD (tTru (eCall m__law_tells (aCons (eOp ixD (eVar 1) (eCall m__law_drawn (aCons (eVar 0) (aCons (eC (.int 90)) (aCons (eC (.int 4)) aNil))))) aNil)))) (sRet (eC (.bl false))) sNext)
      (sRet (eCall m__law_tells (aCons (fun τ => ((eComp 1 [] (iAny (eCall m__law_names (aCons (eVar 0) (aCons (eC (.int 0)) (aCons (eC (.int 4)) aNil))))) (gNm 0) (fun _ => .ok true) (eSl (eVar 0) oNone (oSome (eC (.int 6))))) τ).bind fun ds => .ok (.lst ds)) aNil)))))
def m_law (ds : List D) : Rs D := runF 2 b_law ds
end Law
set_option Elab.async false
set_option linter.all false
namespace Law
open PySem PySem.Spec PyProof.Rows L2 FD
def cellZ (ns : List Int) (k : Int) : Int := if ns = [] then 7 * k else ns.getD (k % ns.length).toNat 0 + 6553 * (k / ns.length)
theorem sizeLine_v : sizeLine = 16777216 := sizeLine_eq
theorem cell_ok (ns : List Int) (k : Int) (h63 : ns.length ≤ 63) (h0 : 0 ≤ k) : m__law_cell [.scr ns, .int k] = .ok (.int (cellZ ns k)) := by
  have st : startD 2 [D.scr ns, .int k] = [some (.val (.scr ns)), some (.val (.int k))] := rfl
  unfold m__law_cell b__law_cell
  rw [runF_ap, st]
  simp only [sSeq_ap, sIf_ap, tB_ap, eOp_ap, eVar_ap, eLst_ap, aNil_ap, List.getElem?_cons_zero, getV_val, Rs.bind_ok, List.length_nil, Nat.zero_le, if_true, eqD_scr_nil, boolOf_bl, Fl.of_ok]
  cases ns with
  | nil =>
    simp only [List.isEmpty_nil, if_true, sRet_ap, eOp_ap, eC_ap, eVar_ap, List.getElem?_cons_zero, List.getElem?_cons_succ, getV_val, Rs.bind_ok, mulD_i (i := 7) (j := k) (.inl ⟨by decide, by decide⟩), Fl.of_ok, thn_rt, flRes_rt, cellZ]
  | cons a r =>
    have hl : (0 : Int) < ((a :: r).length : Int) := by simp only [List.length_cons]; omega
    have hm0 := Int.emod_nonneg k (show ((a :: r).length : Int) ≠ 0 by omega)
    have hm1 := Int.emod_lt_of_pos k hl
    have hat : atI (a :: r) (k % ((a :: r).length : Int)) = some ((a :: r).getD (k % ((a :: r).length : Int)).toNat 0) := by
      refine atI_of hm0 ?_
      have : (k % ((a :: r).length : Int)).toNat < (a :: r).length := by omega
      rw [List.getD_eq_getElem?_getD, List.getElem?_eq_getElem this]; rfl
    have hdv : fdivD (.int k) (.int ((a :: r).length : Int)) = .ok (.int (k / ((a :: r).length : Int))) := fdivD_i ⟨hl, by omega⟩
    have hmd : modD (.int k) (.int ((a :: r).length : Int)) = .ok (.int (k % ((a :: r).length : Int))) := modD_i hl
    have hml := mulD_i (i := 6553) (j := k / ((a :: r).length : Int)) (.inl ⟨by decide, by decide⟩)
    simp only [List.isEmpty_cons, Bool.false_eq_true, if_false, sNext_ap, thn_nx, sRet_ap, eOp_ap, eC_ap, eVar_ap, eBlt_ap, aCons_ap, aNil_ap, List.getElem?_cons_zero, List.getElem?_cons_succ, getV_val, Rs.bind_ok, lenD_scr, hmd, hdv, hml, ixD_scr hat, addD_i, Fl.of_ok, flRes_rt]
    simp [cellZ]
def d1 (ns : List Int) (k : Int) : Int := (cellZ ns k % 2147483563 * 69069 + 104723 * (k + 1)) % 2147483563
def d2 (ns : List Int) (k : Int) : Int := (d1 ns k * d1 ns k + d1 ns k / 3) % 2147483399
def drawZ (ns : List Int) (k m : Int) : Int := (d2 ns k * d2 ns k + d2 ns k / 7) % 2147483647 / 11 % m
theorem draw_ok (ns : List Int) (k m : Int) (h63 : ns.length ≤ 63) (h0 : 0 ≤ k) (hk : k < 1000000) (hm : 0 < m) : m__law_drawn [.scr ns, .int k, .int m] = .ok (.int (drawZ ns k m)) := by
  have st : startD 4 [D.scr ns, .int k, .int m] = [some (.val (.scr ns)), some (.val (.int k)), some (.val (.int m)), none] := rfl
  have b1 : 0 ≤ d1 ns k ∧ d1 ns k < 2147483563 := ⟨Int.emod_nonneg _ (by decide), Int.emod_lt_of_pos _ (by decide)⟩
  have b2 : 0 ≤ d2 ns k ∧ d2 ns k < 2147483399 := ⟨Int.emod_nonneg _ (by decide), Int.emod_lt_of_pos _ (by decide)⟩
  have c0 := Int.emod_lt_of_pos (cellZ ns k) (show (0 : Int) < 2147483563 by decide)
  have c1 := Int.emod_nonneg (cellZ ns k) (show (2147483563 : Int) ≠ 0 by decide)
  have q1 := mulD_i (i := cellZ ns k % 2147483563) (j := 69069) (.inr ⟨by decide, by decide⟩)
  have q2 := mulD_i (i := 104723) (j := k + 1) (.inl ⟨by decide, by decide⟩)
  have q3 := mulD_i (i := d1 ns k) (j := d1 ns k) (.inl ⟨by omega, by omega⟩)
  have q4 := mulD_i (i := d2 ns k) (j := d2 ns k) (.inl ⟨by omega, by omega⟩)
  have e1 : (cellZ ns k % 2147483563 * 69069 + 104723 * (k + 1)) % 2147483563 = d1 ns k := rfl
  have e2 : (d1 ns k * d1 ns k + d1 ns k / 3) % 2147483399 = d2 ns k := rfl
  have m1 := fun i => modD_i (i := i) (j := 2147483563) (by decide)
  have m2 := fun i => modD_i (i := i) (j := 2147483399) (by decide)
  have m3 := fun i => modD_i (i := i) (j := 2147483647) (by decide)
  have m4 := fun i => modD_i (i := i) (j := m) hm
  have f3 := fun i => fdivD_i (i := i) (j := 3) ⟨by decide, by decide⟩
  have f7 := fun i => fdivD_i (i := i) (j := 7) ⟨by decide, by decide⟩
  have f11 := fun i => fdivD_i (i := i) (j := 11) ⟨by decide, by decide⟩
  unfold m__law_drawn b__law_drawn
  rw [runF_ap, st]
  simp only [sSeq_ap, sSet_ap, sRet_ap, eOp_ap, eVar_ap, eC_ap, eCall_ap, aCons_ap, aNil_ap, List.getElem?_cons_zero, List.getElem?_cons_succ, getV_val, Rs.bind_ok, cell_ok ns k h63 h0, noEx_ok, m1, q1, addD_i, q2, e1, Fl.of_ok, thn_nx, List.set_cons_succ, List.set_cons_zero, q3, f3, m2, e2, q4, f7, m3, f11, m4, flRes_rt]
  rfl
theorem draw_lt (ns : List Int) (k : Int) {m : Int} (hm : 0 < m) : 0 ≤ drawZ ns k m ∧ drawZ ns k m < m := ⟨Int.emod_nonneg _ (by omega), Int.emod_lt_of_pos _ hm⟩
end Law
set_option Elab.async false
set_option linter.all false
namespace FD
open PySem PySem.Spec PyProof.Rows L2
theorem loop_from {set : FG} {body : FS} (f : Nat → D) (S : Nat → DS) : ∀ (m j : Nat), (∀ k, j ≤ k → k < j + m → ∃ τ1, set (f k) (S k) = .ok τ1 ∧ body τ1 = .nx (S (k + 1))) → loopD set body ((List.range' j m).map f) (S j) = .nx (S (j + m))
  | 0, j, _ => rfl
  | m + 1, j, h => by
    obtain ⟨τ1, h1, h2⟩ := h j (Nat.le_refl _) (by omega)
    rw [List.range'_succ, List.map_cons, loopD, h1, Fl.of_ok]
    simp only [h2]
    rw [loop_from f S m (j + 1) fun k hk hk2 => h k (by omega) (by omega)]
    congr 2; omega
theorem loop_range {set : FG} {body : FS} (f : Nat → D) (S : Nat → DS) (n : Nat) (h : ∀ k, k < n → ∃ τ1, set (f k) (S k) = .ok τ1 ∧ body τ1 = .nx (S (k + 1))) : loopD set body ((List.range n).map f) (S 0) = .nx (S n) := by
  have := loop_from f S n 0 fun k _ hk => h k (by omega)
  rw [Nat.zero_add] at this
  rwa [List.range_eq_range']
theorem rg1_ok {fs : FA} {τ : DS} {j : Int} (h : fs τ = .ok [.int j]) (h1 : -(2 ^ 62) ≤ j) (h2 : j < 2 ^ 62) : iRg1 fs τ = .ok (rngD 0 j.toNat) := by
  unfold iRg1
  rw [h]
  simp only [Rs.bind_ok, int1]
  rw [if_pos ⟨h1, h2⟩]
theorem str_app (a : List Nat) (c : Nat) : (⟨a.toArray⟩ : Str) ++ (⟨#[c]⟩ : Str) = ⟨(a ++ [c]).toArray⟩ := by
  show Str.mk _ = _
  simp
theorem gNm_ap {n : Nat} {d : D} {τ : DS} : gNm n d τ = .ok (τ.set n (some (.val d))) := rfl
end FD
namespace Law
open PySem PySem.Spec PyProof.Rows L2 FD
def A18 : List Nat := [97, 98, 99, 97, 98, 65, 66, 67, 97, 98, 49, 95, 45, 46, 47, 120, 121, 122]
def nameN (ns : List Int) (a : Int) : Nat := (1 + drawZ ns a 10).toNat
def nameC (ns : List Int) (a : Int) (k : Nat) : Nat := A18.getD (drawZ ns (a + 1 + k) 18).toNat 0
def nameL (ns : List Int) (a : Int) (n : Nat) : List Nat := (List.range n).map (nameC ns a)
theorem a18 : ("abcabABCab1_-./xyz" : Str).cps.toList = A18 := by decide +kernel
theorem name_ok (ns : List Int) (a : Int) (h63 : ns.length ≤ 63) (h0 : 0 ≤ a) (ha : a < 900000) : m__law_name [.scr ns, .int a] = .ok (.str ⟨(nameL ns a (nameN ns a)).toArray⟩) := by
  have st : startD 4 [D.scr ns, .int a] = [some (.val (.scr ns)), some (.val (.int a)), none, none] := rfl
  have dl := draw_lt ns a (m := 10) (by decide)
  unfold m__law_name b__law_name
  rw [runF_ap, st, sSeq_ap, sSet_ap, eC_ap, Fl.of_ok, thn_nx, sSeq_ap, sFor_ap]
  have r1 := rg1_ok (fs := aCons (eOp addD (eC (.int 1)) (eCall m__law_drawn (aCons (eVar 0) (aCons (eVar 1) (aCons (eC (.int 10)) aNil))))) aNil) (τ := [some (.val (.scr ns)), some (.val (.int a)), some (.val (.str "")), none]) (j := 1 + drawZ ns a 10)
    (by simp only [aCons_ap, aNil_ap, eOp_ap, eC_ap, eCall_ap, eVar_ap, List.getElem?_cons_zero, List.getElem?_cons_succ, getV_val, Rs.bind_ok, draw_ok ns a 10 h63 h0 (by omega) (by decide), noEx_ok, addD_i]) (by omega) (by omega)
  simp only [List.set_cons_succ, List.set_cons_zero]
  rw [r1, Fl.of_ok]
  let S : Nat → DS := fun k => [some (.val (.scr ns)), some (.val (.int a)), some (.val (.str ⟨(nameL ns a k).toArray⟩)), if k = 0 then none else some (.val (.int ((k : Int) - 1)))]
  have s0 : S 0 = [some (.val (.scr ns)), some (.val (.int a)), some (.val (.str "")), none] := by
    simp only [S, nameL, List.range_zero, List.map_nil, if_true]
    rfl
  rw [← s0]
  have lp := loop_range (set := gNm 3) (body := (sSet 2 (eOp addD (eVar 2) (eOp ixD (eC (.str "abcabABCab1_-./xyz")) (eCall m__law_drawn (aCons (eVar 0) (aCons (eOp addD (eOp addD (eVar 1) (eC (.int 1))) (eVar 3)) (aCons (eC (.int 18)) aNil)))))))) (fun (k : Nat) => D.int (0 + k)) S (1 + drawZ ns a 10).toNat fun k hk => by
    refine ⟨_, gNm_ap, ?_⟩
    have hk' : (k : Int) < 20 := by omega
    have dk := draw_lt ns (a + 1 + (0 + (k : Int))) (m := 18) (by decide)
    have hd := draw_ok ns (a + 1 + (0 + (k : Int))) 18 h63 (by omega) (by omega) (by decide)
    have hix := ixD_str (a := "abcabABCab1_-./xyz") (k := drawZ ns (a + 1 + (0 + (k : Int))) 18) (c := A18.getD (drawZ ns (a + 1 + (0 + (k : Int))) 18).toNat 0) (atI_of dk.1 (by
      rw [a18]
      have : (drawZ ns (a + 1 + (0 + (k : Int))) 18).toNat < A18.length := by
        have : A18.length = 18 := rfl
        omega
      rw [List.getD_eq_getElem?_getD, List.getElem?_eq_getElem this]; rfl)) (by decide +kernel)
    have hadd := addD_s (a := ⟨(nameL ns a k).toArray⟩) (b := ⟨#[A18.getD (drawZ ns (a + 1 + (0 + (k : Int))) 18).toNat 0]⟩) (by
      show (nameL ns a k).toArray.size + 1 ≤ sizeLine
      rw [sizeLine_v, List.size_toArray]
      simp only [nameL, List.length_map, List.length_range]; omega)
    simp only [S, List.set_cons_succ, List.set_cons_zero, sSet_ap, eOp_ap, eC_ap, eCall_ap, aCons_ap, aNil_ap, eVar_ap, List.getElem?_cons_zero, List.getElem?_cons_succ, getV_val, Rs.bind_ok, addD_i, hd, noEx_ok, hix, signD, hadd, Fl.of_ok, str_app]
    have e1 : nameL ns a k ++ [A18.getD (drawZ ns (a + 1 + (0 + (k : Int))) 18).toNat 0] = nameL ns a (k + 1) := by
      simp only [nameL, List.range_succ, List.map_append, List.map_cons, List.map_nil, nameC, Int.zero_add]
    rw [e1]
    simp
  unfold rngD
  rw [lp, thn_nx]
  simp only [S, sRet_ap, eVar_ap, List.getElem?_cons_zero, List.getElem?_cons_succ, getV_val, Fl.of_ok, flRes_rt]
  rfl
end Law
set_option Elab.async false
set_option linter.all false
namespace FD
open PySem PySem.Spec PyProof.Rows L2
theorem loop_inv {set : FG} {body : FS} (f : Nat → D) (I : Nat → DS → Prop) : ∀ (m j : Nat) (τ : DS), I j τ → (∀ k τ, j ≤ k → k < j + m → I k τ → ∃ τ1 τ2, set (f k) τ = .ok τ1 ∧ body τ1 = .nx τ2 ∧ I (k + 1) τ2) → ∃ τ', loopD set body ((List.range' j m).map f) τ = .nx τ' ∧ I (j + m) τ'
  | 0, j, τ, h, _ => ⟨τ, rfl, h⟩
  | m + 1, j, τ, h, hs => by
    obtain ⟨τ1, τ2, h1, h2, h3⟩ := hs j τ (Nat.le_refl _) (by omega) h
    obtain ⟨τ', h4, h5⟩ := loop_inv f I m (j + 1) τ2 h3 fun k τ hk hk2 => hs k τ (by omega) (by omega)
    refine ⟨τ', ?_, by rw [show j + (m + 1) = j + 1 + m by omega]; exact h5⟩
    rw [List.range'_succ, List.map_cons, loopD, h1, Fl.of_ok]
    simp only [h2, h4]
theorem loop_inv0 {set : FG} {body : FS} (f : Nat → D) (I : Nat → DS → Prop) (n : Nat) (τ : DS) (h0 : I 0 τ) (h : ∀ k τ, k < n → I k τ → ∃ τ1 τ2, set (f k) τ = .ok τ1 ∧ body τ1 = .nx τ2 ∧ I (k + 1) τ2) : ∃ τ', loopD set body ((List.range n).map f) τ = .nx τ' ∧ I n τ' := by
  obtain ⟨τ', h1, h2⟩ := loop_inv f I n 0 τ h0 fun k τ _ hk hi => h k τ (by omega) hi
  rw [Nat.zero_add] at h2
  exact ⟨τ', by rw [List.range_eq_range']; exact h1, h2⟩
end FD
namespace Law
open PySem PySem.Spec PyProof.Rows L2 FD
def MK : List Nat := [95, 45, 46, 47]
theorem mk_l : ("_-./" : Str).cps.toList = MK := by decide +kernel
theorem mark_ok (c : Nat) : m__law_mark [signD c] = .ok (.bl (decide (c ∈ MK))) := by
  have st : startD 1 [signD c] = [some (.val (signD c))] := rfl
  unfold m__law_mark b__law_mark
  rw [runF_ap, st]
  simp only [sRet_ap, eOp_ap, eVar_ap, eC_ap, List.getElem?_cons_zero, getV_val, Rs.bind_ok, signD, inD_s, strIn_one, mk_l, Fl.of_ok, flRes_rt]
theorem lower_one (c : Nat) (h : c < 128) : Txt.lower (⟨#[c]⟩ : Str) = ⟨#[lo1 c]⟩ := by
  rw [lower_ascii (x := ⟨#[c]⟩) (by intro d hd; have e : d = c := (by simpa using hd); omega)]
  simp
def NS : List Nat := [97, 98, 99, 65, 66, 67, 49, 95, 45, 46, 47, 120, 121, 122]
theorem name_sign (ns : List Int) (a : Int) (k : Nat) (h : 0 ≤ a + 1 + k) : nameC ns a k ∈ NS := by
  have d := draw_lt ns (a + 1 + k) (m := 18) (by decide)
  have hall : ∀ n, n < 18 → A18.getD n 0 ∈ NS := by decide
  exact hall _ (by omega)
end Law
set_option Elab.async false
set_option linter.all false
set_option maxHeartbeats 1000000
namespace Law
open PySem PySem.Spec PyProof.Rows L2 FD
def meetC (c d : Nat) : Bool := c == d || (decide (97 ≤ c ∧ c ≤ 122) && up1 c == d)
theorem small_l : ("abcdefghijklmnopqrstuvwxyz" : Str).cps.toList = (List.range 26).map (· + 97) := by decide +kernel
theorem small_mem (c : Nat) : decide (c ∈ ("abcdefghijklmnopqrstuvwxyz" : Str).cps.toList) = decide (97 ≤ c ∧ c ≤ 122) := by
  rw [small_l]
  apply decide_eq_decide.mpr
  rw [List.mem_map]
  constructor
  · rintro ⟨i, hi, rfl⟩
    have := List.mem_range.mp hi
    omega
  · intro h
    exact ⟨c - 97, List.mem_range.mpr (by omega), by omega⟩
theorem upper_one (c : Nat) (h : c < 128) : Txt.upper (⟨#[c]⟩ : Str) = ⟨#[up1 c]⟩ := by
  rw [upper_ascii (x := ⟨#[c]⟩) (by intro d hd; have e : d = c := (by simpa using hd); omega)]
  simp
theorem one_eq (c d : Nat) : ((⟨#[c]⟩ : Str) == ⟨#[d]⟩) = (c == d) := by
  rw [Bool.eq_iff_iff]
  simp
theorem meets_ok (c d : Nat) (hc : c < 128) : m_meets [signD c, signD d] = .ok (.bl (meetC c d)) := by
  have st : startD 2 [signD c, signD d] = [some (.val (signD c)), some (.val (signD d))] := rfl
  have hup : upD (.str ⟨#[c]⟩) [] = .ok (.str ⟨#[up1 c]⟩) := by
    simp only [upD]
    rw [if_pos (by show 1 ≤ 5000000; decide), upper_one _ hc]
  unfold m_meets b_meets
  rw [runF_ap, st]
  simp only [sRet_ap, eOr_ap, eAnd_ap, eOp_ap, eVar_ap, eC_ap, eMt0_ap, List.getElem?_cons_zero, List.getElem?_cons_succ, getV_val, Rs.bind_ok, signD, eqD_s, one_eq, truD_bl, inD_s, strIn_one, small_mem, isTy, decide_true, if_true, hup]
  unfold meetC
  by_cases h : c = d
  · subst h; simp
  · have hb : (c == d) = false := by simpa using h
    simp only [hb, Bool.false_eq_true, if_false, Bool.false_or]
    by_cases h2 : 97 ≤ c ∧ c ≤ 122
    · simp [h2]
    · simp [h2]
end Law
set_option Elab.async false
set_option linter.all false
set_option maxHeartbeats 1000000
namespace FD
open PySem PySem.Spec PyProof.Rows L2
section
variable {τ : DS} {fa fb fe fi : FE} {fs : FA} {n : Nat} {i : Int}
theorem eLenO_ap : eLenO n τ = (getO τ[n]?).bind fun ds => .ok (.int ds.length) := rfl
theorem sApp_ap : sApp n fe τ = Fl.of (getO τ[n]?) fun ds => Fl.of (fe τ) fun d => if ds.length < sizeLine then .nx (τ.set n (some (.own (ds ++ [d])))) else .no := rfl
theorem iAny_ap : iAny fe τ = (fe τ).bind iterD := rfl
@[simp] theorem iter_str {x : Str} : iterD (.str x) = .ok (signsD x) := rfl
def putAt (n : Nat) (ds : List D) (d : D) (τ : DS) : D → Fl
  | .int k => match ixN ds.length k with
    | some j => .nx (τ.set n (some (.own (ds.set j d))))
    | none => .no
  | _ => .no
theorem sPut_ap : sPut n fi fe τ = Fl.of (fe τ) fun d => Fl.of (getO τ[n]?) fun ds => Fl.of (fi τ) (putAt n ds d τ) := by
  unfold sPut ownAt
  cases fe τ <;> rfl
theorem putAt_ok {ds : List D} {d : D} {j : Nat} (h : j < ds.length) : putAt n ds d τ (.int j) = .nx (τ.set n (some (.own (ds.set j d)))) := by
  have : ixN ds.length (j : Int) = some j := by
    unfold ixN
    rw [if_pos (by omega), if_pos (by omega)]
    simp
  simp only [putAt, this]
def ixO (ds : List D) : D → Rs D
  | .int k => match atI ds k with
    | some d => .ok d
    | none => .no
  | _ => .no
theorem eIxO_ap : eIxO n fi τ = (getO τ[n]?).bind fun ds => (fi τ).bind (ixO ds) := by
  unfold eIxO
  show (getO τ[n]?).bind _ = _
  cases getO τ[n]? <;> rfl
theorem ixO_ok {ds : List D} {d : D} {j : Nat} (h : ds[j]? = some d) : ixO ds (.int j) = .ok d := by
  simp only [ixO, atI_of (k := (j : Int)) (by omega) (show ds[((j : Int)).toNat]? = some d by simpa using h)]
end
theorem loop_rel {α β : Type} {set : FG} {body : FS} (f : α → D) (R : β → DS → Prop) (step : β → α → β) : ∀ (xs : List α) (b : β) (τ : DS), R b τ → (∀ a ∈ xs, ∀ b τ, R b τ → ∃ τ1 τ2, set (f a) τ = .ok τ1 ∧ body τ1 = .nx τ2 ∧ R (step b a) τ2) → ∃ τ', loopD set body (xs.map f) τ = .nx τ' ∧ R (xs.foldl step b) τ'
  | [], b, τ, h, _ => ⟨τ, rfl, h⟩
  | x :: xs, b, τ, h, hs => by
    obtain ⟨τ1, τ2, h1, h2, h3⟩ := hs x (List.mem_cons_self ..) b τ h
    obtain ⟨τ', h4, h5⟩ := loop_rel f R step xs (step b x) τ2 h3 fun a ha => hs a (List.mem_cons_of_mem _ ha)
    refine ⟨τ', ?_, h5⟩
    rw [List.map_cons, loopD, h1, Fl.of_ok]
    simp only [h2, h4]
end FD
namespace Law
open PySem PySem.Spec PyProof.Rows L2 FD
abbrev tx (x : List Nat) : D := .str ⟨x.toArray⟩
abbrev nts (x : List Nat) : D := .lst (x.map fun (k : Nat) => D.int k)
theorem tx_len (x : List Nat) (h : x.length ≤ 1000) : lenD [tx x] = .ok (.int x.length) := by
  rw [lenD_str (by rw [sizeLine_v]; show x.toArray.size ≤ _; simp; omega)]
  show Rs.ok (D.int ((x.toArray.size : Nat) : Int)) = _
  simp
theorem tx_ix (x : List Nat) (j : Nat) (c : Nat) (h : x[j]? = some c) (hl : x.length ≤ 1000) : ixD (tx x) (.int j) = .ok (signD c) := by
  refine ixD_str (atI_of (by omega) (by simpa using h)) (by rw [sizeLine_v]; show x.toArray.size ≤ _; simp; omega)
theorem tx_signs (x : List Nat) : signsD ⟨x.toArray⟩ = x.map signD := by simp [signsD]
def epR : List Nat → List Nat → Nat → List Nat
  | [], _, _ => []
  | _ :: _, [], _ => []
  | a :: q, c :: x, k => if meetC a c = true then k :: epR q x (k + 1) else epR (a :: q) x (k + 1)
def epBody : FS := (sIf (tAndD (FD.tB (eOp ltI (eLenO 2) (eBlt lenD (aCons (eVar 0) aNil)))) (tTru (eCall m_meets (aCons (eOp ixD (eVar 0) (eLenO 2)) (aCons (eOp ixD (eVar 1) (eVar 3)) aNil))))) (sApp 2 (eVar 3)) sNext)
theorem ep_loop (q x : List Nat) (hq : q.length ≤ 1000) (hx : x.length ≤ 1000) (ha : ∀ c ∈ q, c < 128) : ∀ (m k : Nat) (b : List Nat) (s : Option Sl), k + m = x.length → b.length ≤ k →
    ∃ s', loopD (gNm 3) epBody ((List.range' k m).map fun (k : Nat) => D.int (0 + k)) [some (.val (tx q)), some (.val (tx x)), some (.own (b.map fun (k : Nat) => D.int k)), s]
      = .nx [some (.val (tx q)), some (.val (tx x)), some (.own ((b ++ epR (q.drop b.length) (x.drop k) k).map fun (k : Nat) => D.int k)), s']
  | 0, k, b, s, h, hb => by
    have : x.drop k = [] := List.drop_eq_nil_of_le (by omega)
    rw [this]
    have e : epR (q.drop b.length) [] k = [] := by cases q.drop b.length <;> rfl
    rw [e, List.append_nil]
    exact ⟨s, rfl⟩
  | m + 1, k, b, s, h, hb => by
    have hk : k < x.length := by omega
    have hxk := tx_ix x k x[k] (List.getElem?_eq_getElem hk) hx
    rw [List.range'_succ, List.map_cons, loopD, gNm_ap, Fl.of_ok, List.drop_eq_getElem_cons hk]
    simp only [List.set_cons_succ, List.set_cons_zero, Int.zero_add]
    have ih := fun b' s' h' => ep_loop q x hq hx ha m (k + 1) b' s' (by omega) h'
    simp only [Int.zero_add] at ih
    by_cases hl : b.length < q.length
    · have hqb := tx_ix q b.length q[b.length] (List.getElem?_eq_getElem hl) hq
      have hbz : b.length < sizeLine := by rw [sizeLine_v]; omega
      have hmt := meets_ok q[b.length] x[k] (ha _ (List.getElem_mem hl))
      rw [List.drop_eq_getElem_cons hl]
      by_cases hm : meetC q[b.length] x[k] = true
      · obtain ⟨s', e⟩ := ih (b ++ [k]) (some (.val (.int k))) (by simp; omega)
        refine ⟨s', ?_⟩
        have : epBody [some (.val (tx q)), some (.val (tx x)), some (.own (b.map fun (k : Nat) => D.int k)), some (.val (.int k))] = .nx [some (.val (tx q)), some (.val (tx x)), some (.own ((b ++ [k]).map fun (k : Nat) => D.int k)), some (.val (.int k))] := by
          unfold epBody
          simp only [sIf_ap, sNext_ap, sApp_ap, eLenO_ap, tB_ap, tTru_ap, tAnd_ap, eOp_ap, eVar_ap, aNil_ap, aCons_ap, eCall_ap, eBlt_ap, List.getElem?_cons_zero, List.getElem?_cons_succ, List.set_cons_succ, List.set_cons_zero, getV_val, getO_own, Rs.bind_ok, Fl.of_ok, noEx_ok, boolOf_bl, truD_bl, ltI_i, if_true, List.length_map, tx_len q hq, Int.ofNat_lt, hl, decide_true, hqb, hxk, hmt, hm, hbz, List.map_append, List.map_cons, List.map_nil]
        simp only [this]
        rw [e]
        simp only [epR, hm, if_true, List.append_assoc, List.cons_append, List.nil_append, List.length_append, List.length_cons, List.length_nil, Nat.zero_add]
      · obtain ⟨s', e⟩ := ih b (some (.val (.int k))) (by omega)
        refine ⟨s', ?_⟩
        have hm' : meetC q[b.length] x[k] = false := by simpa using hm
        have : epBody [some (.val (tx q)), some (.val (tx x)), some (.own (b.map fun (k : Nat) => D.int k)), some (.val (.int k))] = .nx [some (.val (tx q)), some (.val (tx x)), some (.own (b.map fun (k : Nat) => D.int k)), some (.val (.int k))] := by
          unfold epBody
          simp only [sIf_ap, sNext_ap, sApp_ap, eLenO_ap, tB_ap, tTru_ap, tAnd_ap, eOp_ap, eVar_ap, aNil_ap, aCons_ap, eCall_ap, eBlt_ap, List.getElem?_cons_zero, List.getElem?_cons_succ, List.set_cons_succ, List.set_cons_zero, getV_val, getO_own, Rs.bind_ok, Fl.of_ok, noEx_ok, boolOf_bl, truD_bl, ltI_i, if_true, Bool.false_eq_true, if_false, List.length_map, tx_len q hq, Int.ofNat_lt, hl, decide_true, hqb, hxk, hmt, hm']
        simp only [this]
        rw [e, List.drop_eq_getElem_cons hl]
        simp only [epR, hm', Bool.false_eq_true, if_false]
    · obtain ⟨s', e⟩ := ih b (some (.val (.int k))) (by omega)
      refine ⟨s', ?_⟩
      have : epBody [some (.val (tx q)), some (.val (tx x)), some (.own (b.map fun (k : Nat) => D.int k)), some (.val (.int k))] = .nx [some (.val (tx q)), some (.val (tx x)), some (.own (b.map fun (k : Nat) => D.int k)), some (.val (.int k))] := by
        unfold epBody
        simp only [sIf_ap, sNext_ap, sApp_ap, eLenO_ap, tB_ap, tTru_ap, tAnd_ap, eOp_ap, eVar_ap, aNil_ap, aCons_ap, eCall_ap, eBlt_ap, List.getElem?_cons_zero, List.getElem?_cons_succ, List.set_cons_succ, List.set_cons_zero, getV_val, getO_own, Rs.bind_ok, Fl.of_ok, boolOf_bl, ltI_i, Bool.false_eq_true, if_false, List.length_map, tx_len q hq, Int.ofNat_lt, hl, decide_false]
      simp only [this]
      rw [e, List.drop_eq_nil_of_le (by omega : q.length ≤ b.length)]
      simp only [epR]
theorem ep_ok (q x : List Nat) (hq : q.length ≤ 1000) (hx : x.length ≤ 1000) (ha : ∀ c ∈ q, c < 128) : m_earliest_places [tx q, tx x] = .ok (nts (epR q x 0)) := by
  have st : startD 4 [tx q, tx x] = [some (.val (tx q)), some (.val (tx x)), none, none] := rfl
  obtain ⟨s', e⟩ := ep_loop q x hq hx ha x.length 0 [] none (by omega) (Nat.le_refl _)
  unfold epBody at e
  have r1 := rg1_ok (fs := aCons (eBlt lenD (aCons (eVar 1) aNil)) aNil) (τ := [some (.val (tx q)), some (.val (tx x)), some (.own []), none]) (j := x.length) (by simp only [eVar_ap, aNil_ap, aCons_ap, eBlt_ap, List.getElem?_cons_zero, List.getElem?_cons_succ, getV_val, Rs.bind_ok, tx_len x hx]) (by omega) (by omega)
  unfold m_earliest_places b_earliest_places
  rw [runF_ap, st]
  simp only [sSeq_ap, sSetO_ap, sFor_ap, aNil_ap, List.set_cons_succ, List.set_cons_zero, Rs.bind_ok, Fl.of_ok, thn_nx, if_true, List.length_nil, Nat.zero_le, r1, rngD, Int.toNat_natCast]
  rw [List.range_eq_range']
  rw [show ([] : List D) = ([] : List Nat).map fun (k : Nat) => D.int k from rfl, e]
  simp only [sRetO_ap, ownAt_ap, List.getElem?_cons_zero, List.getElem?_cons_succ, getO_own, Fl.of_ok, thn_nx, flRes_rt, List.nil_append, List.length_nil, List.drop_zero]
def subs : List Nat → List Nat → Bool
  | [], _ => true
  | _ :: _, [] => false
  | a :: q, c :: x => if meetC a c = true then subs q x else subs (a :: q) x
theorem epR_subs : ∀ (q x : List Nat) (k : Nat), ((epR q x k).length = q.length) ↔ subs q x = true
  | [], x, k => by simp [epR, subs]
  | a :: q, [], k => by simp [epR, subs]
  | a :: q, c :: x, k => by
    simp only [epR, subs]
    split
    · simpa using epR_subs q x (k + 1)
    · exact epR_subs (a :: q) x (k + 1)
theorem fits_ok (q x : List Nat) (hq : q.length ≤ 1000) (hx : x.length ≤ 1000) (ha : ∀ c ∈ q, c < 128) : m_fits [tx q, tx x] = .ok (.bl (subs q x)) := by
  have st : startD 2 [tx q, tx x] = [some (.val (tx q)), some (.val (tx x))] := rfl
  unfold m_fits b_fits
  rw [runF_ap, st]
  simp only [sRet_ap, eOp_ap, eVar_ap, aNil_ap, aCons_ap, eCall_ap, eBlt_ap, List.getElem?_cons_zero, List.getElem?_cons_succ, getV_val, Rs.bind_ok, Fl.of_ok, flRes_rt, noEx_ok, eqD_i, lenD_lst, ep_ok q x hq hx ha, tx_len q hq, List.length_map]
  congr 2
  rw [Bool.eq_iff_iff, ← epR_subs q x 0, beq_iff_eq]
  omega
end Law
set_option Elab.async false
set_option linter.all false
set_option maxHeartbeats 1000000
namespace Law
open PySem PySem.Spec PyProof.Rows L2 FD
theorem comp_map {set : FG} {fe : FE} {τ : DS} {α β : Type} (f : α → D) (g : β → D) (h : α → β) : ∀ (xs : List α), (∀ a ∈ xs, ∃ τ1, set (f a) τ = .ok τ1 ∧ fe τ1 = .ok (g (h a))) → compL set (fun _ => .ok true) fe τ (xs.map f) = .ok ((xs.map h).map g)
  | [], _ => rfl
  | a :: xs, hs => by
    obtain ⟨τ1, h1, h2⟩ := hs a (List.mem_cons_self ..)
    rw [List.map_cons, compL, h1]
    simp only [h2, comp_map f g h xs fun b hb => hs b (List.mem_cons_of_mem _ hb), Rs.bind_ok, List.map_cons]
theorem mk_len (x : List Nat) : (⟨x.toArray⟩ : Str).length = x.length := by show x.toArray.size = _; simp
theorem slice_to (x : List Nat) (n : Nat) : Txt.slice (⟨x.toArray⟩ : Str) none (some (n : Int)) = ⟨(x.take n).toArray⟩ := by
  have := eq_of_beq (slice_to_min_closes (x := ⟨x.toArray⟩) (n := (n : Int)) (m := _) (by omega) rfl)
  rw [this]
  congr 2
  rw [mk_len]
  show (List.drop (0 : Int).toNat x).take _ = _
  rw [show (0 : Int).toNat = 0 from rfl, List.drop_zero]
  split
  · rw [List.take_of_length_le (by omega), List.take_of_length_le (by omega)]
  · congr 1
theorem comp_filter {set : FG} {ft : FT} {fe : FE} {τ : DS} {α : Type} (f g : α → D) (p : α → Bool) : ∀ (xs : List α), (∀ a ∈ xs, ∃ τ1, set (f a) τ = .ok τ1 ∧ ft τ1 = .ok (p a) ∧ fe τ1 = .ok (g a)) → compL set ft fe τ (xs.map f) = .ok ((xs.filter p).map g)
  | [], _ => rfl
  | a :: xs, hs => by
    obtain ⟨τ1, h1, h2, h3⟩ := hs a (List.mem_cons_self ..)
    have ih := comp_filter f g p xs fun b hb => hs b (List.mem_cons_of_mem _ hb)
    rw [List.map_cons, compL, h1]
    cases hp : p a
    · rw [hp] at h2
      simp only [h2, ih, List.filter_cons, hp, Bool.false_eq_true, if_false]
    · rw [hp] at h2
      simp only [h2, h3, ih, List.filter_cons, hp, if_true, Rs.bind_ok, List.map_cons]
def negI : D → Rs D
  | .int i => .ok (.int (-i))
  | _ => .no
theorem eNeg_ap {fa : FE} {τ : DS} : eNeg fa τ = (fa τ).bind negI := by
  unfold eNeg
  show (fa τ).bind _ = _
  cases fa τ with
  | ok d => cases d <;> rfl
  | _ => rfl
theorem great_l : ("ABCDEFGHIJKLMNOPQRSTUVWXYZ" : Str).cps.toList = (List.range 26).map (· + 65) := by decide +kernel
theorem figs_l : ("0123456789" : Str).cps.toList = (List.range 10).map (· + 48) := by decide +kernel
theorem run_mem (c n a : Nat) : decide (c ∈ (List.range (n + 1)).map (· + a)) = decide (a ≤ c ∧ c ≤ n + a) := by
  apply decide_eq_decide.mpr
  rw [List.mem_map]
  constructor
  · rintro ⟨i, hi, rfl⟩
    have := List.mem_range.mp hi
    omega
  · intro h
    exact ⟨c - a, List.mem_range.mpr (by omega), by omega⟩
theorem great_mem (c : Nat) : decide (c ∈ ("ABCDEFGHIJKLMNOPQRSTUVWXYZ" : Str).cps.toList) = decide (65 ≤ c ∧ c ≤ 90) := by
  rw [great_l]; exact run_mem c 25 65
theorem figs_mem (c : Nat) : decide (c ∈ ("0123456789" : Str).cps.toList) = decide (48 ≤ c ∧ c ≤ 57) := by
  rw [figs_l]; exact run_mem c 9 48
theorem size2 : ∀ a b : D, ([a, b] : List D).length ≤ sizeLine := fun a b => by rw [sizeLine_v]; exact Nat.le_of_ble_eq_true rfl
theorem size1 : ∀ a : D, ([a] : List D).length ≤ sizeLine := fun a => by rw [sizeLine_v]; exact Nat.le_of_ble_eq_true rfl
theorem lst1e {fa : FE} {τ : DS} {a : D} (h1 : fa τ = .ok a) : eLst (aCons fa aNil) τ = .ok (.lst [a]) := by
  rw [eLst_ap, aCons_ap, h1, Rs.bind_ok, aNil_ap, Rs.bind_ok, Rs.bind_ok]
  exact if_pos (size1 a)
theorem call1 {f : List D → Rs D} {fa : FE} {τ : DS} {a d : D} (h1 : fa τ = .ok a) (h : f [a] = .ok d) : eCall f (aCons fa aNil) τ = .ok d := by
  rw [eCall_ap, aCons_ap, h1, Rs.bind_ok, aNil_ap, Rs.bind_ok, Rs.bind_ok, h]; rfl
theorem call2 {f : List D → Rs D} {fa fb : FE} {τ : DS} {a b d : D} (h1 : fa τ = .ok a) (h2 : fb τ = .ok b) (h : f [a, b] = .ok d) : eCall f (aCons fa (aCons fb aNil)) τ = .ok d := by
  rw [eCall_ap, aCons_ap, h1, Rs.bind_ok, aCons_ap, h2, Rs.bind_ok, aNil_ap, Rs.bind_ok, Rs.bind_ok, Rs.bind_ok, h]; rfl
theorem call3 {f : List D → Rs D} {fa fb fc : FE} {τ : DS} {a b c d : D} (h1 : fa τ = .ok a) (h2 : fb τ = .ok b) (h3 : fc τ = .ok c) (h : f [a, b, c] = .ok d) : eCall f (aCons fa (aCons fb (aCons fc aNil))) τ = .ok d := by
  rw [eCall_ap, aCons_ap, h1, Rs.bind_ok, aCons_ap, h2, Rs.bind_ok, aCons_ap, h3, Rs.bind_ok, aNil_ap, Rs.bind_ok, Rs.bind_ok, Rs.bind_ok, Rs.bind_ok, h]; rfl
theorem op2 {op : D → D → Rs D} {fa fb : FE} {τ : DS} {a b : D} {r : Rs D} (h1 : fa τ = .ok a) (h2 : fb τ = .ok b) (h : op a b = r) : eOp op fa fb τ = r := by
  rw [eOp_ap, h1, Rs.bind_ok, h2, Rs.bind_ok, h]
theorem var_ok {n : Nat} {τ : DS} {d : D} (h : τ[n]? = some (some (.val d))) : eVar n τ = .ok d := by rw [eVar_ap, h]; rfl
theorem comp_ok {k : Nat} {idx : List Nat} {fi : FA} {set : FG} {ft : FT} {fe : FE} {τ : DS} {ds xs : List D} (h1 : fi τ = .ok ds) (h2 : compL set ft fe (tau0 k idx τ) ds = .ok xs) (h3 : xs.length ≤ 1000) : eComp k idx fi set ft fe τ = .ok xs := by
  unfold eComp
  rw [h1, Rs.bind_ok, h2]
  exact if_pos (by rw [sizeLine_v]; omega)
theorem tru_ok {fe : FE} {τ : DS} {b : Bool} (h : fe τ = .ok (.bl b)) : tTru fe τ = .ok b := by rw [tTru_ap, h]; rfl
theorem tB_ok {fe : FE} {τ : DS} {b : Bool} (h : fe τ = .ok (.bl b)) : FD.tB fe τ = .ok b := by rw [tB_ap, h]; rfl
theorem rng_ok {fa : FE} {τ : DS} {n : Nat} (h : fa τ = .ok (.int (n : Int))) (hn : n ≤ 1000) : iRg1 (aCons fa aNil) τ = .ok ((List.range n).map fun (k : Nat) => D.int (0 + k)) := by
  rw [rg1_ok (j := (n : Int)) (by rw [aCons_ap, h, Rs.bind_ok, aNil_ap, Rs.bind_ok]) (by omega) (by omega), Int.toNat_natCast]; rfl
theorem blt1 {g : List D → Rs D} {fa : FE} {τ : DS} {a d : D} (h1 : fa τ = .ok a) (h : g [a] = .ok d) : eBlt g (aCons fa aNil) τ = .ok d := by
  rw [eBlt_ap, aCons_ap, h1, Rs.bind_ok, aNil_ap, Rs.bind_ok, Rs.bind_ok, h]
theorem gen_names (fc : FA) (g : FT) (fx : FE) (A B C : D) (L : List D) (b : Bool) (d : D) (h1 : fc [some (.val A), some (.val B), some (.val C), none] = .ok L) (h2 : g [some (.val A), some (.val B), some (.val C), some (.own L)] = .ok b)
    (h3 : b = true → fx [some (.val A), some (.val B), some (.val C), some (.own L)] = .ok d ∧ 0 < L.length) :
    runF 4 (sSeq (sSetO 3 fc) (sSeq (sIf g (sPut 3 (eC (.int 0)) fx) sNext) (sRetO 3))) [A, B, C] = .ok (.lst (if b = true then L.set 0 d else L)) := by
  have st : startD 4 [A, B, C] = [some (.val A), some (.val B), some (.val C), none] := rfl
  rw [runF_ap, st]
  cases b with
  | false => simp only [sSeq_ap, sSetO_ap, sIf_ap, sRetO_ap, ownAt_ap, sNext_ap, sPut_ap, eC_ap, List.getElem?_cons_zero, List.getElem?_cons_succ, List.set_cons_succ, List.set_cons_zero, getO_own, Fl.of_ok, thn_nx, flRes_rt, Bool.false_eq_true, if_false, h1, h2, sSetO_ap, sRetO_ap, ownAt_ap, getO_own, Bool.false_eq_true, if_false]
  | true =>
    obtain ⟨h3, h4⟩ := h3 rfl
    have hp := putAt_ok (n := 3) (τ := [some (.val A), some (.val B), some (.val C), some (.own L)]) (d := d) (j := 0) h4
    have e0 : (((0 : Nat) : Int)) = 0 := rfl
    rw [e0] at hp
    simp only [sSeq_ap, sSetO_ap, sIf_ap, sRetO_ap, ownAt_ap, sNext_ap, sPut_ap, eC_ap, List.getElem?_cons_zero, List.getElem?_cons_succ, List.set_cons_succ, List.set_cons_zero, getO_own, Fl.of_ok, thn_nx, flRes_rt, if_true, h1, h2, h3, sSetO_ap, sRetO_ap, ownAt_ap, getO_own, sPut_ap, hp]
theorem namesb : b__law_names = (sSeq (sSetO 3 (eComp 1 [0, 1] (iRg1 (aCons (eCall m__law_drawn (aCons (eVar 0) (aCons (eVar 1) (aCons (eOp addD (eVar 2) (eC (.int 1))) aNil)))) aNil)) (gNm 0) (fun _ => .ok true) (eCall m__law_name (aCons (eVar 1) (aCons (eOp addD (eOp addD (eVar 2) (eC (.int 1))) (eOp mulD (eC (.int 12)) (eVar 0))) aNil)))))
      (sSeq (sIf (tAndD (FD.tB (eOp gtD (eLenO 3) (eC (.int 1)))) (FD.tB (eOp eqD (eCall m__law_drawn (aCons (eVar 0) (aCons (eOp addD (eVar 1) (eC (.int 12))) (aCons (eC (.int 5)) aNil)))) (eC (.int 0))))) (sPut 3 (eC (.int 0)) (eIxO 3 (eNeg (eC (.int 1))))) sNext)
      (sRetO 3))) := by unfold b__law_names; rfl
def NmOk (x : List Nat) : Prop := 0 < x.length ∧ x.length ≤ 10 ∧ ∀ c ∈ x, c ∈ NS
theorem nameL_ok (ns : List Int) (a : Int) (h0 : 0 ≤ a) : NmOk (nameL ns a (nameN ns a)) := by
  have d := draw_lt ns a (m := 10) (by decide)
  have hl : (nameL ns a (nameN ns a)).length = (1 + drawZ ns a 10).toNat := by simp [nameL, nameN]
  refine ⟨by rw [hl]; omega, by rw [hl]; omega, fun c hc => ?_⟩
  obtain ⟨k, _, rfl⟩ := List.mem_map.mp hc
  exact name_sign ns a k (by omega)
theorem and_b {f g : FT} {τ : DS} {b c : Bool} (h1 : f τ = .ok b) (h2 : b = true → g τ = .ok c) : tAndD f g τ = .ok (b && c) := by
  rw [tAnd_ap, h1, Rs.bind_ok]
  cases b with
  | false => rfl
  | true => rw [if_pos rfl, h2 rfl]; rfl
theorem names_ok (ns : List Int) (a most : Int) (h63 : ns.length ≤ 63) (h0 : 0 ≤ a) (ha : a < 800000) (hm0 : 0 ≤ most) (hm1 : most < 50) :
    ∃ X : List (List Nat), m__law_names [.scr ns, .int a, .int most] = .ok (.lst (X.map tx)) ∧ (X.length : Int) ≤ most ∧ ∀ x ∈ X, NmOk x := by
  have dl := draw_lt ns a (m := most + 1) (by omega)
  have dk := draw_ok ns a (most + 1) h63 h0 (by omega) (by omega)
  have dk2 := draw_ok ns (a + 12) 5 h63 (by omega) (by omega) (by decide)
  generalize hN : drawZ ns a (most + 1) = N at *
  generalize drawZ ns (a + 12) 5 = M at *
  have cf := comp_map (set := gNm 0) (fe := (eCall m__law_name (aCons (eVar 1) (aCons (eOp addD (eOp addD (eVar 2) (eC (.int 1))) (eOp mulD (eC (.int 12)) (eVar 0))) aNil)))) (τ := [none, some (.val (.scr ns)), some (.val (.int a))]) (fun (k : Nat) => D.int (0 + k)) tx
    (fun k => nameL ns (a + 1 + 12 * (k : Int)) (nameN ns (a + 1 + 12 * (k : Int)))) (List.range N.toNat) fun k hk => by
      have hk := List.mem_range.mp hk
      refine ⟨[some (.val (.int (k : Int))), some (.val (.scr ns)), some (.val (.int a))], by rw [Int.zero_add]; rfl, ?_⟩
      exact call2 (var_ok rfl) (op2 (op2 (var_ok rfl) rfl addD_i) (op2 rfl (var_ok rfl) (mulD_i (by omega))) addD_i) (name_ok ns _ h63 (by omega) (by omega))
  have it : iRg1 (aCons (eCall m__law_drawn (aCons (eVar 0) (aCons (eVar 1) (aCons (eOp addD (eVar 2) (eC (.int 1))) aNil)))) aNil) [some (.val (.scr ns)), some (.val (.int a)), some (.val (.int most)), none] = .ok ((List.range N.toNat).map fun (k : Nat) => D.int (0 + k)) :=
    rng_ok (n := N.toNat) (by rw [Int.toNat_of_nonneg dl.1]; exact call3 (var_ok rfl) (var_ok rfl) (op2 (var_ok rfl) rfl addD_i) dk) (by omega)
  have ec := comp_ok (k := 1) (idx := [0, 1]) it cf (by simp; omega)
  generalize hX0 : (List.range N.toNat).map (fun (k : Nat) => nameL ns (a + 1 + 12 * (k : Int)) (nameN ns (a + 1 + 12 * (k : Int)))) = X0 at ec cf
  have l0 : X0.length = N.toNat := by rw [← hX0]; simp
  have ok0 : ∀ x ∈ X0, NmOk x := fun x hx => by
    rw [← hX0] at hx
    obtain ⟨k, _, rfl⟩ := List.mem_map.mp hx
    exact nameL_ok ns _ (by omega)
  have hg : tAndD (FD.tB (eOp gtD (eLenO 3) (eC (.int 1)))) (FD.tB (eOp eqD (eCall m__law_drawn (aCons (eVar 0) (aCons (eOp addD (eVar 1) (eC (.int 12))) (aCons (eC (.int 5)) aNil)))) (eC (.int 0)))) [some (.val (.scr ns)), some (.val (.int a)), some (.val (.int most)), some (.own (X0.map tx))] = .ok (decide (1 < (X0.length : Int)) && (M == 0)) :=
    and_b (tB_ok (op2 (a := .int (X0.length : Int)) (by rw [eLenO_ap]; show Rs.ok (D.int ((X0.map tx).length : Int)) = _; rw [List.length_map]) rfl gtD_i)) fun _ => tB_ok (op2 (call3 (var_ok rfl) (op2 (var_ok rfl) rfl addD_i) rfl dk2) rfl eqD_i)
  have hne : (decide (1 < (X0.length : Int)) && (M == 0)) = true → 0 < X0.length := fun h => by
    rw [Bool.and_eq_true, decide_eq_true_eq] at h; omega
  have e := gen_names _ _ (eIxO 3 (eNeg (eC (.int 1)))) (.scr ns) (.int a) (.int most) (X0.map tx) _ (tx (X0.getD (X0.length - 1) [])) ec hg fun h => by
    have hp := hne h
    refine ⟨?_, by rw [List.length_map]; exact hp⟩
    rw [eIxO_ap]
    show (Rs.ok (X0.map tx)).bind (fun ds => (eNeg (eC (.int 1)) _).bind (ixO ds)) = _
    rw [Rs.bind_ok, eNeg_ap, eC_ap, Rs.bind_ok]
    show (Rs.ok (D.int (-1))).bind _ = _
    rw [Rs.bind_ok]
    unfold ixO
    have : atI (X0.map tx) (-1) = some (tx (X0.getD (X0.length - 1) [])) := by
      have e : ixN (X0.map tx).length (-1) = some (X0.length - 1) := by
        unfold ixN
        rw [List.length_map, if_neg (by omega), if_pos (by omega)]
        congr 1; omega
      unfold atI
      rw [e]
      show (X0.map tx)[X0.length - 1]? = _
      rw [List.getElem?_map, List.getElem?_eq_getElem (by omega)]
      simp [show X0.length - 1 < X0.length by omega]
    simp only [this]
  unfold m__law_names
  rw [namesb, e]
  cases hb : (decide (1 < (X0.length : Int)) && (M == 0)) with
  | false => exact ⟨X0, by rw [if_neg (by simp)], by omega, ok0⟩
  | true =>
    have hp := hne hb
    refine ⟨X0.set 0 (X0.getD (X0.length - 1) []), by rw [if_pos rfl, List.map_set], by rw [List.length_set]; omega, fun x hx => ?_⟩
    rcases List.mem_or_eq_of_mem_set hx with h | h
    · exact ok0 x h
    · rw [h]
      have : X0.getD (X0.length - 1) [] = X0[X0.length - 1]'(by omega) := by simp [show X0.length - 1 < X0.length by omega]
      rw [this]
      exact ok0 _ (List.getElem_mem _)
theorem rg2_ok {fa fb : FE} {τ : DS} {i n : Nat} (h1 : fa τ = .ok (.int (i : Int))) (h2 : fb τ = .ok (.int (n : Int))) (hi : i ≤ 100000) (hn : n ≤ 100000) : iRg2 (aCons fa (aCons fb aNil)) τ = .ok ((List.range (n - i)).map fun (k : Nat) => D.int ((i : Int) + k)) := by
  unfold iRg2
  rw [aCons_ap, h1, Rs.bind_ok, aCons_ap, h2, Rs.bind_ok, aNil_ap, Rs.bind_ok, Rs.bind_ok, Rs.bind_ok]
  simp only [int2]
  rw [if_pos ⟨⟨by omega, by omega⟩, by omega, by omega⟩]
  unfold rngD
  have : ((n : Int) - (i : Int)).toNat = n - i := by omega
  rw [this]
end Law
set_option Elab.async false
set_option linter.all false
set_option maxHeartbeats 1000000
namespace Law
open PySem PySem.Spec PyProof.Rows L2 FD
abbrev LD := List (List Nat × Nat)
def look (E : LD) (k : List Nat) : Option Nat := (E.find? fun p => decide (p.1 = k)).map (·.2)
theorem look_nil (k : List Nat) : look [] k = none := rfl
theorem look_cons (p : List Nat × Nat) (E : LD) (k : List Nat) : look (p :: E) k = if p.1 = k then some p.2 else look E k := by
  unfold look
  rw [List.find?_cons]
  by_cases h : p.1 = k <;> simp [h]
theorem look_app (A B : LD) (k : List Nat) : look (A ++ B) k = (look A k).or (look B k) := by
  induction A with
  | nil => rfl
  | cons p A ih =>
    rw [List.cons_append, look_cons, look_cons, ih]
    split <;> rfl
theorem look_none {E : LD} {k : List Nat} : look E k = none ↔ k ∉ E.map (·.1) := by
  induction E with
  | nil => simp [look]
  | cons p E ih =>
    rw [look_cons, List.map_cons, List.mem_cons, not_or]
    by_cases h : p.1 = k
    · rw [if_pos h]; exact ⟨fun z => (by cases z), fun z => absurd h.symm z.1⟩
    · rw [if_neg h, ih]; exact ⟨fun z => ⟨fun y => h y.symm, z⟩, fun z => z.2⟩
theorem look_key {E : LD} {k : List Nat} : (look E k).isSome = true ↔ k ∈ E.map (·.1) := by
  cases h : look E k with
  | none => have := look_none.mp h; simp [this]
  | some v =>
    refine ⟨fun _ => ?_, fun _ => rfl⟩
    refine Classical.byContradiction fun z => ?_
    rw [look_none.mpr z] at h; cases h
theorem look_mem {E : LD} (nd : (E.map (·.1)).Nodup) {k : List Nat} {v : Nat} (h : (k, v) ∈ E) : look E k = some v := by
  induction E with
  | nil => cases h
  | cons p E ih =>
    rw [List.map_cons, List.nodup_cons] at nd
    rw [look_cons]
    rcases List.mem_cons.mp h with h | h
    · rw [← h, if_pos rfl]
    · rw [if_neg fun z => nd.1 (by rw [z]; exact List.mem_map.mpr ⟨_, h, rfl⟩)]
      exact ih nd.2 h
def new1 (E : LD) (p : List Nat × Nat) : LD := match look E p.1 with
  | some _ => E
  | none => E ++ [p]
def news (E cs : LD) : LD := cs.foldl new1 E
theorem look_new1 (E : LD) (p : List Nat × Nat) (k : List Nat) : look (new1 E p) k = (look E k).or (look [p] k) := by
  unfold new1
  cases h : look E p.1 with
  | none => exact look_app E [p] k
  | some v =>
    show look E k = _
    rw [look_cons, look_nil]
    by_cases z : p.1 = k
    · rw [← z, h]; rfl
    · rw [if_neg z]; cases look E k <;> rfl
theorem look_news (cs : LD) : ∀ (E : LD) (k : List Nat), look (news E cs) k = (look E k).or (look cs k) := by
  induction cs with
  | nil => intro E k; show look E k = _; cases look E k <;> rfl
  | cons p cs ih =>
    intro E k
    show look (news (new1 E p) cs) k = _
    rw [ih, look_new1, look_cons, look_cons, look_nil]
    cases look E k with
    | some v => rfl
    | none =>
      by_cases z : p.1 = k
      · simp [z]
      · simp [z]
theorem nodup_new1 {E : LD} (p : List Nat × Nat) (nd : (E.map (·.1)).Nodup) : ((new1 E p).map (·.1)).Nodup := by
  unfold new1
  cases h : look E p.1 with
  | some v => exact nd
  | none =>
    show ((E ++ [p]).map (·.1)).Nodup
    rw [List.map_append, List.nodup_append]
    refine ⟨nd, by simp, fun a ha b hb => ?_⟩
    have hb : b = p.1 := by simpa using hb
    rw [hb]
    exact fun z => look_none.mp h (z ▸ ha)
theorem nodup_news (cs : LD) : ∀ {E : LD}, (E.map (·.1)).Nodup → ((news E cs).map (·.1)).Nodup := by
  induction cs with
  | nil => intro E h; exact h
  | cons p cs ih => intro E h; exact ih (nodup_new1 p h)
theorem len_new1 (E : LD) (p : List Nat × Nat) : (new1 E p).length ≤ E.length + 1 := by
  unfold new1
  split <;> simp
theorem len_news (cs : LD) : ∀ (E : LD), (news E cs).length ≤ E.length + cs.length := by
  induction cs with
  | nil => intro E; exact Nat.le_refl _
  | cons p cs ih =>
    intro E
    have h1 := ih (new1 E p)
    have h2 := len_new1 E p
    rw [List.length_cons]
    show (news (new1 E p) cs).length ≤ _
    omega
theorem look_flat {α : Type} (f : α → LD) (k : List Nat) : ∀ L : List α, look (L.flatMap f) k = L.findSome? fun a => look (f a) k := by
  intro L
  induction L with
  | nil => rfl
  | cons a L ih =>
    rw [List.flatMap_cons, look_app, ih, List.findSome?_cons]
    cases look (f a) k <;> rfl
def candP (q : List Nat) (ch : List (List Nat)) (p : Nat) : LD := (ch.getD p []).map fun c => (q ++ [c], p + 1)
def candE (ch : List (List Nat)) (qe : List Nat × Nat) : LD := (List.range' qe.2 (ch.length - qe.2)).flatMap (candP qe.1 ch)
def longF (E : LD) (ch : List (List Nat)) : LD := news [] (E.flatMap (candE ch))
def fpR : List (List Nat) → Nat → Nat → Option Nat
  | [], _, _ => none
  | s :: r, c, k => if c ∈ s then some (k + 1) else fpR r c (k + 1)
theorem look_candP (q r : List Nat) (ch : List (List Nat)) (p c : Nat) : look (candP q ch p) (r ++ [c]) = if q = r ∧ c ∈ ch.getD p [] then some (p + 1) else none := by
  unfold candP
  generalize ch.getD p [] = s
  induction s with
  | nil => simp [look]
  | cons a s ih =>
    rw [List.map_cons, look_cons, ih]
    by_cases h : q = r
    · subst h
      by_cases z : a = c
      · simp [z]
      · have z2 : ¬ c = a := fun y => z y.symm
        simp [z, z2]
    · simp [h]
theorem look_candP0 (q : List Nat) (ch : List (List Nat)) (p : Nat) : look (candP q ch p) [] = none := by
  unfold candP
  rw [look_none]
  simp
theorem look_candE (q r : List Nat) (ch : List (List Nat)) (c : Nat) : ∀ (m e : Nat), ch.length - e = m → look (candE ch (q, e)) (r ++ [c]) = if q = r then fpR (ch.drop e) c e else none := by
  intro m
  induction m with
  | zero =>
    intro e he
    unfold candE
    dsimp only
    rw [he, List.range'_zero, List.flatMap_nil, look_nil, List.drop_eq_nil_of_le (by omega)]
    simp [fpR]
  | succ m ih =>
    intro e he
    have hlt : e < ch.length := by omega
    have h := ih (e + 1) (by omega)
    unfold candE at h ⊢
    dsimp only at h ⊢
    have e2 : ch.length - (e + 1) = m := by omega
    rw [e2] at h
    rw [he, List.range'_succ, List.flatMap_cons, look_app, look_candP, h, List.drop_eq_getElem_cons hlt]
    have eg : ch.getD e [] = ch[e] := by simp [hlt]
    rw [eg]
    by_cases hq : q = r
    · rw [if_pos hq, if_pos hq]
      show _ = if c ∈ ch[e] then some (e + 1) else fpR (ch.drop (e + 1)) c (e + 1)
      by_cases hc : c ∈ ch[e]
      · rw [if_pos ⟨hq, hc⟩, if_pos hc]; rfl
      · rw [if_neg (fun z => hc z.2), if_neg hc]; rfl
    · rw [if_neg (fun z => hq z.1), if_neg hq, if_neg hq]; rfl
theorem look_candE0 (q : List Nat) (ch : List (List Nat)) (e : Nat) : look (candE ch (q, e)) [] = none := by
  unfold candE
  rw [look_flat, List.findSome?_eq_none_iff]
  exact fun p _ => look_candP0 q ch p
theorem look_long {E : LD} (nd : (E.map (·.1)).Nodup) (ch : List (List Nat)) (r : List Nat) (c : Nat) : look (longF E ch) (r ++ [c]) = (look E r).bind fun e => fpR (ch.drop e) c e := by
  unfold longF
  rw [look_news, look_nil, look_flat]
  show (E.findSome? fun a => look (candE ch a) (r ++ [c])) = _
  induction E with
  | nil => rfl
  | cons p E ih =>
    obtain ⟨q, e⟩ := p
    rw [List.map_cons, List.nodup_cons] at nd
    rw [List.findSome?_cons, look_candE q r ch c _ e rfl, look_cons, ih nd.2]
    dsimp only
    by_cases hq : q = r
    · rw [if_pos hq, if_pos hq]
      have : look E r = none := look_none.mpr (by rw [← hq]; exact nd.1)
      rw [this]
      show _ = fpR (ch.drop e) c e
      cases h : fpR (ch.drop e) c e <;> simp []
    · rw [if_neg hq, if_neg hq]
theorem look_long0 (E : LD) (ch : List (List Nat)) : look (longF E ch) [] = none := by
  unfold longF
  rw [look_news, look_nil, look_flat]
  show (E.findSome? fun a => look (candE ch a) []) = none
  rw [List.findSome?_eq_none_iff]
  exact fun p _ => look_candE0 p.1 ch p.2
def lvl (ch : List (List Nat)) : Nat → LD
  | 0 => [([], 0)]
  | L + 1 => longF (lvl ch L) ch
def grF (ch : List (List Nat)) : List Nat → Nat → Option Nat
  | [], e => some e
  | a :: q, e => (fpR (ch.drop e) a e).bind (grF ch q)
theorem grF_snoc (ch : List (List Nat)) (c : Nat) : ∀ (q : List Nat) (e : Nat), grF ch (q ++ [c]) e = (grF ch q e).bind fun e => fpR (ch.drop e) c e := by
  intro q
  induction q with
  | nil =>
    intro e
    show (fpR (ch.drop e) c e).bind (fun e => some e) = fpR (ch.drop e) c e
    cases fpR (ch.drop e) c e <;> rfl
  | cons a q ih =>
    intro e
    show (fpR (ch.drop e) a e).bind (grF ch (q ++ [c])) = ((fpR (ch.drop e) a e).bind (grF ch q)).bind _
    cases h : fpR (ch.drop e) a e with
    | none => rfl
    | some v => exact ih v
theorem lvl_nodup (ch : List (List Nat)) : ∀ L, ((lvl ch L).map (·.1)).Nodup := by
  intro L
  cases L with
  | zero => simp [lvl]
  | succ L => exact nodup_news _ (E := []) (by simp)
theorem lvl_look (ch : List (List Nat)) : ∀ (L : Nat) (q : List Nat), look (lvl ch L) q = if q.length = L then grF ch q 0 else none := by
  intro L
  induction L with
  | zero =>
    intro q
    show look [([], 0)] q = _
    rw [look_cons, look_nil]
    cases q with
    | nil => rfl
    | cons a q => simp
  | succ L ih =>
    intro q
    rcases List.eq_nil_or_concat q with h | ⟨r, c, h⟩
    · subst h
      show look (longF (lvl ch L) ch) [] = _
      rw [look_long0]; simp
    · rw [List.concat_eq_append] at h
      subst h
      show look (longF (lvl ch L) ch) (r ++ [c]) = _
      rw [look_long (lvl_nodup ch L), ih, grF_snoc, List.length_append, List.length_singleton]
      by_cases z : r.length = L
      · simp [z]
      · simp [z]
def subsM (f : Nat → List Nat) : List Nat → List Nat → Bool
  | [], _ => true
  | _ :: _, [] => false
  | a :: q, c :: x => if a ∈ f c then subsM f q x else subsM f (a :: q) x
theorem grF_subs (f : Nat → List Nat) (x : List Nat) : ∀ (q : List Nat) (e : Nat), (grF (x.map f) q e).isSome = subsM f q (x.drop e) := by
  intro q
  induction q with
  | nil => intro e; simp [grF, subsM]
  | cons a q ih =>
    have aux : ∀ (y : List Nat) (e : Nat), x.drop e = y → ((fpR (y.map f) a e).bind (grF (x.map f) q)).isSome = subsM f (a :: q) y := by
      intro y
      induction y with
      | nil => intro e _; simp [fpR, subsM]
      | cons c y ihy =>
        intro e he
        have hn : x.drop (e + 1) = y := by
          have : (x.drop e).drop 1 = y := by rw [he]; rfl
          rw [List.drop_drop] at this
          exact this
        rw [List.map_cons]
        unfold fpR subsM
        by_cases z : a ∈ f c
        · rw [if_pos z, if_pos z, Option.bind_some, ih, hn]
        · rw [if_neg z, if_neg z]
          exact ihy (e + 1) hn
    intro e
    show ((fpR ((x.map f).drop e) a e).bind (grF (x.map f) q)).isSome = _
    rw [← List.map_drop]
    exact aux _ e rfl
theorem lvl_mem (f : Nat → List Nat) (x : List Nat) (L : Nat) (q : List Nat) : q ∈ (lvl (x.map f) L).map (·.1) ↔ q.length = L ∧ subsM f q x = true := by
  rw [← look_key, lvl_look]
  by_cases h : q.length = L
  · rw [if_pos h, grF_subs, List.drop_zero]
    exact ⟨fun z => ⟨h, z⟩, fun z => z.2⟩
  · rw [if_neg h]
    exact ⟨fun z => (by cases z), fun z => absurd z.1 h⟩
theorem candP_len (q : List Nat) (ch : List (List Nat)) (p : Nat) (h : ∀ s ∈ ch, s.length ≤ 2) : (candP q ch p).length ≤ 2 := by
  unfold candP
  rw [List.length_map]
  by_cases z : p < ch.length
  · have : ch.getD p [] = ch[p] := by simp [z]
    rw [this]; exact h _ (List.getElem_mem z)
  · have : ch.getD p [] = [] := by simp [List.getD_eq_getElem?_getD, List.getElem?_eq_none (Nat.not_lt.mp z)]
    rw [this]; simp
theorem flat_len {α β : Type} (f : α → List β) (m : Nat) : ∀ L : List α, (∀ a ∈ L, (f a).length ≤ m) → (L.flatMap f).length ≤ L.length * m := by
  intro L
  induction L with
  | nil => intro _; simp
  | cons a L ih =>
    intro h
    have h1 := h a List.mem_cons_self
    have h2 := ih fun b hb => h b (List.mem_cons_of_mem _ hb)
    rw [List.flatMap_cons, List.length_append, List.length_cons, Nat.add_mul]
    omega
theorem candE_len (ch : List (List Nat)) (qe : List Nat × Nat) (h : ∀ s ∈ ch, s.length ≤ 2) (hl : ch.length ≤ 10) : (candE ch qe).length ≤ 20 := by
  unfold candE
  have := flat_len (candP qe.1 ch) 2 (List.range' qe.2 (ch.length - qe.2)) fun p _ => candP_len qe.1 ch p h
  rw [List.length_range'] at this
  omega
theorem lvl_len (ch : List (List Nat)) (h : ∀ s ∈ ch, s.length ≤ 2) (hl : ch.length ≤ 10) : ∀ L, (lvl ch L).length ≤ 20 ^ L := by
  intro L
  induction L with
  | zero => simp [lvl]
  | succ L ih =>
    show (news [] ((lvl ch L).flatMap (candE ch))).length ≤ _
    have h1 := len_news ((lvl ch L).flatMap (candE ch)) []
    have h2 := flat_len (candE ch) 20 (lvl ch L) fun p _ => candE_len ch p h hl
    rw [List.length_nil] at h1
    rw [Nat.pow_succ]
    have h3 := Nat.mul_le_mul_right 20 ih
    omega
def inc1 (F : LD) (k : List Nat) : LD := if F.any (fun p => decide (p.1 = k)) = true then F.map fun p => if p.1 = k then (p.1, (look F k).getD 0 + 1) else p else F ++ [(k, (look F k).getD 0 + 1)]
def incs (F : LD) (qs : List (List Nat)) : LD := qs.foldl inc1 F
theorem look_upd (F : LD) (k j : List Nat) (v : Nat) : look (F.map fun p => if p.1 = k then (p.1, v) else p) j = if j = k then (look F j).map (fun _ => v) else look F j := by
  induction F with
  | nil => simp [look]
  | cons p F ih =>
    rw [List.map_cons, look_cons, ih, look_cons]
    by_cases h : p.1 = k
    · rw [if_pos h]
      dsimp only
      by_cases hj : p.1 = j
      · have : j = k := by rw [← hj, h]
        simp [hj, this]
      · rw [if_neg hj, if_neg hj]
    · rw [if_neg h]
      by_cases hj : p.1 = j
      · have : ¬ j = k := fun z => h (by rw [hj, z])
        simp [hj, this]
      · rw [if_neg hj, if_neg hj]
theorem look_inc1 (F : LD) (k j : List Nat) : look (inc1 F k) j = if j = k then some ((look F k).getD 0 + 1) else look F j := by
  unfold inc1
  by_cases h : F.any (fun p => decide (p.1 = k)) = true
  · rw [if_pos h, look_upd]
    by_cases hj : j = k
    · subst hj
      rw [if_pos rfl, if_pos rfl]
      have : (look F j).isSome = true := look_key.mpr (by
        obtain ⟨p, hp, hq⟩ := List.any_eq_true.mp h
        exact List.mem_map.mpr ⟨p, hp, by simpa using hq⟩)
      obtain ⟨v, hv⟩ := Option.isSome_iff_exists.mp this
      rw [hv]; rfl
    · rw [if_neg hj, if_neg hj]
  · rw [if_neg h, look_app, look_cons, look_nil]
    have hn : look F k = none := look_none.mpr fun z => h (by
      obtain ⟨p, hp, hq⟩ := List.mem_map.mp z
      exact List.any_eq_true.mpr ⟨p, hp, by simpa using hq⟩)
    by_cases hj : j = k
    · subst hj; simp [hn]
    · have : ¬ k = j := fun z => hj z.symm
      simp [hj, this]
theorem look_incs (qs : List (List Nat)) : ∀ (F : LD) (k : List Nat), look (incs F qs) k = if qs.count k = 0 then look F k else some ((look F k).getD 0 + qs.count k) := by
  induction qs with
  | nil => intro F k; simp [incs]
  | cons q qs ih =>
    intro F k
    show look (incs (inc1 F q) qs) k = _
    rw [ih, look_inc1, List.count_cons]
    by_cases h : k = q
    · subst h
      simp only [if_true, beq_self_eq_true]
      by_cases z : qs.count k = 0
      · simp [z]
      · simp only [z, if_false]
        rw [if_neg (by omega)]
        simp; omega
    · have h2 : ¬ q = k := fun z => h z.symm
      simp [h, h2]
theorem len_inc1 (F : LD) (k : List Nat) : (inc1 F k).length ≤ F.length + 1 := by
  unfold inc1
  split <;> simp
theorem len_incs (qs : List (List Nat)) : ∀ (F : LD), (incs F qs).length ≤ F.length + qs.length := by
  induction qs with
  | nil => intro F; exact Nat.le_refl _
  | cons q qs ih =>
    intro F
    have h1 := ih (inc1 F q)
    have h2 := len_inc1 F q
    rw [List.length_cons]
    show (incs (inc1 F q) qs).length ≤ _
    omega
theorem count_flat (f : List Nat → List (List Nat)) (k : List Nat) (nd : ∀ x, (f x).Nodup) : ∀ X : List (List Nat), (X.flatMap f).count k = X.countP fun x => decide (k ∈ f x) := by
  intro X
  induction X with
  | nil => rfl
  | cons x X ih =>
    rw [List.flatMap_cons, List.count_append, ih, List.countP_cons]
    by_cases h : k ∈ f x
    · rw [(nd x).count, if_pos h]; simp [h]; omega
    · rw [List.count_eq_zero.mpr h]; simp [h]
end Law
set_option Elab.async false
set_option linter.all false
set_option maxHeartbeats 1000000
namespace Law
open PySem PySem.Spec PyProof.Rows L2 FD
abbrev mkS (x : List Nat) : Str := ⟨x.toArray⟩
theorem mkS_inj {x y : List Nat} : mkS x = mkS y ↔ x = y := by
  constructor
  · intro h
    have : x.toArray = y.toArray := by injection h
    simpa using congrArg Array.toList this
  · rintro rfl; rfl
def siOf (E : LD) : SI := E.map fun p => (mkS p.1, (p.2 : Int))
theorem si_len (E : LD) : (siOf E).length = E.length := by simp [siOf]
theorem getI_si (E : LD) (k : List Nat) : getI (siOf E) (mkS k) = (look E k).map fun (n : Nat) => (n : Int) := by
  unfold getI siOf
  induction E with
  | nil => rfl
  | cons p E ih =>
    rw [List.map_cons, List.find?_cons, look_cons]
    by_cases h : p.1 = k
    · simp [h]
    · have h2 : ¬ mkS p.1 = mkS k := fun z => h (mkS_inj.mp z)
      simp only [h2, decide_false, h, if_false]
      exact ih
theorem any_si (E : LD) (k : List Nat) : ((siOf E).any fun p => decide (p.1 = mkS k)) = E.any fun p => decide (p.1 = k) := by
  unfold siOf
  rw [List.any_map]
  congr 1
  funext p
  simp only [Function.comp]
  exact decide_eq_decide.mpr mkS_inj
theorem putI_new (E : LD) (k : List Nat) (v : Nat) (h : look E k = none) : putI (siOf E) (mkS k) (v : Int) = siOf (new1 E (k, v)) := by
  unfold putI new1
  have hn : ¬ (E.any fun p => decide (p.1 = k)) = true := fun z => by
    obtain ⟨p, hp, hq⟩ := List.any_eq_true.mp z
    exact look_none.mp h (List.mem_map.mpr ⟨p, hp, by simpa using hq⟩)
  rw [any_si, if_neg hn, h]
  show _ = siOf (E ++ [(k, v)])
  unfold siOf
  rw [List.map_append]; rfl
theorem putI_inc (E : LD) (k : List Nat) : putI (siOf E) (mkS k) ((getI (siOf E) (mkS k)).getD 0 + 1) = siOf (inc1 E k) := by
  have e : (getI (siOf E) (mkS k)).getD 0 + 1 = (((look E k).getD 0 + 1 : Nat) : Int) := by
    rw [getI_si]
    cases look E k <;> simp
  rw [e]
  unfold putI inc1
  rw [any_si]
  by_cases h : (E.any fun p => decide (p.1 = k)) = true
  · rw [if_pos h, if_pos h]
    unfold siOf
    rw [List.map_map, List.map_map]
    refine List.map_congr_left fun p _ => ?_
    simp only [Function.comp]
    by_cases z : p.1 = k
    · simp [z]
    · have z2 : ¬ mkS p.1 = mkS k := fun y => z (mkS_inj.mp y)
      simp [z, z2]
  · rw [if_neg h, if_neg h]
    unfold siOf
    rw [List.map_append]; rfl
theorem getK_si (E : LD) (k : List Nat) : getK ((siOf E).map fun p => Sum.inr p.1) ((siOf E).map fun p => D.int p.2) (Sum.inr (mkS k)) = (look E k).map fun (n : Nat) => D.int n := by
  unfold siOf
  induction E with
  | nil => rfl
  | cons p E ih =>
    simp only [List.map_cons]
    unfold getK
    rw [ih, look_cons]
    by_cases h : p.1 = k
    · simp [h]
    · have h2 : ¬ (Sum.inr (mkS p.1) : Key) = Sum.inr (mkS k) := fun z => h (mkS_inj.mp (by injection z))
      rw [if_neg h2, if_neg h]
theorem dct_keys (E : LD) : ((siOf E).map fun p => (Sum.inr p.1 : Key)).map dOfK = (E.map (·.1)).map tx := by
  unfold siOf
  rw [List.map_map, List.map_map, List.map_map]; rfl
theorem iDct_ok {fe : FE} {τ : DS} {E : LD} (h : fe τ = .ok (dctI (siOf E))) : iDct fe τ = .ok ((E.map (·.1)).map tx) := by
  unfold iDct
  rw [h, Rs.bind_ok]
  show Rs.ok _ = _
  rw [dct_keys]
theorem eDIx_ok {fo fe : FE} {τ : DS} {E : LD} {k : List Nat} {v : Nat} (h : fo τ = .ok (dctI (siOf E))) (h2 : fe τ = .ok (tx k)) (hl : look E k = some v) : eDIx fo fe τ = .ok (.int v) := by
  unfold eDIx
  rw [h, Rs.bind_ok]
  show ((fe τ).bind fun k => match keyOf k with
    | some k => (match getK ((siOf E).map fun p => Sum.inr p.1) ((siOf E).map fun p => D.int p.2) k with
      | some v => .ok v
      | none => .no)
    | none => .no) = _
  rw [h2, Rs.bind_ok]
  show (match getK ((siOf E).map fun p => Sum.inr p.1) ((siOf E).map fun p => D.int p.2) (Sum.inr (mkS k)) with
      | some v => Rs.ok v
      | none => .no) = _
  rw [getK_si, hl]; rfl
structure Act {γ : Type} (op : LD → List γ → LD) : Prop where
  nil : ∀ E, op E [] = E
  app : ∀ E a b, op E (a ++ b) = op (op E a) b
  len : ∀ E a, (op E a).length ≤ E.length + a.length
theorem act_news : Act news := ⟨fun _ => rfl, fun E a b => by unfold news; rw [List.foldl_append], fun E a => len_news a E⟩
theorem act_incs : Act incs := ⟨fun _ => rfl, fun E a b => by unfold incs; rw [List.foldl_append], fun E a => len_incs a E⟩
theorem hl_act {α γ : Type} {op : LD → List γ → LD} (A : Act op) {f : FG3} {r : Nat} (g : α → D) (cand : α → List γ) (Sh : DS → Prop) : ∀ (xs : List α), (∀ a ∈ xs, ∀ τ acc, Sh τ → acc.length + (cand a).length ≤ 1000000 → ∃ τ', Sh τ' ∧ f (τ.set r (some (.val (g a)))) (siOf acc) = some (τ', siOf (op acc (cand a)))) →
    ∀ τ acc, Sh τ → acc.length + (xs.flatMap cand).length ≤ 1000000 → ∃ τ', Sh τ' ∧ hloop f r (xs.map g) τ (siOf acc) = some (τ', siOf (op acc (xs.flatMap cand))) := by
  intro xs
  induction xs with
  | nil => intro _ τ acc h _; exact ⟨τ, h, by rw [List.flatMap_nil, A.nil]; rfl⟩
  | cons a xs ih =>
    intro hs τ acc h hl
    rw [List.flatMap_cons, List.length_append] at hl
    obtain ⟨τ1, h1, h2⟩ := hs a List.mem_cons_self τ acc h (by omega)
    have hl2 := A.len acc (cand a)
    obtain ⟨τ2, h3, h4⟩ := ih (fun b hb => hs b (List.mem_cons_of_mem _ hb)) τ1 (op acc (cand a)) h1 (by omega)
    refine ⟨τ2, h3, ?_⟩
    rw [List.map_cons]
    unfold hloop
    rw [h2, Option.bind_some, h4, List.flatMap_cons, A.app]
theorem hFor_ok {fi : FA} {r : Nat} {f : FG3} {τ : DS} {ks : SI} {ds : List D} (h : fi τ = .ok ds) : hFor fi r f τ ks = hloop f r ds τ ks := by unfold hFor; rw [h]
theorem hNew_ok {fk fv : FE} {τ : DS} {acc : LD} {k : List Nat} {v : Nat} (h1 : fk τ = .ok (tx k)) (h2 : fv τ = .ok (.int v)) (hl : acc.length ≤ 1000000) : hNew fk fv τ (siOf acc) = some (τ, siOf (news acc [(k, v)])) := by
  unfold hNew
  rw [h1]
  show (match getI (siOf acc) (mkS k) with
    | some _ => some (τ, siOf acc)
    | none => (match fv τ with
      | .ok (.int v) => if (siOf acc).length ≤ 1000000 then some (τ, putI (siOf acc) (mkS k) v) else none
      | _ => none)) = some (τ, siOf (new1 acc (k, v)))
  rw [getI_si]
  cases z : look acc k with
  | some w =>
    show some (τ, siOf acc) = _
    unfold new1
    rw [z]
  | none =>
    show (match fv τ with
      | .ok (.int v) => if (siOf acc).length ≤ 1000000 then some (τ, putI (siOf acc) (mkS k) v) else none
      | _ => none) = _
    rw [h2]
    show (if (siOf acc).length ≤ 1000000 then some (τ, putI (siOf acc) (mkS k) v) else none) = _
    rw [if_pos (by rw [si_len]; exact hl), putI_new _ _ _ z]
theorem hInc_ok {fk : FE} {τ : DS} {acc : LD} {k : List Nat} (h1 : fk τ = .ok (tx k)) (hl : acc.length ≤ 1000000) : hInc fk τ (siOf acc) = some (τ, siOf (incs acc [k])) := by
  unfold hInc
  rw [h1]
  show (if (siOf acc).length ≤ 1000000 then some (τ, putI (siOf acc) (mkS k) ((getI (siOf acc) (mkS k)).getD 0 + 1)) else none) = _
  rw [if_pos (by rw [si_len]; exact hl), putI_inc]; rfl
def chD (ch : List (List Nat)) : D := .lst (ch.map fun s => .lst (s.map signD))
theorem ch_ix (ch : List (List Nat)) (p : Nat) (h : p < ch.length) : ixD (chD ch) (.int (p : Int)) = .ok (.lst ((ch.getD p []).map signD)) := by
  refine ixD_lst (atI_of (by omega) ?_)
  rw [Int.toNat_natCast, List.getElem?_map, List.getElem?_eq_getElem h]
  simp [h]
theorem tx_snoc (q : List Nat) (c : Nat) (h : q.length ≤ 1000) : addD (tx q) (signD c) = .ok (tx (q ++ [c])) := by
  show addD (.str ⟨q.toArray⟩) (.str ⟨#[c]⟩) = _
  rw [addD_s (by rw [sizeLine_v]; show q.toArray.size + 1 ≤ _; simp; omega), str_app]
theorem longer_ok (ch : List (List Nat)) (L : Nat) (h2 : ∀ s ∈ ch, s.length ≤ 2) (hl : ch.length ≤ 10) (hL : L ≤ 3) : m_longer_queries [dctI (siOf (lvl ch L)), chD ch] = .ok (dctI (siOf (lvl ch (L + 1)))) := by
  have st : startD 6 [dctI (siOf (lvl ch L)), chD ch] = [some (.val (dctI (siOf (lvl ch L)))), some (.val (chD ch)), none, none, none, none] := rfl
  have hE := lvl_len ch h2 hl L
  have hE2 : (lvl ch L).length ≤ 8000 := Nat.le_trans hE (Nat.le_trans (Nat.pow_le_pow_right (by decide) hL) (by decide))
  have hcand : ((lvl ch L).flatMap (candE ch)).length ≤ 160000 := by
    have := flat_len (candE ch) 20 (lvl ch L) fun p _ => candE_len ch p h2 hl
    omega
  have lenq : ∀ p ∈ lvl ch L, p.1.length = L := fun p hp => by
    have := look_mem (lvl_nodup ch L) (k := p.1) (v := p.2) hp
    rw [lvl_look] at this
    by_cases z : p.1.length = L
    · exact z
    · rw [if_neg z] at this; cases this
  unfold m_longer_queries b_longer_queries
  rw [runF_ap, st]
  generalize hE0 : lvl ch L = E at *
  have i3 : ∀ (q : List Nat) (p : Nat) (τ : DS) (acc : LD) (s5 : Option Sl), q.length ≤ 100 → p < ch.length → acc.length + (candP q ch p).length ≤ 1000000 → ∃ s', hFor (iAny (eOp ixD (eVar 1) (eVar 4))) 5 (hNew (eOp addD (eVar 3) (eVar 5)) (eOp addD (eVar 4) (eC (.int 1)))) [some (.val (dctI (siOf E))), some (.val (chD ch)), none, some (.val (tx q)), some (.val (.int (p : Int))), s5] (siOf acc) = some ([some (.val (dctI (siOf E))), some (.val (chD ch)), none, some (.val (tx q)), some (.val (.int (p : Int))), s'], siOf (news acc (candP q ch p))) := fun q p τ acc s5 hq hp ha => by
    have it : iAny (eOp ixD (eVar 1) (eVar 4)) [some (.val (dctI (siOf E))), some (.val (chD ch)), none, some (.val (tx q)), some (.val (.int (p : Int))), s5] = .ok ((ch.getD p []).map signD) := by
      rw [iAny_ap, op2 (var_ok rfl) (var_ok rfl) (ch_ix ch p hp)]; rfl
    rw [hFor_ok it]
    have e : candP q ch p = (ch.getD p []).flatMap fun c => [(q ++ [c], p + 1)] := by
      unfold candP
      rw [List.flatMap_def]
      induction ch.getD p [] with
      | nil => rfl
      | cons a s ih => simpa using ih
    rw [e] at ha ⊢
    obtain ⟨τ', ⟨s', hs⟩, h⟩ := hl_act act_news (f := hNew (eOp addD (eVar 3) (eVar 5)) (eOp addD (eVar 4) (eC (.int 1)))) (r := 5) signD (fun c => [(q ++ [c], p + 1)]) (fun τ => ∃ s', τ = [some (.val (dctI (siOf E))), some (.val (chD ch)), none, some (.val (tx q)), some (.val (.int (p : Int))), s']) (ch.getD p []) (fun c _ τ acc hs ha => by
      obtain ⟨s', rfl⟩ := hs
      refine ⟨_, ⟨_, rfl⟩, hNew_ok (k := q ++ [c]) (v := p + 1) ?_ ?_ (by simp at ha; omega)⟩
      · exact op2 (var_ok rfl) (var_ok rfl) (tx_snoc q c (by omega))
      · refine op2 (var_ok rfl) rfl ?_
        rw [addD_i]; push_cast; rfl) _ acc ⟨s5, rfl⟩ ha
    subst hs
    exact ⟨s', h⟩
  have i2 : ∀ (qe : List Nat × Nat) (acc : LD) (s4 s5 : Option Sl), qe ∈ E → acc.length + (candE ch qe).length ≤ 1000000 → ∃ s4' s5', hFor (iRg2 (aCons (eDIx (eVar 0) (eVar 3)) (aCons (eBlt lenD (aCons (eVar 1) aNil)) aNil))) 4 (hFor (iAny (eOp ixD (eVar 1) (eVar 4))) 5 (hNew (eOp addD (eVar 3) (eVar 5)) (eOp addD (eVar 4) (eC (.int 1))))) [some (.val (dctI (siOf E))), some (.val (chD ch)), none, some (.val (tx qe.1)), s4, s5] (siOf acc) = some ([some (.val (dctI (siOf E))), some (.val (chD ch)), none, some (.val (tx qe.1)), s4', s5'], siOf (news acc (candE ch qe))) := fun qe acc s4 s5 hq ha => by
    have lk : look E qe.1 = some qe.2 := look_mem (by rw [← hE0]; exact lvl_nodup ch L) hq
    have hqL := lenq qe hq
    have hle : qe.2 ≤ 100000 := by
      have g := lvl_look ch L qe.1
      rw [hE0, lk, if_pos hqL] at g
      have aux : ∀ (y : List (List Nat)) (c k v : Nat), fpR y c k = some v → v ≤ k + y.length := fun y => by
        induction y with
        | nil => intro c k v h; cases h
        | cons s y ih =>
          intro c k v h
          unfold fpR at h
          split at h
          · cases h; simp only [List.length_cons]; omega
          · have := ih c (k + 1) v h; simp only [List.length_cons]; omega
      have aux2 : ∀ (q : List Nat) (e v : Nat), grF ch q e = some v → v ≤ max e ch.length := fun q => by
        induction q with
        | nil => intro e v h; cases h; exact Nat.le_max_left _ _
        | cons a q ih =>
          intro e v h
          have h : (fpR (ch.drop e) a e).bind (grF ch q) = some v := h
          cases z : fpR (ch.drop e) a e with
          | none => rw [z] at h; cases h
          | some w =>
            rw [z] at h
            have h1 := ih w v h
            have h2 := aux _ _ _ _ z
            rw [List.length_drop] at h2
            omega
      have := aux2 qe.1 0 qe.2 g.symm
      omega
    have it : iRg2 (aCons (eDIx (eVar 0) (eVar 3)) (aCons (eBlt lenD (aCons (eVar 1) aNil)) aNil)) [some (.val (dctI (siOf E))), some (.val (chD ch)), none, some (.val (tx qe.1)), s4, s5] = .ok ((List.range (ch.length - qe.2)).map fun (k : Nat) => D.int ((qe.2 : Int) + k)) := by
      refine rg2_ok (eDIx_ok (var_ok rfl) (var_ok rfl) lk) (blt1 (var_ok rfl) ?_) hle (by omega)
      show lenD [.lst _] = _
      rw [lenD_lst, List.length_map]
    rw [hFor_ok it]
    have e : candE ch qe = (List.range (ch.length - qe.2)).flatMap fun k => candP qe.1 ch (qe.2 + k) := by
      unfold candE
      rw [List.range'_eq_map_range, List.flatMap_map]
    rw [e] at ha ⊢
    obtain ⟨τ', ⟨s4', s5', hs⟩, h⟩ := hl_act act_news (f := hFor (iAny (eOp ixD (eVar 1) (eVar 4))) 5 (hNew (eOp addD (eVar 3) (eVar 5)) (eOp addD (eVar 4) (eC (.int 1))))) (r := 4) (fun (k : Nat) => D.int ((qe.2 : Int) + k)) (fun k => candP qe.1 ch (qe.2 + k)) (fun τ => ∃ s4 s5, τ = [some (.val (dctI (siOf E))), some (.val (chD ch)), none, some (.val (tx qe.1)), s4, s5]) (List.range (ch.length - qe.2)) (fun k hk τ acc hs ha => by
      obtain ⟨s4, s5, rfl⟩ := hs
      have hk := List.mem_range.mp hk
      obtain ⟨s', h⟩ := i3 qe.1 (qe.2 + k) [] acc s5 (by omega) (by omega) ha
      have ei : ((qe.2 : Int) + (k : Int)) = ((qe.2 + k : Nat) : Int) := by push_cast; rfl
      exact ⟨_, ⟨some (.val (.int ((qe.2 + k : Nat) : Int))), s', rfl⟩, by rw [ei]; exact h⟩) _ acc ⟨s4, s5, rfl⟩ ha
    subst hs
    exact ⟨s4', s5', h⟩
  have it : iDct (eVar 0) [some (.val (dctI (siOf E))), some (.val (chD ch)), none, none, none, none] = .ok (E.map fun p => tx p.1) := by
    rw [iDct_ok (E := E) (var_ok rfl), List.map_map]; rfl
  obtain ⟨τ', _, h⟩ := hl_act act_news (f := hFor (iRg2 (aCons (eDIx (eVar 0) (eVar 3)) (aCons (eBlt lenD (aCons (eVar 1) aNil)) aNil))) 4 (hFor (iAny (eOp ixD (eVar 1) (eVar 4))) 5 (hNew (eOp addD (eVar 3) (eVar 5)) (eOp addD (eVar 4) (eC (.int 1)))))) (r := 3) (fun (p : List Nat × Nat) => tx p.1) (candE ch) (fun τ => ∃ s3 s4 s5, τ = [some (.val (dctI (siOf E))), some (.val (chD ch)), none, s3, s4, s5]) E (fun qe hq τ acc hs ha => by
    obtain ⟨s3, s4, s5, rfl⟩ := hs
    obtain ⟨s4', s5', h⟩ := i2 qe acc s4 s5 hq ha
    exact ⟨_, ⟨some (.val (tx qe.1)), s4', s5', rfl⟩, h⟩) [some (.val (dctI (siOf E))), some (.val (chD ch)), none, none, none, none] [] ⟨none, none, none, rfl⟩ (by simp only [List.length_nil]; omega)
  unfold sMkD
  rw [if_pos ⟨rfl, by show 2 < 6; decide⟩]
  have h' : hFor (iDct (eVar 0)) 3 (hFor (iRg2 (aCons (eDIx (eVar 0) (eVar 3)) (aCons (eBlt lenD (aCons (eVar 1) aNil)) aNil))) 4 (hFor (iAny (eOp ixD (eVar 1) (eVar 4))) 5 (hNew (eOp addD (eVar 3) (eVar 5)) (eOp addD (eVar 4) (eC (.int 1)))))) ([some (.val (dctI (siOf E))), some (.val (chD ch)), none, none, none, none].set 2 none) [] = some (τ', siOf (news [] (E.flatMap (candE ch)))) := by
    show hFor _ _ _ [some (.val (dctI (siOf E))), some (.val (chD ch)), none, none, none, none] (siOf []) = _
    rw [hFor_ok it]
    exact h
  rw [h']
  show Rs.ok (dctI (siOf (news [] (E.flatMap (candE ch))))) = Rs.ok (dctI (siOf (longF (lvl ch L) ch)))
  rw [hE0]; rfl
end Law
set_option Elab.async false
set_option linter.all false
set_option maxHeartbeats 1000000
namespace Law
open PySem PySem.Spec PyProof.Rows L2 FD
theorem listK_ok (E : LD) : listKD [dctI (siOf E)] = .ok (.lst ((E.map (·.1)).map tx)) := by
  show Rs.ok (D.lst (((siOf E).map fun p => (Sum.inr p.1 : Key)).map dOfK)) = _
  rw [dct_keys]
def keysL (ch : List (List Nat)) (L : Nat) : List (List Nat) := (lvl ch L).map (·.1)
theorem all_ok (ch : List (List Nat)) (L : Nat) (h2 : ∀ s ∈ ch, s.length ≤ 2) (hl : ch.length ≤ 10) (hL : L ≤ 4) : m_all_queries [chD ch, .int (L : Int)] = .ok (.lst ((keysL ch L).map tx)) := by
  have st : startD 4 [chD ch, .int (L : Int)] = [some (.val (chD ch)), some (.val (.int (L : Int))), none, none] := rfl
  unfold m_all_queries b_all_queries
  rw [runF_ap, st]
  let S : Nat → DS := fun k => [some (.val (chD ch)), some (.val (.int (L : Int))), some (.val (dctI (siOf (lvl ch k)))), if k = 0 then none else some (.val (.int ((k : Int) - 1)))]
  have s0 : S 0 = [some (.val (chD ch)), some (.val (.int (L : Int))), some (.val (dctI [("", 0)])), none] := rfl
  have lp := loop_range (set := gNm 3) (body := sSet 2 (eCall m_longer_queries (aCons (eVar 2) (aCons (eVar 0) aNil)))) (fun (k : Nat) => D.int (0 + k)) S L fun k hk => by
    refine ⟨_, gNm_ap, ?_⟩
    have hg := longer_ok ch k h2 hl (by omega)
    show sSet 2 (eCall m_longer_queries (aCons (eVar 2) (aCons (eVar 0) aNil))) [some (.val (chD ch)), some (.val (.int (L : Int))), some (.val (dctI (siOf (lvl ch k)))), some (.val (.int (0 + (k : Int))))] = _
    rw [sSet_ap, call2 (var_ok rfl) (var_ok rfl) hg, Fl.of_ok]
    simp [S]
  rw [sSeq_ap, sSet_ap, Fl.of_ok, thn_nx, sSeq_ap, sFor_ap]
  have it : iRg1 (aCons (eVar 1) aNil) [some (.val (chD ch)), some (.val (.int (L : Int))), some (.val (dctI [("", 0)])), none] = .ok ((List.range L).map fun (k : Nat) => D.int (0 + k)) := rng_ok (var_ok rfl) (by omega)
  simp only [List.set_cons_succ, List.set_cons_zero]
  rw [it, Fl.of_ok, ← s0, lp, thn_nx, sRet_ap, blt1 (var_ok rfl) (listK_ok (lvl ch L)), Fl.of_ok, flRes_rt]
  rfl
def isQS (c : Nat) : Bool := decide (97 ≤ c ∧ c ≤ 122) || decide (65 ≤ c ∧ c ≤ 90) || decide (48 ≤ c ∧ c ≤ 57)
theorem qsign_ok (c : Nat) : m_is_query_sign [signD c] = .ok (.bl (isQS c)) := by
  have st : startD 1 [signD c] = [some (.val (signD c))] := rfl
  unfold m_is_query_sign b_is_query_sign
  rw [runF_ap, st]
  simp only [sRet_ap, eOp_ap, eVar_ap, eC_ap, eOr_ap, List.getElem?_cons_zero, getV_val, Rs.bind_ok, truD_bl, signD, inD_s, strIn_one, small_mem, great_mem, figs_mem, isQS]
  by_cases h1 : 97 ≤ c ∧ c ≤ 122
  · simp [h1]
  · by_cases h2 : 65 ≤ c ∧ c ≤ 90
    · simp [h1, h2]
    · simp [h1, h2]
def ownS (c : Nat) : List Nat := if isQS c = true then [c] else []
def meetS (c : Nat) : List Nat := if 65 ≤ c ∧ c ≤ 90 then [lo1 c, c] else ownS c
theorem ownS_len (c : Nat) : (ownS c).length ≤ 2 := by unfold ownS; split <;> simp
theorem meetS_len (c : Nat) : (meetS c).length ≤ 2 := by
  unfold meetS
  split
  · simp
  · exact ownS_len c
theorem lst0 {τ : DS} : eLst aNil τ = .ok (.lst []) := by
  rw [eLst_ap, aNil_ap, Rs.bind_ok]
  exact if_pos (Nat.zero_le _)
theorem own_ok (c : Nat) : m_own_signs [signD c] = .ok (.lst ((ownS c).map signD)) := by
  have st : startD 1 [signD c] = [some (.val (signD c))] := rfl
  unfold m_own_signs b_own_signs
  rw [runF_ap, st, sRet_ap, eIf_ap, tru_ok (call1 (var_ok rfl) (qsign_ok c)), Rs.bind_ok]
  unfold ownS
  cases isQS c with
  | true => rw [if_pos rfl, if_pos rfl, lst1e (var_ok rfl)]; rfl
  | false => rw [if_neg (by simp), if_neg (by simp), lst0]; rfl
theorem meet_ok (c : Nat) (hc : c < 128) : m_meeting_signs [signD c] = .ok (.lst ((meetS c).map signD)) := by
  have st : startD 1 [signD c] = [some (.val (signD c))] := rfl
  have ht : FD.tB (eOp inD (eVar 0) (eC (.str "ABCDEFGHIJKLMNOPQRSTUVWXYZ"))) [some (.val (signD c))] = .ok (decide (65 ≤ c ∧ c ≤ 90)) := by
    refine tB_ok (op2 (var_ok rfl) rfl ?_)
    show inD (.str ⟨#[c]⟩) _ = _
    rw [inD_s, strIn_one, great_mem]
  have hlo : eMt0 "str" loD (eVar 0) [some (.val (signD c))] = .ok (signD (lo1 c)) := by
    rw [eMt0_ap, var_ok (d := signD c) rfl, Rs.bind_ok]
    show (if isTy "str" (.str ⟨#[c]⟩) = true then loD (.str ⟨#[c]⟩) [] else .no) = _
    rw [if_pos (show isTy "str" (D.str ⟨#[c]⟩) = true from rfl)]
    simp only [loD]
    rw [if_pos (by show 1 ≤ 5000000; decide), lower_one _ hc]; rfl
  unfold m_meeting_signs b_meeting_signs
  rw [runF_ap, st, sSeq_ap, sIf_ap, ht, Fl.of_ok]
  unfold meetS
  by_cases h : 65 ≤ c ∧ c ≤ 90
  · rw [if_pos (by simpa using h), if_pos h, sRet_ap]
    have e : eLst (aCons (eMt0 "str" loD (eVar 0)) (aCons (eVar 0) aNil)) [some (.val (signD c))] = .ok (.lst [signD (lo1 c), signD c]) := by
      rw [eLst_ap, aCons_ap, hlo, Rs.bind_ok, aCons_ap, var_ok (d := signD c) rfl, Rs.bind_ok, aNil_ap, Rs.bind_ok, Rs.bind_ok, Rs.bind_ok]
      exact if_pos (size2 _ _)
    rw [e]; rfl
  · rw [if_neg (by simpa using h), if_neg h, sNext_ap, thn_nx, sRet_ap, call1 (var_ok rfl) (own_ok c)]; rfl
theorem compF_ok {f : Nat → List Nat} {m : List D → Rs D} {fx : FE} {τ : DS} {x : List Nat} (h : fx τ = .ok (tx x)) (hm : ∀ c ∈ x, m [signD c] = .ok (.lst ((f c).map signD))) (hx : x.length ≤ 1000) :
    ((eComp 1 [] (iAny fx) (gNm 0) (fun _ => .ok true) (eCall m (aCons (eVar 0) aNil))) τ).bind (fun ds => Rs.ok (D.lst ds)) = .ok (chD (x.map f)) := by
  have it : iAny fx τ = .ok (x.map signD) := by rw [iAny_ap, h, Rs.bind_ok]; show Rs.ok (signsD _) = _; rw [tx_signs]
  have cm := comp_map (set := gNm 0) (fe := eCall m (aCons (eVar 0) aNil)) (τ := [none]) signD (fun s => D.lst (s.map signD)) f x fun c hc => ⟨_, gNm_ap, call1 (var_ok rfl) (hm c hc)⟩
  rw [comp_ok (k := 1) (idx := []) it cm (by simp; exact hx), Rs.bind_ok]; rfl
def NmL (x : List Nat) : Prop := x.length ≤ 10 ∧ ∀ c ∈ x, c < 128
theorem map_small {f : Nat → List Nat} (hf : ∀ c, (f c).length ≤ 2) (x : List Nat) : ∀ s ∈ x.map f, s.length ≤ 2 := fun s hs => by
  obtain ⟨c, _, rfl⟩ := List.mem_map.mp hs
  exact hf c
def fitQ (X : List (List Nat)) (L : Nat) : List (List Nat) := X.flatMap fun x => keysL (x.map meetS) L
theorem keys_len (f : Nat → List Nat) (hf : ∀ c, (f c).length ≤ 2) (x : List Nat) (hx : x.length ≤ 10) (L : Nat) (hL : L ≤ 3) : (keysL (x.map f) L).length ≤ 8000 := by
  unfold keysL
  rw [List.length_map]
  exact Nat.le_trans (lvl_len _ (map_small hf x) (by rw [List.length_map]; exact hx) L) (Nat.le_trans (Nat.pow_le_pow_right (by decide) hL) (by decide))
theorem fitted_ok (X : List (List Nat)) (L : Nat) (hX : ∀ x ∈ X, NmL x) (hn : X.length ≤ 100) (hL : L ≤ 3) : m_fitted_names [.lst (X.map tx), .int (L : Int)] = .ok (dctI (siOf (incs [] (fitQ X L)))) := by
  have st : startD 5 [.lst (X.map tx), .int (L : Int)] = [some (.val (.lst (X.map tx))), some (.val (.int (L : Int))), none, none, none] := rfl
  have hbig : (fitQ X L).length ≤ 800000 := by
    have := flat_len (fun x => keysL (x.map meetS) L) 8000 X fun x hx => keys_len meetS meetS_len x (hX x hx).1 L hL
    unfold fitQ; omega
  unfold m_fitted_names b_fitted_names
  rw [runF_ap, st]
  have i2 : ∀ (x : List Nat) (acc : LD) (s4 : Option Sl), x ∈ X → acc.length + (keysL (x.map meetS) L).length ≤ 1000000 → ∃ s', hFor (iAny (eCall m_all_queries (aCons (fun τ => ((eComp 1 [] (iAny (eVar 3)) (gNm 0) (fun _ => .ok true) (eCall m_meeting_signs (aCons (eVar 0) aNil))) τ).bind fun ds => .ok (.lst ds)) (aCons (eVar 1) aNil)))) 4 (hInc (eVar 4)) [some (.val (.lst (X.map tx))), some (.val (.int (L : Int))), none, some (.val (tx x)), s4] (siOf acc) = some ([some (.val (.lst (X.map tx))), some (.val (.int (L : Int))), none, some (.val (tx x)), s'], siOf (incs acc (keysL (x.map meetS) L))) := fun x acc s4 hx ha => by
    obtain ⟨hx1, hx2⟩ := hX x hx
    have hc := compF_ok (f := meetS) (m := m_meeting_signs) (fx := eVar 3) (τ := [some (.val (.lst (X.map tx))), some (.val (.int (L : Int))), none, some (.val (tx x)), s4]) (x := x) (var_ok rfl) (fun c hc => meet_ok c (hx2 c hc)) (by omega)
    have it : iAny (eCall m_all_queries (aCons (fun τ => ((eComp 1 [] (iAny (eVar 3)) (gNm 0) (fun _ => .ok true) (eCall m_meeting_signs (aCons (eVar 0) aNil))) τ).bind fun ds => .ok (.lst ds)) (aCons (eVar 1) aNil))) [some (.val (.lst (X.map tx))), some (.val (.int (L : Int))), none, some (.val (tx x)), s4] = .ok ((keysL (x.map meetS) L).map tx) := by
      rw [iAny_ap, call2 hc (var_ok rfl) (all_ok (x.map meetS) L (map_small meetS_len x) (by rw [List.length_map]; exact hx1) (by omega))]; rfl
    rw [hFor_ok it]
    have e : keysL (x.map meetS) L = (keysL (x.map meetS) L).flatMap fun q => [q] := by simp
    rw [e] at ha
    obtain ⟨τ', ⟨s', hs⟩, h⟩ := hl_act act_incs (f := hInc (eVar 4)) (r := 4) tx (fun q => [q]) (fun τ => ∃ s', τ = [some (.val (.lst (X.map tx))), some (.val (.int (L : Int))), none, some (.val (tx x)), s']) (keysL (x.map meetS) L) (fun q _ τ acc hs ha => by
      obtain ⟨s', rfl⟩ := hs
      exact ⟨_, ⟨some (.val (tx q)), rfl⟩, hInc_ok (var_ok rfl) (by simp at ha; omega)⟩) _ acc ⟨s4, rfl⟩ ha
    subst hs
    rw [← e] at h
    exact ⟨s', h⟩
  have it : iAny (eVar 0) [some (.val (.lst (X.map tx))), some (.val (.int (L : Int))), none, none, none] = .ok (X.map tx) := rfl
  obtain ⟨τ', _, h⟩ := hl_act act_incs (f := hFor (iAny (eCall m_all_queries (aCons (fun τ => ((eComp 1 [] (iAny (eVar 3)) (gNm 0) (fun _ => .ok true) (eCall m_meeting_signs (aCons (eVar 0) aNil))) τ).bind fun ds => .ok (.lst ds)) (aCons (eVar 1) aNil)))) 4 (hInc (eVar 4))) (r := 3) tx (fun x => keysL (x.map meetS) L) (fun τ => ∃ s3 s4, τ = [some (.val (.lst (X.map tx))), some (.val (.int (L : Int))), none, s3, s4]) X (fun x hx τ acc hs ha => by
    obtain ⟨s3, s4, rfl⟩ := hs
    obtain ⟨s', h⟩ := i2 x acc s4 hx ha
    exact ⟨_, ⟨some (.val (tx x)), s', rfl⟩, h⟩) [some (.val (.lst (X.map tx))), some (.val (.int (L : Int))), none, none, none] [] ⟨none, none, rfl⟩ (by show 0 + (fitQ X L).length ≤ _; omega)
  unfold sMkD
  rw [if_pos ⟨rfl, by show 2 < 5; decide⟩]
  have h' : hFor (iAny (eVar 0)) 3 (hFor (iAny (eCall m_all_queries (aCons (fun τ => ((eComp 1 [] (iAny (eVar 3)) (gNm 0) (fun _ => .ok true) (eCall m_meeting_signs (aCons (eVar 0) aNil))) τ).bind fun ds => .ok (.lst ds)) (aCons (eVar 1) aNil)))) 4 (hInc (eVar 4))) ([some (.val (.lst (X.map tx))), some (.val (.int (L : Int))), none, none, none].set 2 none) [] = some (τ', siOf (incs [] (fitQ X L))) := by
    show hFor _ _ _ [some (.val (.lst (X.map tx))), some (.val (.int (L : Int))), none, none, none] (siOf []) = _
    rw [hFor_ok it]
    exact h
  rw [h']
  rfl
def optS : Option Str → D
  | none => .non
  | some s => .str s
def minO (l : List (List Nat)) : Option Str := if l = [] then none else some (mnS (l.map mkS))
theorem strs_tx : ∀ l : List (List Nat), strsOf (l.map tx) = some (l.map mkS) := fun l => by
  induction l with
  | nil => rfl
  | cons x l ih => rw [List.map_cons, List.map_cons]; show (strsOf (l.map tx)).map _ = _; rw [ih]; rfl
theorem min_ok {fe f2 : FE} {τ : DS} {l : List (List Nat)} (h1 : fe τ = .ok (.lst (l.map tx))) (h2 : f2 τ = .ok .non) : eMinS fe f2 τ = .ok (optS (minO l)) := by
  unfold eMinS
  rw [h1, Rs.bind_ok, h2, Rs.bind_ok]
  unfold minSD
  dsimp only
  rw [strs_tx]
  dsimp only
  unfold minO
  cases l with
  | nil => rfl
  | cons a l => rw [if_neg (by simp), if_neg (by simp)]; rfl
def candQ (x : List Nat) (L : Nat) (F : LD) : List (List Nat) := (keysL (x.map ownS) L).filter fun q => decide (look F q = some 1)
theorem least_ok (x : List Nat) (L : Nat) (F : LD) (hx : NmL x) (hL : L ≤ 3) (hF : ∀ q ∈ keysL (x.map ownS) L, ∃ n, look F q = some n) : m_least_alone [tx x, .int (L : Int), dctI (siOf F)] = .ok (optS (minO (candQ x L F))) := by
  have st : startD 4 [tx x, .int (L : Int), dctI (siOf F)] = [some (.val (tx x)), some (.val (.int (L : Int))), some (.val (dctI (siOf F))), none] := rfl
  have hc := compF_ok (f := ownS) (m := m_own_signs) (fx := eVar 0) (τ := [some (.val (tx x)), some (.val (.int (L : Int))), some (.val (dctI (siOf F))), none]) (x := x) (var_ok rfl) (fun c _ => own_ok c) (by have := hx.1; omega)
  have hk := keys_len ownS ownS_len x hx.1 L hL
  unfold m_least_alone b_least_alone
  rw [runF_ap, st, sSeq_ap, sSet_ap, call2 hc (var_ok rfl) (all_ok (x.map ownS) L (map_small ownS_len x) (by rw [List.length_map]; exact hx.1) (by omega)), Fl.of_ok, thn_nx, sRet_ap]
  simp only [List.set_cons_succ, List.set_cons_zero]
  have cf := comp_filter (set := gNm 0) (ft := FD.tB (eOp eqD (eDIx (eVar 1) (eVar 0)) (eC (.int 1)))) (fe := eVar 0) (τ := [none, some (.val (dctI (siOf F)))]) tx tx (fun q => decide (look F q = some 1)) (keysL (x.map ownS) L) fun q hq => by
    obtain ⟨n, hn⟩ := hF q hq
    refine ⟨[some (.val (tx q)), some (.val (dctI (siOf F)))], rfl, ?_, var_ok rfl⟩
    refine tB_ok (op2 (eDIx_ok (var_ok rfl) (var_ok rfl) hn) rfl ?_)
    rw [eqD_i, hn]
    congr 2
    rw [Bool.eq_iff_iff]
    simp; omega
  have e : eComp 1 [2] (iAny (eVar 3)) (gNm 0) (FD.tB (eOp eqD (eDIx (eVar 1) (eVar 0)) (eC (.int 1)))) (eVar 0) [some (.val (tx x)), some (.val (.int (L : Int))), some (.val (dctI (siOf F))), some (.val (.lst ((keysL (x.map ownS) L).map tx)))] = .ok ((candQ x L F).map tx) := by
    unfold eComp
    show (Rs.ok ((keysL (x.map ownS) L).map tx)).bind _ = _
    rw [Rs.bind_ok]
    show (match compL (gNm 0) _ (eVar 0) [none, some (.val (dctI (siOf F)))] ((keysL (x.map ownS) L).map tx) with
      | .ok xs => if xs.length ≤ sizeLine then Rs.ok xs else .no
      | _ => .no) = _
    rw [cf]
    dsimp only
    rw [if_pos]
    · rfl
    · rw [sizeLine_v, List.length_map]
      have := List.length_filter_le (fun q => decide (look F q = some 1)) (keysL (x.map ownS) L)
      omega
  rw [min_ok (l := candQ x L F) (by simp only [e, Rs.bind_ok]) rfl]
  rfl
end Law
set_option Elab.async false
set_option linter.all false
set_option maxHeartbeats 1000000
namespace Law
open PySem PySem.Spec PyProof.Rows L2 FD
theorem subsM_tail (f : Nat → List Nat) : ∀ (x q : List Nat) (a : Nat), subsM f (a :: q) x = true → subsM f q x = true := fun x => by
  induction x with
  | nil => intro q a h; simp [subsM] at h
  | cons c x ih =>
    intro q a h
    have h1 : subsM f q x = true := by
      simp only [subsM] at h
      split at h
      · exact h
      · exact ih q a h
    cases q with
    | nil => rfl
    | cons b q =>
      simp only [subsM]
      split
      · exact ih q b h1
      · exact h1
theorem subsM_mono (f g : Nat → List Nat) (hfg : ∀ c a, a ∈ f c → a ∈ g c) : ∀ (x q : List Nat), subsM f q x = true → subsM g q x = true := fun x => by
  induction x with
  | nil =>
    intro q h
    cases q with
    | nil => rfl
    | cons a q => simp [subsM] at h
  | cons c x ih =>
    intro q h
    cases q with
    | nil => rfl
    | cons a q =>
      simp only [subsM] at h ⊢
      split at h
      · rename_i z
        rw [if_pos (hfg c a z)]
        exact ih q h
      · have := ih (a :: q) h
        split
        · exact subsM_tail g x q a this
        · exact this
theorem own_meet (c a : Nat) (h : a ∈ ownS c) : a ∈ meetS c := by
  unfold ownS at h
  unfold meetS
  split at h
  · have : a = c := by simpa using h
    subst this
    split
    · simp
    · unfold ownS
      rename_i z _
      rw [if_pos z]; simp
  · cases h
def cntq (X : List (List Nat)) (q : List Nat) : Nat := X.countP fun y => subsM meetS q y
def fitF (X : List (List Nat)) (L : Nat) : LD := incs [] (fitQ X L)
theorem fit_look (X : List (List Nat)) (L : Nat) (q : List Nat) (hq : q.length = L) : look (fitF X L) q = if cntq X q = 0 then none else some (cntq X q) := by
  unfold fitF
  rw [look_incs]
  have e : (fitQ X L).count q = cntq X q := by
    unfold fitQ cntq
    rw [count_flat (fun x => keysL (x.map meetS) L) q fun x => lvl_nodup _ _]
    refine List.countP_congr fun y _ => ?_
    unfold keysL
    simp only [decide_eq_true_eq]
    rw [lvl_mem]
    exact ⟨fun h => h.2, fun h => ⟨hq, h⟩⟩
  rw [e, look_nil]
  simp
theorem cnt_pos {X : List (List Nat)} {x q : List Nat} (hx : x ∈ X) (h : subsM ownS q x = true) : 0 < cntq X q := List.countP_pos_iff.mpr ⟨x, hx, subsM_mono ownS meetS own_meet x q h⟩
def cands (X : List (List Nat)) (x : List Nat) (L : Nat) : List (List Nat) := candQ x L (fitF X L)
theorem cands_mem (X : List (List Nat)) (x : List Nat) (hx : x ∈ X) (L : Nat) (q : List Nat) : q ∈ cands X x L ↔ q.length = L ∧ subsM ownS q x = true ∧ cntq X q = 1 := by
  unfold cands candQ
  rw [List.mem_filter]
  unfold keysL
  rw [lvl_mem]
  constructor
  · rintro ⟨⟨h1, h2⟩, h3⟩
    rw [fit_look X L q h1, if_neg (by have := cnt_pos hx h2; omega)] at h3
    exact ⟨h1, h2, by simpa using h3⟩
  · rintro ⟨h1, h2, h3⟩
    refine ⟨⟨h1, h2⟩, ?_⟩
    rw [fit_look X L q h1, if_neg (by omega), h3]; simp
def tellUp (X : List (List Nat)) (x : List Nat) (L : Nat) : Option Str := (List.range L).findSome? fun l => minO (cands X x l)
theorem tellUp_succ (X : List (List Nat)) (x : List Nat) (L : Nat) : tellUp X x (L + 1) = (tellUp X x L).or (minO (cands X x L)) := by
  unfold tellUp
  rw [List.range_succ, List.findSome?_append]
  simp
def tellQ (X : List (List Nat)) (x : List Nat) : Option Str := tellUp X x 4
theorem enum_map2 {α : Type} (f : α → D) : ∀ (X : List α) (n : Nat), enumFrom n (X.map f) = (X.zipIdx n).map fun p => D.tup [.int (p.2 : Int), f p.1] := fun X => by
  induction X with
  | nil => intro n; rfl
  | cons x X ih => intro n; rw [List.map_cons, List.zipIdx_cons, List.map_cons, ← ih (n + 1)]; rfl
theorem en_ok2 {fa : FE} {τ : DS} {X : List (List Nat)} (h : fa τ = .ok (.lst (X.map tx))) : iEn (aCons fa aNil) τ = .ok ((List.range X.length).map fun (k : Nat) => D.tup [.int (k : Int), tx (X.getD k [])]) := by
  unfold iEn
  rw [aCons_ap, h, Rs.bind_ok, aNil_ap, Rs.bind_ok, Rs.bind_ok]
  show Rs.ok (enumFrom 0 _) = _
  rw [enum_map2]
  congr 1
  apply List.ext_getElem?
  intro i
  rw [List.getElem?_map, List.getElem?_map, List.getElem?_zipIdx]
  by_cases hi : i < X.length
  · simp [hi]
  · simp [hi]
def toldL (X : List (List Nat)) (L k : Nat) : List D := (List.range X.length).map fun j => optS (tellUp X (X.getD j []) (if j < k then L + 1 else L))
theorem toldL_get (X : List (List Nat)) (L k : Nat) (h : k < X.length) : (toldL X L k)[k]? = some (optS (tellUp X (X.getD k []) L)) := by
  unfold toldL
  rw [List.getElem?_map, List.getElem?_range h]
  simp
theorem toldL_set (X : List (List Nat)) (L k : Nat) (h : k < X.length) : (toldL X L k).set k (optS (tellUp X (X.getD k []) (L + 1))) = toldL X L (k + 1) := by
  apply List.ext_getElem?
  intro i
  unfold toldL
  rw [List.getElem?_set, List.getElem?_map, List.getElem?_map]
  by_cases hi : k = i
  · subst hi
    rw [if_pos rfl, if_pos (by simpa using h), List.getElem?_range h]
    simp
  · rw [if_neg hi]
    by_cases h2 : i < X.length
    · rw [List.getElem?_range h2]
      simp only [Option.map_some]
      have : (i < k) = (i < k + 1) := by apply propext; omega
      simp only [this]
    · rw [List.getElem?_eq_none (by simpa using h2)]; rfl
theorem is_optS (o : Option Str) : isD (optS o) .non = .ok (.bl o.isNone) := by cases o <;> rfl
theorem toldL_end (X : List (List Nat)) : toldL X 4 0 = X.map fun x => optS (tellQ X x) := by
  unfold toldL tellQ
  apply List.ext_getElem?
  intro i
  rw [List.getElem?_map, List.getElem?_map]
  by_cases hi : i < X.length
  · rw [List.getElem?_range hi, List.getElem?_eq_getElem hi]
    simp [hi]
  · rw [List.getElem?_eq_none (by simpa using hi), List.getElem?_eq_none (by simpa using hi)]; rfl
theorem telling_ok (X : List (List Nat)) (hX : ∀ x ∈ X, NmL x) (hn : X.length ≤ 100) : m_telling [.lst (X.map tx)] = .ok (.lst (X.map fun x => optS (tellQ X x))) := by
  have st : startD 6 [.lst (X.map tx)] = [some (.val (.lst (X.map tx))), none, none, none, none, none] := rfl
  have hF : ∀ (L : Nat) (x : List Nat), x ∈ X → ∀ q ∈ keysL (x.map ownS) L, ∃ n, look (fitF X L) q = some n := fun L x hx q hq => by
    unfold keysL at hq
    rw [lvl_mem] at hq
    exact ⟨cntq X q, by rw [fit_look X L q hq.1, if_neg (by have := cnt_pos hx hq.2; omega)]⟩
  unfold m_telling b_telling
  rw [runF_ap, st, sSeq_ap, sSetO_ap]
  have r0 : eRepL (eLst (aCons (eC .non) aNil)) (eBlt lenD (aCons (eVar 0) aNil)) [some (.val (.lst (X.map tx))), none, none, none, none, none] = .ok (toldL X 0 0) := by
    unfold eRepL
    rw [lst1e (fa := eC .non) rfl, Rs.bind_ok, blt1 (var_ok rfl) (show lenD [.lst (X.map tx)] = .ok (.int (X.length : Int)) by rw [lenD_lst, List.length_map]), Rs.bind_ok]
    show (if (-(2 ^ 62) ≤ (X.length : Int) ∧ (X.length : Int) < 2 ^ 62) ∧ 1 * (X.length : Int).toNat ≤ sizeLine then Rs.ok (List.replicate (X.length : Int).toNat [D.non]).flatten else .no) = _
    rw [if_pos ⟨⟨by omega, by omega⟩, by rw [sizeLine_v, Int.toNat_natCast]; omega⟩, Int.toNat_natCast]
    congr 1
    unfold toldL
    apply List.ext_getElem?
    intro i
    have e1 : (List.replicate X.length [D.non]).flatten = List.replicate X.length D.non := by
      induction X.length with
      | zero => rfl
      | succ n ih => rw [List.replicate_succ, List.flatten_cons, ih, List.replicate_succ]; rfl
    rw [e1, List.getElem?_map]
    by_cases hi : i < X.length
    · rw [List.getElem?_range hi]
      simp [hi, tellUp, optS]
    · rw [List.getElem?_eq_none (by simpa using hi), List.getElem?_eq_none (by simpa using hi)]; rfl
  rw [r0, Fl.of_ok, thn_nx, sSeq_ap, sFor_ap]
  simp only [List.set_cons_succ, List.set_cons_zero]
  have it : iRg1 (aCons (eOp addD (eC (.int 3)) (eC (.int 1))) aNil) [some (.val (.lst (X.map tx))), some (.own (toldL X 0 0)), none, none, none, none] = .ok ((List.range 4).map fun (k : Nat) => D.int (0 + k)) := rng_ok (n := 4) rfl (by decide)
  rw [it, Fl.of_ok]
  have same : ∀ L, toldL X L X.length = toldL X (L + 1) 0 := fun L => by
    unfold toldL
    refine List.map_congr_left fun j hj => ?_
    have := List.mem_range.mp hj
    simp [this]
  obtain ⟨τ', h1, h2⟩ := loop_inv0 (set := gNm 2) (body := (sSeq (sSet 3 (eCall m_fitted_names (aCons (eVar 0) (aCons (eVar 2) aNil))))
      (sFor (iEn (aCons (eVar 0) aNil)) (gPr 4 5) (sIf (FD.tB (eOp isD (eIxO 1 (eVar 4)) (eC .non))) (sPut 1 (eVar 4) (eCall m_least_alone (aCons (eVar 5) (aCons (eVar 2) (aCons (eVar 3) aNil))))) sNext)))) (fun (k : Nat) => D.int (0 + k))
    (fun L τ => ∃ s2 s3 s4 s5, τ = [some (.val (.lst (X.map tx))), some (.own (toldL X L 0)), s2, s3, s4, s5]) 4 _ ⟨none, none, none, none, rfl⟩ fun L τ hL hI => by
      obtain ⟨s2, s3, s4, s5, rfl⟩ := hI
      have hfit := fitted_ok X L hX hn (by omega)
      refine ⟨[some (.val (.lst (X.map tx))), some (.own (toldL X L 0)), some (.val (.int (L : Int))), s3, s4, s5], ?_⟩
      have ig := loop_inv0 (set := gPr 4 5) (body := sIf (FD.tB (eOp isD (eIxO 1 (eVar 4)) (eC .non))) (sPut 1 (eVar 4) (eCall m_least_alone (aCons (eVar 5) (aCons (eVar 2) (aCons (eVar 3) aNil))))) sNext) (fun (k : Nat) => D.tup [.int (k : Int), tx (X.getD k [])])
        (fun k τ => ∃ s4 s5, τ = [some (.val (.lst (X.map tx))), some (.own (toldL X L k)), some (.val (.int (L : Int))), some (.val (dctI (siOf (fitF X L)))), s4, s5]) X.length [some (.val (.lst (X.map tx))), some (.own (toldL X L 0)), some (.val (.int (L : Int))), some (.val (dctI (siOf (fitF X L)))), s4, s5] ⟨s4, s5, rfl⟩ fun k τ hk hI => by
          obtain ⟨s4, s5, rfl⟩ := hI
          have hxk : X.getD k [] ∈ X := by
            have : X.getD k [] = X[k] := by simp [hk]
            rw [this]; exact List.getElem_mem hk
          have hleast := least_ok (X.getD k []) L (fitF X L) (hX _ hxk) (by omega) (hF L _ hxk)
          refine ⟨[some (.val (.lst (X.map tx))), some (.own (toldL X L k)), some (.val (.int (L : Int))), some (.val (dctI (siOf (fitF X L)))), some (.val (.int (k : Int))), some (.val (tx (X.getD k [])))], [some (.val (.lst (X.map tx))), some (.own (toldL X L (k + 1))), some (.val (.int (L : Int))), some (.val (dctI (siOf (fitF X L)))), some (.val (.int (k : Int))), some (.val (tx (X.getD k [])))], rfl, ?_, _, _, rfl⟩
          have hix : eIxO 1 (eVar 4) [some (.val (.lst (X.map tx))), some (.own (toldL X L k)), some (.val (.int (L : Int))), some (.val (dctI (siOf (fitF X L)))), some (.val (.int (k : Int))), some (.val (tx (X.getD k [])))] = .ok (optS (tellUp X (X.getD k []) L)) := by
            rw [eIxO_ap]
            show (Rs.ok (toldL X L k)).bind (fun ds => (Rs.ok (D.int (k : Int))).bind (ixO ds)) = _
            rw [Rs.bind_ok, Rs.bind_ok, ixO_ok (toldL_get X L k hk)]
          rw [sIf_ap, tB_ok (op2 hix rfl (is_optS _)), Fl.of_ok]
          have hset := toldL_set X L k hk
          rw [tellUp_succ] at hset
          cases ht : tellUp X (X.getD k []) L with
          | some v =>
            rw [if_neg (by simp), sNext_ap]
            rw [ht] at hset
            have e : (toldL X L k).set k (optS (some v)) = toldL X L k := by
              have g := toldL_get X L k hk
              rw [ht] at g
              obtain ⟨hl, g⟩ := List.getElem?_eq_some_iff.mp g
              rw [← g]; exact List.set_getElem_self hl
            rw [← hset]
            show _ = Fl.nx [_, some (.own ((toldL X L k).set k (optS (some v)))), _, _, _, _]
            rw [e]
          | none =>
            rw [if_pos (show (none : Option Str).isNone = true from rfl), sPut_ap, call3 (var_ok rfl) (var_ok rfl) (var_ok rfl) hleast, Fl.of_ok]
            rw [ht] at hset
            show Fl.of (Rs.ok (toldL X L k)) (fun ds => Fl.of (Rs.ok (D.int (k : Int))) (putAt 1 ds _ _)) = _
            rw [Fl.of_ok, Fl.of_ok, putAt_ok (by unfold toldL; simpa using hk), ← hset]
            rfl
      obtain ⟨τ2, g1, s4', s5', rfl⟩ := ig
      refine ⟨_, by rw [gNm_ap, Int.zero_add]; rfl, ?_, some (.val (.int (L : Int))), some (.val (dctI (siOf (fitF X L)))), s4', s5', rfl⟩
      rw [sSeq_ap, sSet_ap, call2 (var_ok rfl) (var_ok rfl) hfit, Fl.of_ok, thn_nx, sFor_ap]
      simp only [List.set_cons_succ, List.set_cons_zero]
      rw [en_ok2 (X := X) (var_ok rfl), Fl.of_ok]
      rw [← same L]
      exact g1
  obtain ⟨s2, s3, s4, s5, rfl⟩ := h2
  rw [h1, thn_nx, sRetO_ap, ownAt_ap]
  simp only [List.getElem?_cons_succ, List.getElem?_cons_zero, getO_own, Fl.of_ok, flRes_rt]
  rw [toldL_end]
end Law
set_option Elab.async false
set_option linter.all false
set_option maxHeartbeats 1000000
namespace Law
open PySem PySem.Spec PyProof.Rows L2 FD
theorem seq_nx {f g : FS} {τ τ' : DS} (h : f τ = .nx τ') : sSeq f g τ = g τ' := by rw [sSeq_ap, h, thn_nx]
theorem if_f {g : FT} {a b : FS} {τ : DS} (h : g τ = .ok false) : sIf g a b τ = b τ := by rw [sIf_ap, h, Fl.of_ok, if_neg (by simp)]
theorem if_t {g : FT} {a b : FS} {τ : DS} (h : g τ = .ok true) : sIf g a b τ = a τ := by rw [sIf_ap, h, Fl.of_ok, if_pos rfl]
theorem if_n {g : FT} {a : FS} {τ : DS} (h : g τ = .ok false) : sIf g a sNext τ = .nx τ := if_f h
theorem set_nx {i : Nat} {fe : FE} {τ : DS} {d : D} (h : fe τ = .ok d) : sSet i fe τ = .nx (τ.set i (some (.val d))) := by rw [sSet_ap, h, Fl.of_ok]
theorem ret_rt {fe : FE} {τ : DS} {d : D} (h : fe τ = .ok d) : sRet fe τ = .rt d := by rw [sRet_ap, h, Fl.of_ok]
theorem arg1 {fa : FE} {τ : DS} {a : D} (h : fa τ = .ok a) : aCons fa aNil τ = .ok [a] := by rw [aCons_ap, h, Rs.bind_ok, aNil_ap, Rs.bind_ok]
theorem arg2 {fa fb : FE} {τ : DS} {a b : D} (h : fa τ = .ok a) (h2 : fb τ = .ok b) : aCons fa (aCons fb aNil) τ = .ok [a, b] := by rw [aCons_ap, h, Rs.bind_ok, arg1 h2, Rs.bind_ok]
def gd : Nat → D → Prop
  | _, .str x => PyData.strOk x = true
  | _, .int _ => True
  | _, .bl _ => True
  | _, .non => True
  | n + 1, .lst ds => ∀ d ∈ ds, gd n d
  | n + 1, .tup ds => ∀ d ∈ ds, gd n d
  | _, _ => False
theorem gd_all {n : Nat} (ih : ∀ d, gd n d → plainD d = true ∧ (toPy d).canLay0 = true ∧ (toPy d).depth ≤ n ∧ PyData.eqv (toPy d) (toPy d) = true) : ∀ ds : List D, (∀ d ∈ ds, gd n d) → plainDs ds = true ∧ PyData.canLayAll0 (toPys ds) = true ∧ PyData.depthAll (toPys ds) ≤ n ∧ PyData.eqvAll (toPys ds) (toPys ds) = true
  | [], _ => ⟨rfl, rfl, Nat.zero_le _, by simp [toPys, PyData.eqvAll]⟩
  | d :: ds, h => by
    obtain ⟨a1, a2, a3, a4⟩ := ih d (h d List.mem_cons_self)
    obtain ⟨b1, b2, b3, b4⟩ := gd_all ih ds fun e he => h e (List.mem_cons_of_mem _ he)
    refine ⟨by simp [plainDs, a1, b1], by simp [toPys, PyData.canLayAll0, a2, b2], ?_, by simp [toPys, PyData.eqvAll, a4, b4]⟩
    simp only [toPys, PyData.depthAll]
    omega
theorem gd_ok : ∀ (n : Nat) (d : D), gd n d → plainD d = true ∧ (toPy d).canLay0 = true ∧ (toPy d).depth ≤ n ∧ PyData.eqv (toPy d) (toPy d) = true
  | n, .str x, h => ⟨by simp [plainD], by simpa [toPy, PyData.canLay0, gd] using h, by simp [toPy, PyData.depth], by simp [toPy, PyData.eqv]⟩
  | n, .int _, h => ⟨by simp [plainD], by simp [toPy, PyData.canLay0], by simp [toPy, PyData.depth], by simp [toPy, PyData.eqv]⟩
  | n, .bl _, h => ⟨by simp [plainD], by simp [toPy, PyData.canLay0], by simp [toPy, PyData.depth], by simp [toPy, PyData.eqv]⟩
  | n, .non, h => ⟨by simp [plainD], by simp [toPy, PyData.canLay0], by simp [toPy, PyData.depth], by simp [toPy, PyData.eqv]⟩
  | n + 1, .lst ds, h => by
    obtain ⟨b1, b2, b3, b4⟩ := gd_all (gd_ok n) ds (by simpa [gd] using h)
    exact ⟨by simpa [plainD] using b1, by simpa [toPy, PyData.canLay0] using b2, by simpa [toPy, PyData.depth] using b3, by simpa [toPy, PyData.eqv] using b4⟩
  | n + 1, .tup ds, h => by
    obtain ⟨b1, b2, b3, b4⟩ := gd_all (gd_ok n) ds (by simpa [gd] using h)
    exact ⟨by simpa [plainD] using b1, by simpa [toPy, PyData.canLay0] using b2, by simpa [toPy, PyData.depth] using b3, by simpa [toPy, PyData.eqv] using b4⟩
  | 0, .lst ds, h => by simp [gd] at h
  | 0, .tup ds, h => by simp [gd] at h
  | 0, .scr ds, h => by simp [gd] at h
  | 0, .raw ds, h => by simp [gd] at h
  | 0, .exc ds, h => by simp [gd] at h
  | n + 1, .scr ds, h => by simp [gd] at h
  | n + 1, .raw ds, h => by simp [gd] at h
  | n + 1, .exc ds, h => by simp [gd] at h
  | 0, .dct _ _, h => by simp [gd] at h
  | n + 1, .dct _ _, h => by simp [gd] at h
theorem gd_okD {n : Nat} {d : D} (h : gd n d) (hn : n ≤ 60) : okD d = true ∧ eqvD d d = true := by
  obtain ⟨a, b, c, e⟩ := gd_ok n d h
  refine ⟨?_, e⟩
  have : (toPy d).depth ≤ 60 := by omega
  simp [okD, a, b, this]
theorem gd_str {n : Nat} {x : Str} (h : PyData.strOk x = true) : gd n (.str x) := by cases n <;> exact h
theorem frE {ff : FA} {τ : DS} {ds : List D} (h : ff τ = .ok ds) : (fun τ => (ff τ).bind fun ds => Rs.ok (D.lst ds)) τ = .ok (.lst ds) := by show (ff τ).bind _ = _; rw [h]; rfl
theorem any_of {fe : FE} {τ : DS} {ds : List D} (h : fe τ = .ok (.lst ds)) : iAny fe τ = .ok ds := by rw [iAny_ap, h]; rfl
theorem okD_nil : okD (.lst []) = true := by decide
theorem eqv_nil (ds : List D) : eqvD (.lst ds) (.lst []) = ds.isEmpty := by
  simp only [eqvD, toPy, toPys, PyData.eqv, eqvAll_nil]
  cases ds <;> rfl
theorem ne_nil (ds : List D) (h : okD (.lst ds) = true) : neD (.lst ds) (.lst []) = .ok (.bl (!ds.isEmpty)) := by
  simp only [neD, h, okD_nil, and_self, if_true, eqv_nil]
theorem eq_nil (ds : List D) (h : okD (.lst ds) = true) : eqD (.lst ds) (.lst []) = .ok (.bl ds.isEmpty) := by
  simp only [eqD, h, okD_nil, and_self, if_true, eqv_nil]
theorem slD_to (x : List Nat) (hx : x.length ≤ 1000) (n : Nat) : slD (tx x) none (some (n : Int)) = .ok (tx (x.take n)) := by
  simp only [slD]
  rw [if_pos (by rw [mk_len, sizeLine_v]; omega), slice_to]
end Law
set_option Elab.async false
set_option linter.all false
set_option maxHeartbeats 1000000
namespace Law
open PySem PySem.Spec PyProof.Rows L2 FD
theorem cands_eq {X : List (List Nat)} {x : List Nat} (hx : x ∈ X) (L : Nat) : cands X x L = (keysL (x.map ownS) L).filter fun q => decide (cntq X q = 1) := by
  unfold cands candQ
  refine List.filter_congr fun q hq => ?_
  unfold keysL at hq
  rw [lvl_mem] at hq
  rw [fit_look X L q hq.1, if_neg (by have := cnt_pos hx hq.2; omega)]
  simp
theorem mn_mem {l : List (List Nat)} (h : l ≠ []) : ∃ q ∈ l, mnS (l.map mkS) = mkS q ∧ ∀ r ∈ l, STW.leS (mkS q) (mkS r) := by
  obtain ⟨h1, h2⟩ := mnS_spec (l.map mkS) (by simpa using h)
  obtain ⟨q, hq, e⟩ := List.mem_map.mp h1
  refine ⟨q, hq, e.symm, fun r hr => ?_⟩
  rw [e]
  exact h2 _ (List.mem_map.mpr ⟨r, hr, rfl⟩)
theorem own_sub {x : List Nat} : ∀ {q : List Nat}, subsM ownS q x = true → List.Sublist q x ∧ ∀ c ∈ q, isQS c = true := by
  induction x with
  | nil =>
    intro q h
    cases q with
    | nil => exact ⟨List.Sublist.refl _, fun c hc => by cases hc⟩
    | cons a q => simp [subsM] at h
  | cons c x ih =>
    intro q h
    cases q with
    | nil => exact ⟨List.nil_sublist _, fun c hc => by cases hc⟩
    | cons a q =>
      simp only [subsM] at h
      split at h
      · rename_i z
        obtain ⟨h1, h2⟩ := ih h
        unfold ownS at z
        split at z
        · rename_i y
          have : a = c := by simpa using z
          subst this
          exact ⟨h1.cons_cons a, fun d hd => by
            rcases List.mem_cons.mp hd with rfl | hd
            · exact y
            · exact h2 d hd⟩
        · cases z
      · obtain ⟨h1, h2⟩ := ih h
        exact ⟨h1.cons c, h2⟩
theorem alone (x : List Nat) : tellQ [x] x = some (mkS []) := by
  unfold tellQ tellUp
  have h : minO (cands [x] x 0) = some (mkS []) := by
    have e : cands [x] x 0 = [[]] := by
      rw [cands_eq (List.mem_singleton.mpr rfl)]
      show [[]].filter _ = _
      have : cntq [x] [] = 1 := by
        unfold cntq
        rw [List.countP_cons, List.countP_nil]
        simp [subsM]
      simp [this]
    rw [e]; rfl
  show ((0 :: [1, 2, 3]).findSome? fun l => minO (cands [x] x l)) = _
  rw [List.findSome?_cons, h]
end Law
set_option Elab.async false
set_option linter.all false
set_option maxHeartbeats 1000000
namespace Law
open PySem PySem.Spec PyProof.Rows L2 FD
def NS2 : List Nat := 100 :: NS
theorem ns2_q : ∀ c ∈ NS2, c < 128 ∧ (isQS c = true ↔ c ∉ MK) := by decide
def qstep (m : Nat) (F : List (List Nat)) (c : Nat) : List (List Nat) := F ++ (F.filter fun r => decide (r.length < m) && !decide (c ∈ MK)).map fun r => r ++ [c]
def qfold (m : Nat) (x : List Nat) : List (List Nat) := x.foldl (qstep m) [[]]
theorem qfold_snoc (m : Nat) (x : List Nat) (c : Nat) : qfold m (x ++ [c]) = qstep m (qfold m x) c := by unfold qfold; rw [List.foldl_append]; rfl
theorem rev_ind {P : List Nat → Prop} (h0 : P []) (hs : ∀ x c, P x → P (x ++ [c])) (x : List Nat) : P x := by
  have : ∀ y : List Nat, P y.reverse := fun y => by
    induction y with
    | nil => exact h0
    | cons a y ih => rw [List.reverse_cons]; exact hs _ _ ih
  have h := this x.reverse
  rwa [List.reverse_reverse] at h
theorem sub_one {b : List Nat} {c : Nat} (h : List.Sublist b [c]) : b = [] ∨ b = [c] := by
  cases h with
  | cons _ h => exact .inl (List.sublist_nil.mp h)
  | cons_cons _ h => exact .inr (by rw [List.sublist_nil.mp h])
theorem sub_snoc {r x : List Nat} {c : Nat} : List.Sublist r (x ++ [c]) ↔ List.Sublist r x ∨ ∃ s, r = s ++ [c] ∧ List.Sublist s x := by
  rw [List.sublist_append_iff]
  constructor
  · rintro ⟨a, b, rfl, h1, h2⟩
    rcases sub_one h2 with rfl | rfl
    · exact .inl (by simpa using h1)
    · exact .inr ⟨a, rfl, h1⟩
  · rintro (h | ⟨s, rfl, h⟩)
    · exact ⟨r, [], by simp, h, List.nil_sublist _⟩
    · exact ⟨s, [c], rfl, h, List.Sublist.refl _⟩
theorem qfold_mem (m : Nat) (x : List Nat) : ∀ r, r ∈ qfold m x ↔ r.length ≤ m ∧ List.Sublist r x ∧ ∀ c ∈ r, c ∉ MK := by
  refine rev_ind (P := fun x => ∀ r, r ∈ qfold m x ↔ r.length ≤ m ∧ List.Sublist r x ∧ ∀ c ∈ r, c ∉ MK) ?_ ?_ x
  · intro r
    unfold qfold
    simp only [List.foldl_nil, List.mem_singleton]
    constructor
    · rintro rfl; exact ⟨Nat.zero_le _, List.Sublist.refl _, fun c hc => by cases hc⟩
    · rintro ⟨_, h, _⟩; exact List.sublist_nil.mp h
  · intro x c ih r
    rw [qfold_snoc, qstep, List.mem_append, ih, sub_snoc]
    constructor
    · rintro (⟨h1, h2, h3⟩ | h)
      · exact ⟨h1, .inl h2, h3⟩
      · obtain ⟨s, hs, rfl⟩ := List.mem_map.mp h
        obtain ⟨hs1, hs2⟩ := List.mem_filter.mp hs
        obtain ⟨a1, a2, a3⟩ := (ih s).mp hs1
        rw [Bool.and_eq_true, decide_eq_true_eq, Bool.not_eq_true', decide_eq_false_iff_not] at hs2
        refine ⟨by rw [List.length_append, List.length_singleton]; omega, .inr ⟨s, rfl, a2⟩, fun d hd => ?_⟩
        rcases List.mem_append.mp hd with h | h
        · exact a3 d h
        · rw [List.mem_singleton.mp h]; exact hs2.2
    · rintro ⟨h1, h2 | ⟨s, rfl, h2⟩, h3⟩
      · exact .inl ⟨h1, h2, h3⟩
      · rw [List.length_append, List.length_singleton] at h1
        refine .inr (List.mem_map.mpr ⟨s, List.mem_filter.mpr ⟨(ih s).mpr ⟨by omega, h2, fun d hd => h3 d (List.mem_append_left _ hd)⟩, ?_⟩, rfl⟩)
        rw [Bool.and_eq_true, decide_eq_true_eq, Bool.not_eq_true', decide_eq_false_iff_not]
        exact ⟨by omega, h3 c (List.mem_append_right _ (List.mem_singleton.mpr rfl))⟩
theorem qfold_len (m : Nat) (x : List Nat) : (qfold m x).length ≤ 2 ^ x.length := by
  refine rev_ind (P := fun x => (qfold m x).length ≤ 2 ^ x.length) ?_ ?_ x
  · simp [qfold]
  · intro x c ih
    rw [qfold_snoc, qstep, List.length_append, List.length_map, List.length_append, List.length_singleton, Nat.pow_succ]
    have := List.length_filter_le (fun r : List Nat => decide (r.length < m) && !decide (c ∈ MK)) (qfold m x)
    omega
theorem qfold_zero (x : List Nat) : qfold 0 x = [[]] := by
  refine rev_ind (P := fun x => qfold 0 x = [[]]) ?_ ?_ x
  · rfl
  · intro x c ih; rw [qfold_snoc, ih]; simp [qstep]
def qlen (m : Nat) (x : List Nat) : List (List Nat) := (qfold m x).filter fun r => decide (r.length = m)
theorem qlen_small (m : Nat) (x : List Nat) (hx : x.length ≤ 6) : (qlen m x).length < 64 := by
  have h1 := qfold_len m x
  have h2 : 2 ^ x.length ≤ 64 := Nat.le_trans (Nat.pow_le_pow_right (by decide) hx) (by decide)
  unfold qlen
  by_cases hm : m = 0
  · subst hm
    rw [qfold_zero]; simp
  · have : ((qfold m x).filter fun r => decide (r.length = m)).length < (qfold m x).length := by
      rw [List.length_filter_lt_length_iff_exists]
      exact ⟨[], (qfold_mem m x []).mpr ⟨Nat.zero_le _, List.nil_sublist _, fun c hc => by cases hc⟩, by simpa using fun z : 0 = m => hm z.symm⟩
    omega
theorem qlen_mem (m : Nat) (x r : List Nat) : r ∈ qlen m x ↔ r.length = m ∧ List.Sublist r x ∧ ∀ c ∈ r, c ∉ MK := by
  unfold qlen
  rw [List.mem_filter, qfold_mem, decide_eq_true_eq]
  constructor
  · rintro ⟨⟨_, h2, h3⟩, h4⟩; exact ⟨h4, h2, h3⟩
  · rintro ⟨h1, h2, h3⟩; exact ⟨⟨by omega, h2, h3⟩, h1⟩
def qs (m : Nat) (x : List Nat) : List (List Nat) := (STW.srtS (STW.fmS ((qlen m x).map mkS) ((qlen m x).map mkS).length)).map fun s => s.cps.toList
theorem mk_cps (s : Str) : mkS s.cps.toList = s := by cases s; simp [mkS]
theorem qs_D (m : Nat) (x : List Nat) : (STW.srtS (STW.fmS ((qlen m x).map mkS) ((qlen m x).map mkS).length)).map D.str = (qs m x).map tx := by
  unfold qs
  rw [List.map_map]
  refine List.map_congr_left fun s _ => ?_
  show D.str s = D.str (mkS s.cps.toList)
  rw [mk_cps]
theorem qs_mem (m : Nat) (x r : List Nat) : r ∈ qs m x ↔ r.length = m ∧ List.Sublist r x ∧ ∀ c ∈ r, c ∉ MK := by
  rw [← qlen_mem]
  unfold qs
  rw [List.mem_map]
  constructor
  · rintro ⟨s, hs, rfl⟩
    have h := (STW.srtS_perm _).mem_iff.mp hs
    rw [STW.fmS_mem] at h
    obtain ⟨q, hq, rfl⟩ := List.mem_map.mp h
    simpa using hq
  · intro h
    refine ⟨mkS r, (STW.srtS_perm _).mem_iff.mpr ((STW.fmS_mem _ _).mpr (List.mem_map.mpr ⟨r, h, rfl⟩)), by simp⟩
theorem qs_up (m : Nat) (x : List Nat) : (qs m x).Pairwise fun a b => STW.leS (mkS a) (mkS b) := by
  unfold qs
  rw [List.pairwise_map]
  refine (STW.srtS_up _).imp fun {a b} h => ?_
  rw [mk_cps, mk_cps]; exact h
theorem find_least {R : List Nat → List Nat → Prop} (hr : ∀ a, R a a) (p : List Nat → Bool) : ∀ {l : List (List Nat)}, l.Pairwise R → ∀ {q}, l.find? p = some q → q ∈ l ∧ p q = true ∧ ∀ r ∈ l, p r = true → R q r := fun {l} => by
  induction l with
  | nil => intro _ q h; cases h
  | cons a l ih =>
    intro h q hq
    have h' := List.pairwise_cons.mp h
    rw [List.find?_cons] at hq
    cases z : p a with
    | true =>
      rw [z] at hq
      cases hq
      refine ⟨List.mem_cons_self, z, fun r hr' _ => ?_⟩
      rcases List.mem_cons.mp hr' with rfl | hr'
      · exact hr _
      · exact h'.1 r hr'
    | false =>
      rw [z] at hq
      obtain ⟨h1, h2, h3⟩ := ih h'.2 hq
      refine ⟨List.mem_cons_of_mem _ h1, h2, fun r hr' hp => ?_⟩
      rcases List.mem_cons.mp hr' with rfl | hr'
      · rw [z] at hp; cases hp
      · exact h3 r hr' hp
theorem sub_own {q x : List Nat} (s : List.Sublist q x) : (∀ c ∈ q, isQS c = true) → subsM ownS q x = true := by
  induction s with
  | slnil => intro _; rfl
  | @cons q x c _ ih =>
    intro h
    have := ih h
    cases q with
    | nil => rfl
    | cons a q =>
      simp only [subsM]
      split
      · exact subsM_tail ownS _ _ _ this
      · exact this
  | @cons_cons q x c _ ih =>
    intro h
    have hc : c ∈ ownS c := by unfold ownS; rw [if_pos (h c List.mem_cons_self)]; simp
    simp only [subsM, hc, if_true]
    exact ih fun d hd => h d (List.mem_cons_of_mem _ hd)
theorem meet_iff : ∀ a, isQS a = true → ∀ c, c < 128 → (a ∈ meetS c ↔ meetC a c = true) := by
  have h : ∀ c, c < 128 → ∀ a, a < 128 → isQS a = true → (decide (a ∈ meetS c) = meetC a c) := by decide +kernel
  intro a ha c hc
  have ha2 : a < 128 := by
    unfold isQS at ha
    simp only [Bool.or_eq_true, decide_eq_true_eq] at ha
    omega
  have := h c hc a ha2 ha
  rw [← this, decide_eq_true_eq]
theorem subs_eq : ∀ (x q : List Nat), (∀ a ∈ q, isQS a = true) → (∀ c ∈ x, c < 128) → subsM meetS q x = subs q x := fun x => by
  induction x with
  | nil =>
    intro q _ _
    cases q <;> rfl
  | cons c x ih =>
    intro q hq hx
    cases q with
    | nil => rfl
    | cons a q =>
      simp only [subsM, subs]
      have := meet_iff a (hq a List.mem_cons_self) c (hx c List.mem_cons_self)
      have i1 := ih q (fun b hb => hq b (List.mem_cons_of_mem _ hb)) fun d hd => hx d (List.mem_cons_of_mem _ hd)
      have i2 := ih (a :: q) hq fun d hd => hx d (List.mem_cons_of_mem _ hd)
      by_cases z : meetC a c = true
      · rw [if_pos (this.mpr z), if_pos z, i1]
      · rw [if_neg (fun y => z (this.mp y)), if_neg z, i2]
def Nm2 (x : List Nat) : Prop := x.length ≤ 6 ∧ ∀ c ∈ x, c ∈ NS2
theorem Nm2.nml {x : List Nat} (h : Nm2 x) : NmL x := ⟨by have := h.1; omega, fun c hc => (ns2_q c (h.2 c hc)).1⟩
theorem q_of {x r : List Nat} (hx : Nm2 x) {m : Nat} (h : r ∈ qs m x) : r.length = m ∧ List.Sublist r x ∧ ∀ c ∈ r, isQS c = true := by
  obtain ⟨h1, h2, h3⟩ := (qs_mem m x r).mp h
  exact ⟨h1, h2, fun c hc => (ns2_q c (hx.2 c (h2.subset hc))).2.mpr (h3 c hc)⟩
theorem qs_own {x : List Nat} (hx : Nm2 x) (m : Nat) (r : List Nat) : r ∈ qs m x ↔ r.length = m ∧ subsM ownS r x = true := by
  constructor
  · intro h
    obtain ⟨h1, h2, h3⟩ := q_of hx h
    exact ⟨h1, sub_own h2 h3⟩
  · rintro ⟨h1, h2⟩
    obtain ⟨h3, h4⟩ := own_sub h2
    exact (qs_mem m x r).mpr ⟨h1, h3, fun c hc => (ns2_q c (hx.2 c (h3.subset hc))).2.mp (h4 c hc)⟩
def noneF (O : List (List Nat)) (q : List Nat) : Bool := (O.filter fun o => subs q o).isEmpty
theorem cnt_one {A B : List (List Nat)} {x q : List Nat} (h : subsM meetS q x = true) (hq : ∀ a ∈ q, isQS a = true) (hA : ∀ y ∈ A ++ B, Nm2 y) : cntq (A ++ x :: B) q = 1 ↔ noneF (A ++ B) q = true := by
  unfold cntq noneF
  rw [List.countP_append, List.countP_cons, if_pos h, List.isEmpty_iff, List.filter_eq_nil_iff]
  have e : ∀ y ∈ A ++ B, subsM meetS q y = subs q y := fun y hy => subs_eq y q hq fun c hc => (ns2_q c ((hA y hy).2 c hc)).1
  constructor
  · intro z y hy
    have z1 : A.countP (fun y => subsM meetS q y) = 0 := by omega
    have z2 : B.countP (fun y => subsM meetS q y) = 0 := by omega
    rw [List.countP_eq_zero] at z1 z2
    rw [← e y hy]
    rcases List.mem_append.mp hy with h | h
    · exact z1 y h
    · exact z2 y h
  · intro z
    have z1 : A.countP (fun y => subsM meetS q y) = 0 := List.countP_eq_zero.mpr fun y hy => by rw [e y (List.mem_append_left _ hy)]; exact z y (List.mem_append_left _ hy)
    have z2 : B.countP (fun y => subsM meetS q y) = 0 := List.countP_eq_zero.mpr fun y hy => by rw [e y (List.mem_append_right _ hy)]; exact z y (List.mem_append_right _ hy)
    omega
theorem find_cands {A B : List (List Nat)} {x : List Nat} (hX : ∀ y ∈ A ++ x :: B, Nm2 y) (m : Nat) : ((qs m x).find? (noneF (A ++ B))).map mkS = minO (cands (A ++ x :: B) x m) := by
  have hxm : x ∈ A ++ x :: B := List.mem_append_right _ List.mem_cons_self
  have hx := hX x hxm
  have hO : ∀ y ∈ A ++ B, Nm2 y := fun y hy => hX y (by
    rcases List.mem_append.mp hy with h | h
    · exact List.mem_append_left _ h
    · exact List.mem_append_right _ (List.mem_cons_of_mem _ h))
  have mem : ∀ r, r ∈ cands (A ++ x :: B) x m ↔ r ∈ qs m x ∧ noneF (A ++ B) r = true := fun r => by
    rw [cands_mem _ _ hxm, qs_own hx]
    constructor
    · rintro ⟨h1, h2, h3⟩
      exact ⟨⟨h1, h2⟩, (cnt_one (subsM_mono ownS meetS own_meet x r h2) (own_sub h2).2 hO).mp h3⟩
    · rintro ⟨⟨h1, h2⟩, h3⟩
      exact ⟨h1, h2, (cnt_one (subsM_mono ownS meetS own_meet x r h2) (own_sub h2).2 hO).mpr h3⟩
  unfold minO
  cases hf : (qs m x).find? (noneF (A ++ B)) with
  | none =>
    rw [if_pos]
    · rfl
    · refine List.eq_nil_iff_forall_not_mem.mpr fun r hr => ?_
      obtain ⟨h1, h2⟩ := (mem r).mp hr
      have := List.find?_eq_none.mp hf r h1
      exact this h2
  | some q =>
    obtain ⟨h1, h2, h3⟩ := find_least (fun a => STW.lc_irr _) _ (qs_up m x) hf
    have hq := (mem q).mpr ⟨h1, h2⟩
    have hne : cands (A ++ x :: B) x m ≠ [] := fun z => by rw [z] at hq; cases hq
    rw [if_neg hne]
    obtain ⟨r, hr, e, hle⟩ := mn_mem hne
    obtain ⟨r1, r2⟩ := (mem r).mp hr
    rw [e]
    show some (mkS q) = some (mkS r)
    rw [STW.leS_anti (h3 r r1 r2) (hle q hq)]
def dueQ (x : List Nat) (O : List (List Nat)) (n : Nat) : Option (List Nat) := (List.range n).findSome? fun m => (qs m x).find? (noneF O)
theorem due_succ (x : List Nat) (O : List (List Nat)) (n : Nat) : dueQ x O (n + 1) = (dueQ x O n).or ((qs n x).find? (noneF O)) := by
  unfold dueQ
  rw [List.range_succ, List.findSome?_append]
  simp
theorem due_tell {A B : List (List Nat)} {x : List Nat} (hX : ∀ y ∈ A ++ x :: B, Nm2 y) (n : Nat) : (dueQ x (A ++ B) n).map mkS = tellUp (A ++ x :: B) x n := by
  induction n with
  | zero => rfl
  | succ n ih =>
    rw [due_succ, tellUp_succ, ← ih, ← find_cands hX n]
    cases dueQ x (A ++ B) n <;> rfl
theorem due_some {x q : List Nat} {O : List (List Nat)} {n : Nat} (h : dueQ x O n = some q) : ∃ m, m < n ∧ q ∈ qs m x ∧ noneF O q = true := by
  unfold dueQ at h
  obtain ⟨m, hm, h2⟩ := List.exists_of_findSome?_eq_some h
  exact ⟨m, List.mem_range.mp hm, List.mem_of_find?_eq_some h2, List.find?_some h2⟩
end Law
set_option Elab.async false
set_option linter.all false
set_option maxHeartbeats 1000000
namespace Law
open PySem PySem.Spec PyProof.Rows L2 FD
theorem addL {a b : List D} (h : a.length + b.length ≤ 1000000) : addD (.lst a) (.lst b) = .ok (.lst (a ++ b)) := by
  show (if _ then Rs.ok (D.lst _) else Rs.no) = _
  rw [if_pos (by rw [sizeLine_v]; omega)]
theorem map_rng {α : Type} (f : Nat → α) (x : List Nat) : x.map f = (List.range x.length).map fun k => f (x.getD k 0) := by
  apply List.ext_getElem?
  intro i
  rw [List.getElem?_map, List.getElem?_map]
  by_cases hi : i < x.length
  · rw [List.getElem?_range hi, List.getElem?_eq_getElem hi]; simp [hi]
  · rw [List.getElem?_eq_none (by simpa using hi), List.getElem?_eq_none (by simpa using hi)]; rfl
theorem take_next (x : List Nat) (k : Nat) (h : k < x.length) : x.take (k + 1) = x.take k ++ [x.getD k 0] := by
  rw [List.take_succ, List.getElem?_eq_getElem h]
  simp [h]
theorem queries_ok (x : List Nat) (m : Nat) (hx : Nm2 x) (hm : m ≤ 100) : m__law_queries [tx x, .int (m : Int)] = .ok (.lst ((qs m x).map tx)) := by
  have st : startD 4 [tx x, .int (m : Int)] = [some (.val (tx x)), some (.val (.int (m : Int))), none, none] := rfl
  have hlen : ∀ k, (qfold m (x.take k)).length ≤ 64 := fun k => by
    have h1 := qfold_len m (x.take k)
    have h2 : (x.take k).length ≤ 6 := by rw [List.length_take]; have := hx.1; omega
    exact Nat.le_trans h1 (Nat.le_trans (Nat.pow_le_pow_right (by decide) h2) (by decide))
  have hrl : ∀ k, ∀ r ∈ qfold m (x.take k), r.length ≤ 100 := fun k r hr => by
    have := ((qfold_mem m (x.take k) r).mp hr).1; omega
  unfold m__law_queries b__law_queries
  rw [runF_ap, st, seq_nx (set_nx (lst1e (fa := eC (.str "")) rfl))]
  simp only [List.set_cons_succ, List.set_cons_zero]
  have it : iAny (eVar 0) [some (.val (tx x)), some (.val (.int (m : Int))), some (.val (.lst [.str ""])), none] = .ok ((List.range x.length).map fun k => signD (x.getD k 0)) := by
    rw [← map_rng signD x, iAny_ap, var_ok (d := tx x) rfl, Rs.bind_ok]
    show Rs.ok (signsD _) = _
    rw [tx_signs]
  obtain ⟨τ', lp, s3, rfl⟩ := loop_inv0 (set := gNm 3) (body := (sSet 2 (eOp addD (eVar 2) (fun τ => ((eComp 1 [3, 1] (iAny (eVar 2)) (gNm 0) (tAndD (FD.tB (eOp ltI (eBlt lenD (aCons (eVar 0) aNil)) (eVar 2))) (tNotD (tTru (eCall m__law_mark (aCons (eVar 1) aNil))))) (eOp addD (eVar 0) (eVar 1))) τ).bind fun ds => .ok (.lst ds))))) (fun k => signD (x.getD k 0))
    (fun k τ => ∃ s3, τ = [some (.val (tx x)), some (.val (.int (m : Int))), some (.val (.lst ((qfold m (x.take k)).map tx))), s3]) x.length [some (.val (tx x)), some (.val (.int (m : Int))), some (.val (.lst [.str ""])), none] ⟨none, rfl⟩ fun k τ hk hI => by
      obtain ⟨s3, rfl⟩ := hI
      refine ⟨[some (.val (tx x)), some (.val (.int (m : Int))), some (.val (.lst ((qfold m (x.take k)).map tx))), some (.val (signD (x.getD k 0)))], [some (.val (tx x)), some (.val (.int (m : Int))), some (.val (.lst ((qfold m (x.take (k + 1))).map tx))), some (.val (signD (x.getD k 0)))], rfl, ?_, _, rfl⟩
      generalize hc : x.getD k 0 = c
      have cf := comp_filter (set := gNm 0) (ft := tAndD (FD.tB (eOp ltI (eBlt lenD (aCons (eVar 0) aNil)) (eVar 2))) (tNotD (tTru (eCall m__law_mark (aCons (eVar 1) aNil))))) (fe := eOp addD (eVar 0) (eVar 1)) (τ := [none, some (.val (signD c)), some (.val (.int (m : Int)))]) tx (fun r => tx (r ++ [c])) (fun r => decide (r.length < m) && !decide (c ∈ MK)) (qfold m (x.take k)) fun r hr => by
        refine ⟨[some (.val (tx r)), some (.val (signD c)), some (.val (.int (m : Int)))], rfl, ?_, ?_⟩
        · have e1 : FD.tB (eOp ltI (eBlt lenD (aCons (eVar 0) aNil)) (eVar 2)) [some (.val (tx r)), some (.val (signD c)), some (.val (.int (m : Int)))] = .ok (decide (r.length < m)) := by
            refine tB_ok (op2 (blt1 (var_ok rfl) (tx_len r (by have := hrl k r hr; omega))) (var_ok rfl) ?_)
            rw [ltI_i]
            congr 2
            exact decide_eq_decide.mpr (by omega)
          refine and_b e1 fun _ => ?_
          rw [tNot_ap, tru_ok (call1 (var_ok rfl) (mark_ok c)), Rs.bind_ok]
        · exact op2 (var_ok rfl) (var_ok rfl) (tx_snoc r c (by have := hrl k r hr; omega))
      have hl2 : (((qfold m (x.take k)).filter fun r => decide (r.length < m) && !decide (c ∈ MK)).map fun r => tx (r ++ [c])).length ≤ 64 := by
        rw [List.length_map]
        exact Nat.le_trans (List.length_filter_le _ _) (hlen k)
      have ec := comp_ok (k := 1) (idx := [3, 1]) (fi := iAny (eVar 2)) (τ := [some (.val (tx x)), some (.val (.int (m : Int))), some (.val (.lst ((qfold m (x.take k)).map tx))), some (.val (signD c))]) rfl cf (by omega)
      rw [set_nx (op2 (var_ok rfl) (b := .lst (((qfold m (x.take k)).filter fun r => decide (r.length < m) && !decide (c ∈ MK)).map fun r => tx (r ++ [c]))) (by simp only [ec, Rs.bind_ok]) (addL (by rw [List.length_map]; have := hlen k; omega)))]
      rw [take_next x k hk, qfold_snoc, hc]
      unfold qstep
      rw [List.map_append, List.map_map]
      rfl
  rw [seq_nx (by rw [sFor_ap, it, Fl.of_ok]; exact lp), List.take_length]
  have cf := comp_filter (set := gNm 0) (ft := FD.tB (eOp eqD (eBlt lenD (aCons (eVar 0) aNil)) (eVar 1))) (fe := eVar 0) (τ := [none, some (.val (.int (m : Int)))]) tx tx (fun r => decide (r.length = m)) (qfold m x) fun r hr => by
    refine ⟨[some (.val (tx r)), some (.val (.int (m : Int)))], rfl, ?_, var_ok rfl⟩
    refine tB_ok (op2 (blt1 (var_ok rfl) (tx_len r (by have := ((qfold_mem m x r).mp hr).1; omega))) (var_ok rfl) ?_)
    rw [eqD_i]
    congr 2
    rw [Bool.eq_iff_iff]
    simp; omega
  have hq := qlen_small m x hx.1
  have ec := comp_ok (k := 1) (idx := [1]) (fi := iAny (eVar 2)) (τ := [some (.val (tx x)), some (.val (.int (m : Int))), some (.val (.lst ((qfold m x).map tx))), s3]) rfl cf (by rw [List.length_map]; show (qlen m x).length ≤ _; omega)
  have e7 : setS [.lst ((qlen m x).map tx)] = .ok ((qs m x).map tx) := by
    unfold setS
    dsimp only
    rw [strs_tx]
    dsimp only
    rw [if_pos (by rw [List.length_map]; exact hq), qs_D]
  rw [ret_rt (d := .lst ((qs m x).map tx)) (by
    show (((aCons (fun τ => ((eComp 1 [1] (iAny (eVar 2)) (gNm 0) (FD.tB (eOp eqD (eBlt lenD (aCons (eVar 0) aNil)) (eVar 1))) (eVar 0)) τ).bind fun ds => .ok (.lst ds)) aNil) [some (.val (tx x)), some (.val (.int (m : Int))), some (.val (.lst ((qfold m x).map tx))), s3]).bind setS).bind (fun ds => Rs.ok (D.lst ds)) = _
    rw [arg1 (a := .lst ((qlen m x).map tx)) (by simp only [ec, Rs.bind_ok]; rfl), Rs.bind_ok, e7, Rs.bind_ok])]
  rfl
theorem bools_bl : ∀ bs : List Bool, boolsOf (bs.map D.bl) = some bs := fun bs => by
  induction bs with
  | nil => rfl
  | cons b r ih => simp only [List.map_cons, boolsOf, ih]; rfl
theorem isq_ok (q : List Nat) (hq : q.length ≤ 8) : m_is_query [tx q] = .ok (.bl (q.all isQS)) := by
  have st : startD 1 [tx q] = [some (.val (tx q))] := rfl
  have cm := comp_map (set := gNm 0) (fe := eCall m_is_query_sign (aCons (eVar 0) aNil)) (τ := [none]) signD D.bl isQS q fun a _ => ⟨_, gNm_ap, by simp only [eVar_ap, aNil_ap, aCons_ap, eCall_ap, List.getElem?_cons_zero, List.set_cons_zero, getV_val, Rs.bind_ok, noEx_ok, qsign_ok]⟩
  have hn : ¬ (8 : Int) < (q.length : Int) := by omega
  have tz : tau0 1 [] [some (.val (tx q))] = [none] := rfl
  have hz : ((q.map isQS).map D.bl).length ≤ sizeLine := by rw [sizeLine_v, List.length_map, List.length_map]; omega
  unfold m_is_query b_is_query
  rw [runF_ap, st]
  simp only [sSeq_ap, sIf_ap, sRet_ap, sNext_ap, iAny_ap, iter_str, tB_ap, tTru_ap, tNot_ap, eOp_ap, eVar_ap, eC_ap, aNil_ap, aCons_ap, eBlt_ap, List.getElem?_cons_zero, getV_val, Rs.bind_ok, Fl.of_ok, thn_nx, flRes_rt, boolOf_bl, truD_bl, gtD_i, if_true, Bool.false_eq_true, if_false, Bool.not_true, show isiD [tx q, .raw (.ty "str")] = .ok (.bl true) from rfl, tx_len q (by omega), hn, decide_false, eComp, tz, tx_signs, cm, hz, allD, bools_bl]
  simp
end Law
set_option Elab.async false
set_option linter.all false
set_option maxHeartbeats 1000000
namespace Law
open PySem PySem.Spec PyProof.Rows L2 FD
def dueD (o : Option (List Nat)) : D := optS (o.map mkS)
def stepF (O : List (List Nat)) (b : Option (List Nat)) (q : List Nat) : Option (List Nat) := if b.isNone = true ∧ noneF O q = true then some q else b
theorem fold_step (O : List (List Nat)) : ∀ (l : List (List Nat)) (b : Option (List Nat)), l.foldl (stepF O) b = b.or (l.find? (noneF O)) := fun l => by
  induction l with
  | nil => intro b; cases b <;> rfl
  | cons q l ih =>
    intro b
    rw [List.foldl_cons, ih]
    unfold stepF
    rw [List.find?_cons]
    cases b with
    | some v => rfl
    | none =>
      cases h : noneF O q <;> rfl
theorem gd_txs {X : List (List Nat)} (h : ∀ x ∈ X, ∀ c ∈ x, c < 128) : gd 1 (.lst (X.map tx)) := fun d hd => by
  obtain ⟨x, hx, rfl⟩ := List.mem_map.mp hd
  exact gd_str (strOk_of2 x (h x hx))
where
  strOk_of2 (q : List Nat) (h : ∀ c ∈ q, c < 128) : PyData.strOk (mkS q) = true := by
    simp [PyData.strOk]
    intro c hc
    have := h c hc
    omega
theorem nm2_lt {x : List Nat} (h : Nm2 x) : ∀ c ∈ x, c < 128 := h.nml.2
theorem is_due (o : Option (List Nat)) : isD (dueD o) .non = .ok (.bl o.isNone) := by cases o <;> rfl
theorem isNot_due (o : Option (List Nat)) : isNotD (dueD o) .non = .ok (.bl o.isSome) := by cases o <;> rfl
def inB : FS := (sIf (tAndD (FD.tB (eOp isD (eVar 5) (eC .non))) (FD.tB (eOp eqD (fun τ => ((eComp 1 [7] (iAny (eVar 4)) (gNm 0) (tTru (eCall m_fits (aCons (eVar 1) (aCons (eVar 0) aNil)))) (eVar 0)) τ).bind fun ds => .ok (.lst ds)) (eLst aNil)))) (sSet 5 (eVar 7)) sNext)
theorem inB_ok {a0 a1 a2 a3 a6 : Option Sl} {O : List (List Nat)} {q : List Nat} (b : Option (List Nat)) (hO : ∀ o ∈ O, Nm2 o) (hl : O.length ≤ 100) (hq : ∀ c ∈ q, c < 128) (hql : q.length ≤ 100) :
    inB [a0, a1, a2, a3, some (.val (.lst (O.map tx))), some (.val (dueD b)), a6, some (.val (tx q))] = .nx [a0, a1, a2, a3, some (.val (.lst (O.map tx))), some (.val (dueD (stepF O b q))), a6, some (.val (tx q))] := by
  have cf := comp_filter (set := gNm 0) (ft := tTru (eCall m_fits (aCons (eVar 1) (aCons (eVar 0) aNil)))) (fe := eVar 0) (τ := [none, some (.val (tx q))]) tx tx (fun o => subs q o) O fun o ho => by
    refine ⟨[some (.val (tx o)), some (.val (tx q))], rfl, ?_, var_ok rfl⟩
    exact tru_ok (call2 (var_ok rfl) (var_ok rfl) (fits_ok q o (by omega) (by have := (hO o ho).1; omega) hq))
  have hfl : ((O.filter fun o => subs q o).map tx).length ≤ 100 := by
    rw [List.length_map]
    exact Nat.le_trans (List.length_filter_le _ _) hl
  have ec := comp_ok (k := 1) (idx := [7]) (fi := iAny (eVar 4)) (τ := [a0, a1, a2, a3, some (.val (.lst (O.map tx))), some (.val (dueD b)), a6, some (.val (tx q))]) rfl cf (by omega)
  have hg : gd 1 (.lst ((O.filter fun o => subs q o).map tx)) := gd_txs fun x hx => nm2_lt (hO x ((List.mem_filter.mp hx).1))
  have t : tAndD (FD.tB (eOp isD (eVar 5) (eC .non))) (FD.tB (eOp eqD (fun τ => ((eComp 1 [7] (iAny (eVar 4)) (gNm 0) (tTru (eCall m_fits (aCons (eVar 1) (aCons (eVar 0) aNil)))) (eVar 0)) τ).bind fun ds => .ok (.lst ds)) (eLst aNil))) [a0, a1, a2, a3, some (.val (.lst (O.map tx))), some (.val (dueD b)), a6, some (.val (tx q))] = .ok (b.isNone && noneF O q) := by
    refine and_b (tB_ok (op2 (var_ok rfl) rfl (is_due b))) fun _ => ?_
    refine tB_ok (op2 (a := .lst ((O.filter fun o => subs q o).map tx)) (by simp only [ec, Rs.bind_ok]) lst0 ?_)
    rw [eq_nil _ (gd_okD hg (by decide)).1]
    unfold noneF
    cases (O.filter fun o => subs q o) <;> rfl
  unfold inB stepF
  cases hb : (b.isNone && noneF O q) with
  | true =>
    rw [hb] at t
    rw [Bool.and_eq_true] at hb
    rw [if_t t, if_pos hb, set_nx (var_ok (d := tx q) rfl)]
    rfl
  | false =>
    rw [hb] at t
    have : ¬ (b.isNone = true ∧ noneF O q = true) := fun z => by rw [z.1, z.2] at hb; cases hb
    rw [if_n t, if_neg this]
def midB : FS := (sFor (iAny (eCall m__law_queries (aCons (eVar 3) (aCons (eVar 6) aNil)))) (gNm 7) inB)
theorem midB_ok {a0 a1 a2 a7 : Option Sl} {O : List (List Nat)} {x : List Nat} (m : Nat) (b : Option (List Nat)) (hx : Nm2 x) (hO : ∀ o ∈ O, Nm2 o) (hl : O.length ≤ 100) (hm : m ≤ 4) :
    ∃ a7', midB [a0, a1, a2, some (.val (tx x)), some (.val (.lst (O.map tx))), some (.val (dueD b)), some (.val (.int (m : Int))), a7] = .nx [a0, a1, a2, some (.val (tx x)), some (.val (.lst (O.map tx))), some (.val (dueD (b.or ((qs m x).find? (noneF O))))), some (.val (.int (m : Int))), a7'] := by
  have it : iAny (eCall m__law_queries (aCons (eVar 3) (aCons (eVar 6) aNil))) [a0, a1, a2, some (.val (tx x)), some (.val (.lst (O.map tx))), some (.val (dueD b)), some (.val (.int (m : Int))), a7] = .ok ((qs m x).map tx) := any_of (call2 (var_ok rfl) (var_ok rfl) (queries_ok x m hx (by omega)))
  obtain ⟨τ', lp, a7', rfl⟩ := loop_rel (set := gNm 7) (body := inB) tx (fun (b : Option (List Nat)) τ => ∃ a7, τ = [a0, a1, a2, some (.val (tx x)), some (.val (.lst (O.map tx))), some (.val (dueD b)), some (.val (.int (m : Int))), a7]) (stepF O) (qs m x) b _ ⟨a7, rfl⟩ fun q hq b τ hI => by
    obtain ⟨a7, rfl⟩ := hI
    obtain ⟨h1, h2, h3⟩ := q_of hx hq
    exact ⟨_, _, rfl, inB_ok b hO hl (fun c hc => nm2_lt hx c (h2.subset hc)) (by omega), _, rfl⟩
  rw [fold_step] at lp
  refine ⟨a7', ?_⟩
  unfold midB
  rw [sFor_ap, it, Fl.of_ok]
  exact lp
theorem cut_to (ds : List D) (i : Nat) (h : i ≤ ds.length) : FD.cutD ds none (some (i : Int)) = ds.take i := by
  unfold FD.cutD
  rw [HT.sIx_none, HT.sIx_nat, List.drop_zero, Nat.sub_zero, Nat.min_eq_left h]
theorem cut_from (ds : List D) (i : Nat) (h : i ≤ ds.length) : FD.cutD ds (some (i : Int)) none = ds.drop i := by
  unfold FD.cutD
  rw [HT.sIx_none, HT.sIx_nat, Nat.min_eq_left h]
  exact List.take_of_length_le (by rw [List.length_drop]; exact Nat.le_refl _)
def tBody : FS := (sSeq (sSet 4 (eOp addD (eSl (eVar 0) oNone (oSome (eVar 2))) (eSl (eVar 0) (oSome (eOp addD (eVar 2) (eC (.int 1)))) oNone)))
      (sSeq (sSet 5 (eC .non))
      (sSeq (sFor (iRg1 (aCons (eC (.int 4)) aNil)) (gNm 6) midB)
      (sSeq (sIf (tOrD (FD.tB (eOp neD (eOp ixD (eVar 1) (eVar 2)) (eVar 5))) (tAndD (FD.tB (eOp isNotD (eVar 5) (eC .non))) (tOrD (tNotD (tTru (eCall m_fits (aCons (eVar 5) (aCons (eVar 3) aNil))))) (tNotD (tTru (eCall m_is_query (aCons (eVar 5) aNil))))))) (sRet (eC (.bl false))) sNext)
      (sIf (tAndD (FD.tB (eOp inD (eVar 3) (eVar 4))) (FD.tB (eOp isNotD (eVar 5) (eC .non)))) (sRet (eC (.bl false))) sNext)))))
theorem or_b {f g : FT} {τ : DS} {b c : Bool} (h1 : f τ = .ok b) (h2 : b = false → g τ = .ok c) : tOrD f g τ = .ok (b || c) := by
  rw [tOr_ap, h1, Rs.bind_ok]
  cases b with
  | true => rfl
  | false => rw [if_neg (by simp), h2 rfl]; rfl
theorem not_b {f : FT} {τ : DS} {b : Bool} (h : f τ = .ok b) : tNotD f τ = .ok (!b) := by rw [tNot_ap, h, Rs.bind_ok]
theorem in_txs (x : List Nat) (O : List (List Nat)) (hx : ∀ c ∈ x, c < 128) (hO : ∀ o ∈ O, ∀ c ∈ o, c < 128) : ∃ b : Bool, inD (tx x) (.lst (O.map tx)) = .ok (.bl b) ∧ (b = true → x ∈ O) := by
  have h1 := gd_okD (gd_txs (X := [x]) fun y hy => by rw [List.mem_singleton.mp hy]; exact hx) (by decide)
  have h2 := (gd_okD (gd_txs hO) (by decide)).1
  have h3 : okD (tx x) = true := (gd_okD (gd_str (n := 0) (gd_txs.strOk_of2 x hx)) (by decide)).1
  refine ⟨(O.map tx).any fun y => eqvD y (tx x), ?_, fun h => ?_⟩
  · show (if okD (tx x) = true ∧ okD (.lst (O.map tx)) = true then _ else _) = _
    rw [if_pos ⟨h3, h2⟩]
  · obtain ⟨d, hd, he⟩ := List.any_eq_true.mp h
    obtain ⟨o, ho, rfl⟩ := List.mem_map.mp hd
    have : mkS o = mkS x := by simpa [eqvD, toPy, PyData.eqv] using he
    rw [← mkS_inj.mp this]; exact ho
theorem ne_due (o : Option (List Nat)) : neD (dueD o) (dueD o) = .ok (.bl false) := by
  cases o with
  | none => rfl
  | some q =>
    show neD (.str (mkS q)) (.str (mkS q)) = _
    rw [neD_s]; simp
theorem tBody_ok {X : List (List Nat)} (hX : ∀ x ∈ X, Nm2 x) (hn : X.length ≤ 50) (i : Nat) (hi : i < X.length) (a4 a5 a6 a7 : Option Sl) :
    ∃ a4' a5' a6' a7', tBody [some (.val (.lst (X.map tx))), some (.val (.lst (X.map fun x => optS (tellQ X x)))), some (.val (.int (i : Int))), some (.val (tx (X.getD i []))), a4, a5, a6, a7] = .nx [some (.val (.lst (X.map tx))), some (.val (.lst (X.map fun x => optS (tellQ X x)))), some (.val (.int (i : Int))), some (.val (tx (X.getD i []))), a4', a5', a6', a7'] := by
  have hx : Nm2 (X.getD i []) := by
    have : X.getD i [] = X[i] := by simp [hi]
    rw [this]; exact hX _ (List.getElem_mem hi)
  have hsp : X = X.take i ++ X.getD i [] :: X.drop (i + 1) := by
    have : X.getD i [] = X[i] := by simp [hi]
    rw [this, ← List.drop_eq_getElem_cons hi, List.take_append_drop]
  generalize hxx : X.getD i [] = x at hx hsp
  generalize hO : X.take i ++ X.drop (i + 1) = O
  have hOX : ∀ o ∈ O, o ∈ X := fun o ho => by
    rw [← hO] at ho
    rcases List.mem_append.mp ho with h | h
    · exact List.mem_of_mem_take h
    · exact List.mem_of_mem_drop h
  have hO2 : ∀ o ∈ O, Nm2 o := fun o ho => hX o (hOX o ho)
  have hOl : O.length ≤ 100 := by
    rw [← hO, List.length_append, List.length_take, List.length_drop]; omega
  have e4 : eOp addD (eSl (eVar 0) oNone (oSome (eVar 2))) (eSl (eVar 0) (oSome (eOp addD (eVar 2) (eC (.int 1)))) oNone) [some (.val (.lst (X.map tx))), some (.val (.lst (X.map fun x => optS (tellQ X x)))), some (.val (.int (i : Int))), some (.val (tx x)), a4, a5, a6, a7] = .ok (.lst (O.map tx)) := by
    refine op2 (a := .lst ((X.take i).map tx)) (b := .lst ((X.drop (i + 1)).map tx)) ?_ ?_ ?_
    · show Rs.ok (D.lst (FD.cutD (X.map tx) none (some (i : Int)))) = _
      rw [cut_to _ i (by rw [List.length_map]; omega), List.map_take]
    · show Rs.ok (D.lst (FD.cutD (X.map tx) (some ((i : Int) + 1)) none)) = _
      rw [show ((i : Int) + 1) = ((i + 1 : Nat) : Int) by push_cast; rfl, cut_from _ (i + 1) (by rw [List.length_map]; omega), List.map_drop]
    · rw [addL (by rw [List.length_map, List.length_map, List.length_take, List.length_drop]; omega), ← List.map_append, hO]
  have it : iRg1 (aCons (eC (.int 4)) aNil) [some (.val (.lst (X.map tx))), some (.val (.lst (X.map fun x => optS (tellQ X x)))), some (.val (.int (i : Int))), some (.val (tx x)), some (.val (.lst (O.map tx))), some (.val .non), a6, a7] = .ok ((List.range 4).map fun (k : Nat) => D.int (0 + k)) := rng_ok (n := 4) rfl (by decide)
  obtain ⟨τ', lp, a6', a7', rfl⟩ := loop_inv0 (set := gNm 6) (body := midB) (fun (k : Nat) => D.int (0 + k)) (fun k τ => ∃ a6 a7, τ = [some (.val (.lst (X.map tx))), some (.val (.lst (X.map fun x => optS (tellQ X x)))), some (.val (.int (i : Int))), some (.val (tx x)), some (.val (.lst (O.map tx))), some (.val (dueD (dueQ x O k))), a6, a7]) 4 [some (.val (.lst (X.map tx))), some (.val (.lst (X.map fun x => optS (tellQ X x)))), some (.val (.int (i : Int))), some (.val (tx x)), some (.val (.lst (O.map tx))), some (.val .non), a6, a7] ⟨a6, a7, rfl⟩ fun k τ hk hI => by
    obtain ⟨a6, a7, rfl⟩ := hI
    obtain ⟨a7', h⟩ := midB_ok (a0 := some (.val (.lst (X.map tx)))) (a1 := some (.val (.lst (X.map fun x => optS (tellQ X x))))) (a2 := some (.val (.int (i : Int)))) (a7 := a7) k (dueQ x O k) hx hO2 hOl (by omega)
    rw [← due_succ] at h
    exact ⟨_, _, by rw [gNm_ap, Int.zero_add]; rfl, h, _, _, rfl⟩
  have hdt : dueD (dueQ x O 4) = optS (tellQ X x) := by
    unfold dueD tellQ
    rw [← hO]
    have := due_tell (A := X.take i) (B := X.drop (i + 1)) (x := x) (by rw [← hsp]; exact hX) 4
    rw [this, ← hsp]
  generalize hd : dueQ x O 4 = due at lp hdt
  have hgood : ∀ q, due = some q → subs q x = true ∧ q.all isQS = true ∧ q.length ≤ 3 ∧ (∀ c ∈ q, c < 128) ∧ x ∉ O := fun q hq => by
    rw [hq] at hd
    obtain ⟨m, hm, h1, h2⟩ := due_some hd
    obtain ⟨g1, g2, g3⟩ := q_of hx h1
    have hs : subs q x = true := by
      rw [← subs_eq x q g3 (nm2_lt hx)]
      exact subsM_mono ownS meetS own_meet x q (sub_own g2 g3)
    refine ⟨hs, by rw [List.all_eq_true]; exact g3, by omega, fun c hc => nm2_lt hx c (g2.subset hc), fun hxO => ?_⟩
    unfold noneF at h2
    rw [List.isEmpty_iff, List.filter_eq_nil_iff] at h2
    exact h2 x hxO hs
  refine ⟨some (.val (.lst (O.map tx))), some (.val (dueD due)), a6', a7', ?_⟩
  unfold tBody
  rw [seq_nx (set_nx e4)]
  simp only [List.set_cons_succ, List.set_cons_zero]
  rw [seq_nx (set_nx (d := .non) rfl)]
  simp only [List.set_cons_succ, List.set_cons_zero]
  rw [seq_nx (by rw [sFor_ap, it, Fl.of_ok]; exact lp)]
  have hix : ixD (.lst (X.map fun x => optS (tellQ X x))) (.int (i : Int)) = .ok (dueD due) := by
    refine ixD_lst (atI_of (by omega) ?_)
    rw [Int.toNat_natCast, List.getElem?_map, List.getElem?_eq_getElem hi]
    have : X[i] = x := by rw [← hxx]; simp [hi]
    rw [this, hdt]; rfl
  have t1 : tOrD (FD.tB (eOp neD (eOp ixD (eVar 1) (eVar 2)) (eVar 5))) (tAndD (FD.tB (eOp isNotD (eVar 5) (eC .non))) (tOrD (tNotD (tTru (eCall m_fits (aCons (eVar 5) (aCons (eVar 3) aNil))))) (tNotD (tTru (eCall m_is_query (aCons (eVar 5) aNil)))))) [some (.val (.lst (X.map tx))), some (.val (.lst (X.map fun x => optS (tellQ X x)))), some (.val (.int (i : Int))), some (.val (tx x)), some (.val (.lst (O.map tx))), some (.val (dueD due)), a6', a7'] = .ok false := by
    rw [or_b (b := false) (c := false) (tB_ok (op2 (op2 (var_ok rfl) (var_ok rfl) hix) (var_ok rfl) (ne_due due))) fun _ => ?_]
    · rfl
    cases due with
    | none => rw [and_b (b := false) (c := false) (tB_ok (op2 (var_ok rfl) rfl (isNot_due none))) fun h => by cases h]; rfl
    | some q =>
      obtain ⟨g1, g2, g3, g4, _⟩ := hgood q rfl
      rw [and_b (b := true) (c := false) (tB_ok (op2 (var_ok rfl) rfl (isNot_due (some q)))) fun _ => ?_]
      · rfl
      rw [or_b (b := false) (c := false) (not_b (b := true) (tru_ok (call2 (var_ok (d := tx q) rfl) (var_ok rfl) (by rw [fits_ok q x (by omega) (by have := hx.1; omega) g4, g1])))) fun _ => not_b (b := true) (tru_ok (call1 (var_ok (d := tx q) rfl) (by rw [isq_ok q (by omega), g2])))]
      rfl
  rw [seq_nx (if_n t1)]
  obtain ⟨b, hb1, hb2⟩ := in_txs x O (nm2_lt hx) fun o ho => nm2_lt (hO2 o ho)
  have t2 : tAndD (FD.tB (eOp inD (eVar 3) (eVar 4))) (FD.tB (eOp isNotD (eVar 5) (eC .non))) [some (.val (.lst (X.map tx))), some (.val (.lst (X.map fun x => optS (tellQ X x)))), some (.val (.int (i : Int))), some (.val (tx x)), some (.val (.lst (O.map tx))), some (.val (dueD due)), a6', a7'] = .ok false := by
    rw [and_b (b := b) (c := due.isSome) (tB_ok (op2 (var_ok rfl) (var_ok rfl) hb1)) fun _ => tB_ok (op2 (var_ok rfl) rfl (isNot_due due))]
    cases due with
    | none => cases b <;> rfl
    | some q =>
      have := (hgood q rfl).2.2.2.2
      cases b with
      | false => rfl
      | true => exact absurd (hb2 rfl) this
  rw [if_n t2]
theorem tells_ok (X : List (List Nat)) (hX : ∀ x ∈ X, Nm2 x) (hn : X.length ≤ 50) : m__law_tells [.lst (X.map tx)] = .ok (.bl true) := by
  have st : startD 8 [.lst (X.map tx)] = [some (.val (.lst (X.map tx))), none, none, none, none, none, none, none] := rfl
  have tX := telling_ok X (fun x hx => (hX x hx).nml) (by omega)
  unfold m__law_tells b__law_tells
  rw [runF_ap, st, seq_nx (set_nx (call1 (var_ok rfl) tX))]
  simp only [List.set_cons_succ, List.set_cons_zero]
  have t1 : tOrD (tNotD (tTru (eBlt isiD (aCons (eVar 1) (aCons (eC (.raw (.ty "list"))) aNil))))) (FD.tB (eOp neD (eBlt lenD (aCons (eVar 1) aNil)) (eBlt lenD (aCons (eVar 0) aNil)))) [some (.val (.lst (X.map tx))), some (.val (.lst (X.map fun x => optS (tellQ X x)))), none, none, none, none, none, none] = .ok false := by
    rw [or_b (b := false) (c := false) (not_b (b := true) (tru_ok (by rw [eBlt_ap, arg2 (var_ok rfl) rfl, Rs.bind_ok]; rfl))) fun _ => tB_ok (op2 (blt1 (var_ok rfl) lenD_lst) (blt1 (var_ok rfl) lenD_lst) (by rw [neD_i, List.length_map, List.length_map]; simp))]
    rfl
  rw [seq_nx (if_n t1)]
  obtain ⟨τ', lp, a2, a3, a4, a5, a6, a7, rfl⟩ := loop_inv0 (set := gPr 2 3) (body := tBody) (fun (k : Nat) => D.tup [.int (k : Int), tx (X.getD k [])]) (fun k τ => ∃ a2 a3 a4 a5 a6 a7, τ = [some (.val (.lst (X.map tx))), some (.val (.lst (X.map fun x => optS (tellQ X x)))), a2, a3, a4, a5, a6, a7]) X.length [some (.val (.lst (X.map tx))), some (.val (.lst (X.map fun x => optS (tellQ X x)))), none, none, none, none, none, none] ⟨_, _, _, _, _, _, rfl⟩ fun k τ hk hI => by
    obtain ⟨a2, a3, a4, a5, a6, a7, rfl⟩ := hI
    obtain ⟨a4', a5', a6', a7', h⟩ := tBody_ok hX hn k hk a4 a5 a6 a7
    exact ⟨_, _, rfl, h, _, _, _, _, _, _, rfl⟩
  have fr : sFor (iEn (aCons (eVar 0) aNil)) (gPr 2 3) tBody [some (.val (.lst (X.map tx))), some (.val (.lst (X.map fun x => optS (tellQ X x)))), none, none, none, none, none, none] = .nx [some (.val (.lst (X.map tx))), some (.val (.lst (X.map fun x => optS (tellQ X x)))), a2, a3, a4, a5, a6, a7] := by
    rw [sFor_ap, en_ok2 (X := X) (var_ok rfl), Fl.of_ok]; exact lp
  unfold tBody midB inB at fr
  rw [seq_nx fr]
  have e1 : eOp neD (eVar 0) (eLst aNil) [some (.val (.lst (X.map tx))), some (.val (.lst (X.map fun x => optS (tellQ X x)))), a2, a3, a4, a5, a6, a7] = .ok (.bl (!(X.map tx).isEmpty)) := op2 (var_ok rfl) lst0 (ne_nil _ (gd_okD (gd_txs fun x hx => nm2_lt (hX x hx)) (by decide)).1)
  rw [ret_rt (d := .bl true) (by
    rw [eOr_ap, e1, Rs.bind_ok, truD_bl, Rs.bind_ok]
    cases X with
    | cons x X => rfl
    | nil =>
      rw [if_neg (by simp)]
      exact op2 (var_ok rfl) lst0 (eq_nil [] okD_nil))]
  rfl
end Law
set_option Elab.async false
set_option linter.all false
set_option maxHeartbeats 1000000
namespace Law
open PySem PySem.Spec PyProof.Rows L2 FD
def KN : List (List (List Nat)) := [[[97, 98, 99], [97, 98], [98, 99], [97, 99]], [[97, 98, 99, 100], [97, 98, 99], [97, 98, 100], [97, 99, 100], [98, 99, 100]], [[65, 66], [97, 98], [65, 98]], [[97, 46, 98], [97, 98, 49], [97]]]
theorem kn_ok : ∀ X ∈ KN, X.length ≤ 50 ∧ ∀ x ∈ X, x.length ≤ 6 ∧ ∀ c ∈ x, c ∈ NS2 := by decide
theorem s_abc : ("abc" : Str) = mkS [97, 98, 99] := by decide +kernel
theorem s_ab : ("ab" : Str) = mkS [97, 98] := by decide +kernel
theorem s_bc : ("bc" : Str) = mkS [98, 99] := by decide +kernel
theorem s_ac : ("ac" : Str) = mkS [97, 99] := by decide +kernel
theorem s_abcd : ("abcd" : Str) = mkS [97, 98, 99, 100] := by decide +kernel
theorem s_abd : ("abd" : Str) = mkS [97, 98, 100] := by decide +kernel
theorem s_acd : ("acd" : Str) = mkS [97, 99, 100] := by decide +kernel
theorem s_bcd : ("bcd" : Str) = mkS [98, 99, 100] := by decide +kernel
theorem s_AB : ("AB" : Str) = mkS [65, 66] := by decide +kernel
theorem s_Ab : ("Ab" : Str) = mkS [65, 98] := by decide +kernel
theorem s_adb : ("a.b" : Str) = mkS [97, 46, 98] := by decide +kernel
theorem s_ab1 : ("ab1" : Str) = mkS [97, 98, 49] := by decide +kernel
theorem s_a : ("a" : Str) = mkS [97] := by decide +kernel
theorem kn_D : D.lst [.lst [.str "abc", .str "ab", .str "bc", .str "ac"], .lst [.str "abcd", .str "abc", .str "abd", .str "acd", .str "bcd"], .lst [.str "AB", .str "ab", .str "Ab"], .lst [.str "a.b", .str "ab1", .str "a"]] = .lst (KN.map fun X => .lst (X.map tx)) := by
  rw [s_abc, s_ab, s_bc, s_ac, s_abcd, s_abd, s_acd, s_bcd, s_AB, s_Ab, s_adb, s_ab1, s_a]; rfl
theorem kn_ix (k : Int) (h0 : 0 ≤ k) (h1 : k < 4) : ∃ X ∈ KN, ixD (.lst (KN.map fun X => D.lst (X.map tx))) (.int k) = .ok (.lst (X.map tx)) := by
  have hl : KN.length = 4 := rfl
  have hk : k.toNat < KN.length := by omega
  refine ⟨KN[k.toNat], List.getElem_mem hk, ixD_lst (atI_of h0 ?_)⟩
  rw [List.getElem?_map, List.getElem?_eq_getElem hk]; rfl
theorem law82 (ns : List Int) (h63 : ns.length ≤ 63) : m_law [.scr ns] = .ok (.bl true) := by
  have st : startD 2 [D.scr ns] = [some (.val (.scr ns)), none] := rfl
  obtain ⟨X0, hX0, hl0, hok0⟩ := names_ok ns 0 4 h63 (by decide) (by decide) (by decide) (by decide)
  have dk := draw_ok ns 90 4 h63 (by decide) (by decide) (by decide)
  have dl := draw_lt ns 90 (m := 4) (by decide)
  generalize drawZ ns 90 4 = k at dk dl
  obtain ⟨K, hK, hKix⟩ := kn_ix k dl.1 dl.2
  have tK := tells_ok K (fun x hx => ⟨((kn_ok K hK).2 x hx).1, ((kn_ok K hK).2 x hx).2⟩) (kn_ok K hK).1
  have hl0 : X0.length ≤ 4 := by omega
  have cut : ∀ (x : List Nat), x.length ≤ 1000 → ∀ (τ : DS) (fe : FE), fe τ = .ok (tx x) → eSl fe oNone (oSome (eC (.int 6))) τ = .ok (tx (x.take 6)) := fun x hx τ fe h => by
    rw [eSl_ap, h, Rs.bind_ok, oNone_ap, Rs.bind_ok]
    show ((Rs.ok (some (6 : Int))).bind fun u => slD (tx x) none u) = _
    rw [Rs.bind_ok]
    exact slD_to x hx 6
  have cm := comp_map (set := gNm 0) (fe := eSl (eVar 0) oNone (oSome (eC (.int 6)))) (τ := [none]) tx tx (fun x => x.take 6) X0 fun x hx => ⟨_, gNm_ap, cut x (by have := (hok0 x hx).2.1; omega) _ _ (var_ok rfl)⟩
  have tX := tells_ok (X0.map fun x => x.take 6) (fun x hx => by
    obtain ⟨y, hy, rfl⟩ := List.mem_map.mp hx
    exact ⟨by rw [List.length_take]; omega, fun c hc => List.mem_cons_of_mem _ ((hok0 y hy).2.2 c (List.mem_of_mem_take hc))⟩) (by rw [List.length_map]; omega)
  unfold m_law b_law
  rw [runF_ap, st, kn_D]
  generalize D.lst (KN.map fun X => .lst (X.map tx)) = KD at hKix ⊢
  rw [seq_nx (set_nx (d := KD) rfl)]
  simp only [List.set_cons_succ, List.set_cons_zero]
  have t1 : tNotD (tTru (eCall m__law_tells (aCons (eOp ixD (eVar 1) (eCall m__law_drawn (aCons (eVar 0) (aCons (eC (.int 90)) (aCons (eC (.int 4)) aNil))))) aNil))) [some (.val (.scr ns)), some (.val KD)] = .ok false :=
    not_b (b := true) (tru_ok (call1 (op2 (var_ok rfl) (call3 (var_ok rfl) rfl rfl dk) hKix) tK))
  rw [seq_nx (if_n t1)]
  have e1 := comp_ok (k := 1) (idx := []) (τ := [some (.val (.scr ns)), some (.val KD)]) (any_of (call3 (fa := eVar 0) (fb := eC (.int 0)) (fc := eC (.int 4)) (var_ok rfl) rfl rfl hX0)) cm (by simp; omega)
  generalize X0.map (fun x => x.take 6) = Y at tX e1
  have e2 : (fun τ => ((eComp 1 [] (iAny (eCall m__law_names (aCons (eVar 0) (aCons (eC (.int 0)) (aCons (eC (.int 4)) aNil))))) (gNm 0) (fun _ => .ok true) (eSl (eVar 0) oNone (oSome (eC (.int 6))))) τ).bind fun ds => Rs.ok (D.lst ds)) [some (.val (.scr ns)), some (.val KD)] = .ok (.lst (Y.map tx)) := frE e1
  rw [ret_rt (call1 e2 tX), flRes_rt]
theorem main : ∀ ns : List Int, ns.length ≤ 63 → m_law [.scr ns] = .ok (.bl true) := law82
end Law
set_option Elab.async false
set_option linter.all false
set_option maxRecDepth 100000
set_option maxHeartbeats 4000000
namespace Law
open PySem PySem.Spec PyProof.Rows L2 FD
def top (i : Nat) : Stmt := PySem.Challenge.pw_fewfind_k82_telling.main.body.getD i (.Pass ⟨0, 0, 0, 0⟩)
section
variable {P : Program} {w : World} {K : PySem.W.Frag} {mg : Str → Option Value} {base : Heap}
abbrev s_longer_queries : Stmt := top 14
theorem sc_longer_queries : FnScope ["ends", "choices", "longer", "query", "place", "sign"] ["ends", "choices"] (defScope s_longer_queries) := ⟨rfl, rfl, rfl, by decide +kernel, rfl, by decide +kernel, by decide +kernel⟩
theorem ok_longer_queries {f : Addr} {fd : FuncData} (A_ : DefAt K mg "longer_queries" s_longer_queries f fd) (z_len : mg "len" = none) (z_range : mg "range" = none) : DefOk P w K mg base "longer_queries" 1 2 ["ends", "choices"] m_longer_queries := by
  refine DefOk.mk (k := 0) A_ sc_longer_queries rfl (fun _ _ _ _ _ _ us hl => match us, hl with | [_, _], _ => rfl) (fun cdv A outer s H E hr => ?_) fun _ _ _ h => h
  exact (pdss_mkD (i := 2) sc_longer_queries.nd rfl (Or.inl rfl) (ps_hfor (r := 3) PassesOwn.never rfl (pdi_dct (pde_var (pv 0))) sc_longer_queries.nd rfl (Or.inl rfl) (by decide) (pss_one (ps_hfor (r := 4) PassesOwn.never rfl (pdi_range2 rfl z_range (pda_cons (pde_dix (hu_of hr) (pde_var (pv 0)) (pde_var (pv 3))) (pda_cons (pde_callB cd_len rfl z_len PySem.boot_len (pda_cons (pde_var (pv 1)) pda_nil)) pda_nil))) sc_longer_queries.nd rfl (Or.inl rfl) (by decide) (pss_one (ps_hfor (r := 5) PassesOwn.never rfl (pdi_any (pde_ix ix_ok (pde_var (pv 1)) (pde_var (pv 4)))) sc_longer_queries.nd rfl (Or.inl rfl) (by decide) (pss_one (ps_hnew (hu_of hr) (pv 2) (pv 2) (pde_op opd_add (pde_var (pv 3)) (pde_var (pv 5))) (pde_op opd_add (pde_var (pv 3)) (pde_var (pv 5))) (pde_op opd_add (pde_var (pv 4)) pde_int)))))))) (pv 2))
abbrev s_all_queries : Stmt := top 15
theorem sc_all_queries : FnScope ["choices", "length", "ends", "number"] ["choices", "length"] (defScope s_all_queries) := ⟨rfl, rfl, rfl, by decide +kernel, rfl, by decide +kernel, by decide +kernel⟩
theorem ok_all_queries {f : Addr} {fd : FuncData} (A_ : DefAt K mg "all_queries" s_all_queries f fd) (h_longer_queries : DefOk P w K mg base "longer_queries" 1 2 ["ends", "choices"] m_longer_queries) (z_list : mg "list" = none) (z_range : mg "range" = none) : DefOk P w K mg base "all_queries" 2 2 ["choices", "length"] m_all_queries := by
  refine DefOk.mk (k := 1) A_ sc_all_queries rfl (fun _ _ _ _ _ _ us hl => match us, hl with | [_, _], _ => rfl) (fun cdv A outer s H E hr => ?_) fun _ _ _ h => h
  exact (pdss_cons (pds_set (i := 2) sc_all_queries.nd rfl (Or.inl rfl) pde_dct1) (pdss_cons (pds_for PassesOwn.never rfl (pdi_range1 rfl z_range (pda_cons (pde_var (pv 1)) pda_nil)) (pdg_name sc_all_queries.nd rfl (Or.inl rfl)) (pdss_one (pds_set (i := 2) sc_all_queries.nd rfl (Or.inl rfl) (pde_def h_longer_queries (hr.mono (by decide)) (pda_cons (pde_var (pv 2)) (pda_cons (pde_var (pv 0)) pda_nil)) (aCons_len (aCons_len aNil_len)))))) (pdss_one (pds_ret (pde_callTy (cd_listK rfl) rfl z_list PyProof.Rows.boot_list (pda_cons (pde_var (pv 2)) pda_nil))))))
abbrev s_is_query_sign : Stmt := top 5
theorem sc_is_query_sign : FnScope ["sign"] ["sign"] (defScope s_is_query_sign) := ⟨rfl, rfl, rfl, by decide +kernel, rfl, by decide +kernel, by decide +kernel⟩
theorem ok_is_query_sign {f : Addr} {fd : FuncData} (A_ : DefAt K mg "is_query_sign" s_is_query_sign f fd) {t_FIGURES : Tok} (g_FIGURES : mg "FIGURES" = some (.str "0123456789" t_FIGURES)) {t_GREAT : Tok} (g_GREAT : mg "GREAT" = some (.str "ABCDEFGHIJKLMNOPQRSTUVWXYZ" t_GREAT)) {t_SMALL : Tok} (g_SMALL : mg "SMALL" = some (.str "abcdefghijklmnopqrstuvwxyz" t_SMALL)) : DefOk P w K mg base "is_query_sign" 1 1 ["sign"] m_is_query_sign := by
  refine DefOk.mk (k := 0) A_ sc_is_query_sign rfl (fun _ _ _ _ _ _ us hl => match us, hl with | [_], _ => rfl) (fun cdv A outer s H E hr => ?_) fun _ _ _ h => h
  exact (pdss_one (pds_ret (pde_or (pde_cmp (opd_in (room128 hr)) (pde_var (pv 0)) (pde_glS rfl g_SMALL) (by with_unfolding_all rfl)) (pde_or (pde_cmp (opd_in (room128 hr)) (pde_var (pv 0)) (pde_glS rfl g_GREAT) (by with_unfolding_all rfl)) (pde_one (pde_cmp (opd_in (room128 hr)) (pde_var (pv 0)) (pde_glS rfl g_FIGURES) (by with_unfolding_all rfl)))))))
abbrev s_own_signs : Stmt := top 12
theorem sc_own_signs : FnScope ["sign"] ["sign"] (defScope s_own_signs) := ⟨rfl, rfl, rfl, by decide +kernel, rfl, by decide +kernel, by decide +kernel⟩
theorem ok_own_signs {f : Addr} {fd : FuncData} (A_ : DefAt K mg "own_signs" s_own_signs f fd) (h_is_query_sign : DefOk P w K mg base "is_query_sign" 1 1 ["sign"] m_is_query_sign) : DefOk P w K mg base "own_signs" 2 1 ["sign"] m_own_signs := by
  refine DefOk.mk (k := 1) A_ sc_own_signs rfl (fun _ _ _ _ _ _ us hl => match us, hl with | [_], _ => rfl) (fun cdv A outer s H E hr => ?_) fun _ _ _ h => h
  exact (pdss_one (pds_ret (pde_if (pdt_tru (pde_def h_is_query_sign (hr.mono (by decide)) (pda_cons (pde_var (pv 0)) pda_nil) (aCons_len aNil_len))) (pde_lst (pda_cons (pde_var (pv 0)) pda_nil)) (pde_lst pda_nil))))
abbrev s_meeting_signs : Stmt := top 13
theorem sc_meeting_signs : FnScope ["sign"] ["sign"] (defScope s_meeting_signs) := ⟨rfl, rfl, rfl, by decide +kernel, rfl, by decide +kernel, by decide +kernel⟩
theorem ok_meeting_signs {f : Addr} {fd : FuncData} (A_ : DefAt K mg "meeting_signs" s_meeting_signs f fd) (h_own_signs : DefOk P w K mg base "own_signs" 2 1 ["sign"] m_own_signs) {t_GREAT : Tok} (g_GREAT : mg "GREAT" = some (.str "ABCDEFGHIJKLMNOPQRSTUVWXYZ" t_GREAT)) : DefOk P w K mg base "meeting_signs" 3 1 ["sign"] m_meeting_signs := by
  refine DefOk.mk (k := 2) A_ sc_meeting_signs rfl (fun _ _ _ _ _ _ us hl => match us, hl with | [_], _ => rfl) (fun cdv A outer s H E hr => ?_) fun _ _ _ h => h
  exact (pdss_cons (pds_if (pdt_cmp (opd_in (room128 hr)) (pde_var (pv 0)) (pde_glS rfl g_GREAT) (by with_unfolding_all rfl)) (pdss_one (pds_ret (pde_lst (pda_cons (pde_lower (pde_var (pv 0))) (pda_cons (pde_var (pv 0)) pda_nil))))) pdss_nil) (pdss_one (pds_ret (pde_def h_own_signs (hr.mono (by decide)) (pda_cons (pde_var (pv 0)) pda_nil) (aCons_len aNil_len)))))
abbrev s_fitted_names : Stmt := top 16
theorem sc_fitted_names : FnScope ["names", "length", "fitted", "name", "query"] ["names", "length"] (defScope s_fitted_names) := ⟨rfl, rfl, rfl, by decide +kernel, rfl, by decide +kernel, by decide +kernel⟩
theorem ok_fitted_names {f : Addr} {fd : FuncData} (A_ : DefAt K mg "fitted_names" s_fitted_names f fd) (h_meeting_signs : DefOk P w K mg base "meeting_signs" 3 1 ["sign"] m_meeting_signs) (h_all_queries : DefOk P w K mg base "all_queries" 2 2 ["choices", "length"] m_all_queries) : DefOk P w K mg base "fitted_names" 4 2 ["names", "length"] m_fitted_names := by
  refine DefOk.mk (k := 3) A_ sc_fitted_names rfl (fun _ _ _ _ _ _ us hl => match us, hl with | [_, _], _ => rfl) (fun cdv A outer s H E hr => ?_) fun _ _ _ h => h
  exact (pdss_mkD (i := 2) sc_fitted_names.nd rfl (Or.inl rfl) (ps_hfor (r := 3) PassesOwn.never rfl (pdi_any (pde_var (pv 0))) sc_fitted_names.nd rfl (Or.inl rfl) (by decide) (pss_one (ps_hfor (r := 4) PassesOwn.never rfl (pdi_any (pde_def h_all_queries (hr.mono (by decide)) (pda_cons (pde_fr (pdf_comp (tn := ["sign"]) (fr := []) (idx := []) rfl rfl trivial (setOk_nm 0) (pdi_any (pde_var (pv 3))) (fun s H C fp => (pdg_name (show List.Nodup (["sign"] : List Str) by decide +kernel) rfl (Or.inl rfl))) (fun s H C fp => pdts_nil) (fun s H C fp => (pde_def h_meeting_signs (hr.mono (by decide)) (pda_cons (pde_var (pv 0)) pda_nil) (aCons_len aNil_len))))) (pda_cons (pde_var (pv 1)) pda_nil)) (aCons_len (aCons_len aNil_len)))) sc_fitted_names.nd rfl (Or.inl rfl) (by decide) (pss_one (ps_hinc (hu_of hr) (pv 2) (pv 2) (pde_var (pv 4)) (pde_var (pv 4)) ⟨rfl, rfl, rfl, rfl⟩))))) (pv 2))
abbrev s_least_alone : Stmt := top 17
theorem sc_least_alone : FnScope ["name", "length", "fitted", "queries"] ["name", "length", "fitted"] (defScope s_least_alone) := ⟨rfl, rfl, rfl, by decide +kernel, rfl, by decide +kernel, by decide +kernel⟩
theorem ok_least_alone {f : Addr} {fd : FuncData} (A_ : DefAt K mg "least_alone" s_least_alone f fd) (h_own_signs : DefOk P w K mg base "own_signs" 2 1 ["sign"] m_own_signs) (h_all_queries : DefOk P w K mg base "all_queries" 2 2 ["choices", "length"] m_all_queries) (z_min : mg "min" = none) : DefOk P w K mg base "least_alone" 3 3 ["name", "length", "fitted"] m_least_alone := by
  refine DefOk.mk (k := 2) A_ sc_least_alone rfl (fun _ _ _ _ _ _ us hl => match us, hl with | [_, _, _], _ => rfl) (fun cdv A outer s H E hr => ?_) fun _ _ _ h => h
  exact (pdss_cons (pds_set (i := 3) sc_least_alone.nd rfl (Or.inl rfl) (pde_def h_all_queries (hr.mono (by decide)) (pda_cons (pde_fr (pdf_comp (tn := ["sign"]) (fr := []) (idx := []) rfl rfl trivial (setOk_nm 0) (pdi_any (pde_var (pv 0))) (fun s H C fp => (pdg_name (show List.Nodup (["sign"] : List Str) by decide +kernel) rfl (Or.inl rfl))) (fun s H C fp => pdts_nil) (fun s H C fp => (pde_def h_own_signs (hr.mono (by decide)) (pda_cons (pde_var (pv 0)) pda_nil) (aCons_len aNil_len))))) (pda_cons (pde_var (pv 1)) pda_nil)) (aCons_len (aCons_len aNil_len)))) (pdss_one (pds_ret (pde_minS rfl rfl z_min boot_min (pde_fr (pdf_comp (tn := ["query"]) (fr := ["fitted"]) (idx := [2]) rfl rfl ⟨rfl, rfl, trivial⟩ (setOk_nm 0) (pdi_any (pde_var (pv 3))) (fun s H C fp => (pdg_name (show List.Nodup (["query", "fitted"] : List Str) by decide +kernel) rfl (Or.inl rfl))) (fun s H C fp => (pdts_one (pdt_cmp (opd_eq hr.units) (pde_dix (hu_of hr) (pde_var (pv 1)) (pde_var (pv 0))) pde_int (nomark _)))) (fun s H C fp => (pde_var (pv 0))))) pde_non))))
abbrev s_telling : Stmt := top 18
theorem sc_telling : FnScope ["names", "told", "length", "fitted", "number", "name"] ["names"] (defScope s_telling) := ⟨rfl, rfl, rfl, by decide +kernel, rfl, by decide +kernel, by decide +kernel⟩
theorem ok_telling {f : Addr} {fd : FuncData} (A_ : DefAt K mg "telling" s_telling f fd) (h_least_alone : DefOk P w K mg base "least_alone" 3 3 ["name", "length", "fitted"] m_least_alone) (h_fitted_names : DefOk P w K mg base "fitted_names" 4 2 ["names", "length"] m_fitted_names) {t_MOST_TELLING : Tok} (g_MOST_TELLING : mg "MOST_TELLING" = some (.int 3 t_MOST_TELLING)) (z_range : mg "range" = none) (z_enumerate : mg "enumerate" = none) (z_len : mg "len" = none) : DefOk P w K mg base "telling" 5 1 ["names"] m_telling := by
  refine DefOk.mk (k := 4) A_ sc_telling rfl (fun _ _ _ _ _ _ us hl => match us, hl with | [_], _ => rfl) (fun cdv A outer s H E hr => ?_) fun _ _ _ h => h
  exact (pdss_cons (pds_setO (i := 1) sc_telling.nd rfl (Or.inl rfl) (pdf_rep (pde_lst (pda_cons pde_non pda_nil)) (pde_callB cd_len rfl z_len PySem.boot_len (pda_cons (pde_var (pv 0)) pda_nil)))) (pdss_cons (pds_for PassesOwn.never rfl (pdi_range1 rfl z_range (pda_cons (pde_op opd_add (pde_glI rfl g_MOST_TELLING) pde_int) pda_nil)) (pdg_name sc_telling.nd rfl (Or.inl rfl)) (pdss_cons (pds_set (i := 3) sc_telling.nd rfl (Or.inl rfl) (pde_def h_fitted_names (hr.mono (by decide)) (pda_cons (pde_var (pv 0)) (pda_cons (pde_var (pv 2)) pda_nil)) (aCons_len (aCons_len aNil_len)))) (pdss_one (pds_for PassesOwn.never rfl (pdi_enum rfl z_enumerate (pda_cons (pde_var (pv 0)) pda_nil)) (pdg_pair rfl sc_telling.nd rfl (Or.inl rfl) rfl (Or.inl rfl)) (pdss_one (pds_if (pdt_cmp opd_is (pde_ixO (pv 1) (pde_var (pv 4))) pde_non (nomark _)) (pdss_one (pds_put (pv 1) (pde_var (pv 4)) (pde_def h_least_alone (hr.mono (by decide)) (pda_cons (pde_var (pv 5)) (pda_cons (pde_var (pv 2)) (pda_cons (pde_var (pv 3)) pda_nil))) (aCons_len (aCons_len (aCons_len aNil_len)))))) pdss_nil)))))) (pdss_one (pds_retO (pv 1)))))
abbrev s__law_mark : Stmt := top 23
theorem sc__law_mark : FnScope ["_law_sign"] ["_law_sign"] (defScope s__law_mark) := ⟨rfl, rfl, rfl, by decide +kernel, rfl, by decide +kernel, by decide +kernel⟩
theorem ok__law_mark {f : Addr} {fd : FuncData} (A_ : DefAt K mg "_law_mark" s__law_mark f fd) : DefOk P w K mg base "_law_mark" 1 1 ["_law_sign"] m__law_mark := by
  refine DefOk.mk (k := 0) A_ sc__law_mark rfl (fun _ _ _ _ _ _ us hl => match us, hl with | [_], _ => rfl) (fun cdv A outer s H E hr => ?_) fun _ _ _ h => h
  exact (pdss_one (pds_ret (pde_cmp (opd_in (room128 hr)) (pde_var (pv 0)) pde_str (by with_unfolding_all rfl))))
abbrev s__law_queries : Stmt := top 26
theorem sc__law_queries : FnScope ["_law_name_here", "_law_many", "_law_found", "_law_sign"] ["_law_name_here", "_law_many"] (defScope s__law_queries) := ⟨rfl, rfl, rfl, by decide +kernel, rfl, by decide +kernel, by decide +kernel⟩
theorem ok__law_queries {f : Addr} {fd : FuncData} (A_ : DefAt K mg "_law_queries" s__law_queries f fd) (h__law_mark : DefOk P w K mg base "_law_mark" 1 1 ["_law_sign"] m__law_mark) (z_len : mg "len" = none) (z_sorted : mg "sorted" = none) (z_set : mg "set" = none) : DefOk P w K mg base "_law_queries" 2 2 ["_law_name_here", "_law_many"] m__law_queries := by
  refine DefOk.mk (k := 1) A_ sc__law_queries rfl (fun _ _ _ _ _ _ us hl => match us, hl with | [_, _], _ => rfl) (fun cdv A outer s H E hr => ?_) fun _ _ _ h => h
  exact (pdss_cons (pds_set (i := 2) sc__law_queries.nd rfl (Or.inl rfl) (pde_lst (pda_cons pde_str pda_nil))) (pdss_cons (pds_for PassesOwn.never rfl (pdi_any (pde_var (pv 0))) (pdg_name sc__law_queries.nd rfl (Or.inr rfl)) (pdss_one (pds_set (i := 2) sc__law_queries.nd rfl (Or.inl rfl) (pde_op opd_add (pde_var (pv 2)) (pde_fr (pdf_comp (tn := ["_law_row"]) (fr := ["_law_sign", "_law_many"]) (idx := [3, 1]) rfl rfl ⟨rfl, rfl, ⟨rfl, rfl, trivial⟩⟩ (setOk_nm 0) (pdi_any (pde_var (pv 2))) (fun s H C fp => (pdg_name (show List.Nodup (["_law_row", "_law_sign", "_law_many"] : List Str) by decide +kernel) rfl (Or.inl rfl))) (fun s H C fp => (pdts_one (pdt_w (pdw_and (pdt_cmp opd_lt (pde_callB cd_len rfl z_len PySem.boot_len (pda_cons (pde_var (pv 0)) pda_nil)) (pde_var (pv 2)) (nomark _)) (pdw_and1 (pdt_not (pdt_tru (pde_def h__law_mark (hr.mono (by decide)) (pda_cons (pde_var (pv 1)) pda_nil) (aCons_len aNil_len))))))))) (fun s H C fp => (pde_op opd_add (pde_var (pv 0)) (pde_var (pv 1)))))))))) (pdss_one (pds_ret (pde_fr (pdf_sortSetS rfl rfl z_sorted rfl z_set (pda_cons (pde_fr (pdf_comp (tn := ["_law_row"]) (fr := ["_law_many"]) (idx := [1]) rfl rfl ⟨rfl, rfl, trivial⟩ (setOk_nm 0) (pdi_any (pde_var (pv 2))) (fun s H C fp => (pdg_name (show List.Nodup (["_law_row", "_law_many"] : List Str) by decide +kernel) rfl (Or.inl rfl))) (fun s H C fp => (pdts_one (pdt_cmp (opd_eq hr.units) (pde_callB cd_len rfl z_len PySem.boot_len (pda_cons (pde_var (pv 0)) pda_nil)) (pde_var (pv 1)) (nomark _)))) (fun s H C fp => (pde_var (pv 0))))) pda_nil)))))))
abbrev s_meets : Stmt := top 7
theorem sc_meets : FnScope ["sign", "other"] ["sign", "other"] (defScope s_meets) := ⟨rfl, rfl, rfl, by decide +kernel, rfl, by decide +kernel, by decide +kernel⟩
theorem ok_meets {f : Addr} {fd : FuncData} (A_ : DefAt K mg "meets" s_meets f fd) {t_SMALL : Tok} (g_SMALL : mg "SMALL" = some (.str "abcdefghijklmnopqrstuvwxyz" t_SMALL)) : DefOk P w K mg base "meets" 1 2 ["sign", "other"] m_meets := by
  refine DefOk.mk (k := 0) A_ sc_meets rfl (fun _ _ _ _ _ _ us hl => match us, hl with | [_, _], _ => rfl) (fun cdv A outer s H E hr => ?_) fun _ _ _ h => h
  exact (pdss_one (pds_ret (pde_or (pde_cmp (opd_eq hr.units) (pde_var (pv 0)) (pde_var (pv 1)) (nomark _)) (pde_one (pde_and (pde_cmp (opd_in (room128 hr)) (pde_var (pv 0)) (pde_glS rfl g_SMALL) (by with_unfolding_all rfl)) (pde_one (pde_cmp (opd_eq hr.units) (pde_upper (pde_var (pv 0))) (pde_var (pv 1)) (nomark _))))))))
abbrev s_earliest_places : Stmt := top 8
theorem sc_earliest_places : FnScope ["query", "name", "places", "place"] ["query", "name"] (defScope s_earliest_places) := ⟨rfl, rfl, rfl, by decide +kernel, rfl, by decide +kernel, by decide +kernel⟩
theorem ok_earliest_places {f : Addr} {fd : FuncData} (A_ : DefAt K mg "earliest_places" s_earliest_places f fd) (h_meets : DefOk P w K mg base "meets" 1 2 ["sign", "other"] m_meets) (z_len : mg "len" = none) (z_range : mg "range" = none) : DefOk P w K mg base "earliest_places" 2 2 ["query", "name"] m_earliest_places := by
  refine DefOk.mk (k := 1) A_ sc_earliest_places rfl (fun _ _ _ _ _ _ us hl => match us, hl with | [_, _], _ => rfl) (fun cdv A outer s H E hr => ?_) fun _ _ _ h => h
  exact (pdss_cons (pds_setO (i := 2) sc_earliest_places.nd rfl (Or.inl rfl) (pdf_lst pda_nil)) (pdss_cons (pds_for PassesOwn.never rfl (pdi_range1 rfl z_range (pda_cons (pde_callB cd_len rfl z_len PySem.boot_len (pda_cons (pde_var (pv 1)) pda_nil)) pda_nil)) (pdg_name sc_earliest_places.nd rfl (Or.inl rfl)) (pdss_one (pds_if (pdt_w (pdw_and (pdt_cmp opd_lt (pde_lenO (pv 2) rfl z_len) (pde_callB cd_len rfl z_len PySem.boot_len (pda_cons (pde_var (pv 0)) pda_nil)) (nomark _)) (pdw_and1 (pdt_tru (pde_def h_meets (hr.mono (by decide)) (pda_cons (pde_ix ix_ok (pde_var (pv 0)) (pde_lenO (pv 2) rfl z_len)) (pda_cons (pde_ix ix_ok (pde_var (pv 1)) (pde_var (pv 3))) pda_nil)) (aCons_len (aCons_len aNil_len))))))) (pdss_one (pds_app (pv 2) (pde_var (pv 3)))) pdss_nil))) (pdss_one (pds_retO (pv 2)))))
abbrev s_fits : Stmt := top 9
theorem sc_fits : FnScope ["query", "name"] ["query", "name"] (defScope s_fits) := ⟨rfl, rfl, rfl, by decide +kernel, rfl, by decide +kernel, by decide +kernel⟩
theorem ok_fits {f : Addr} {fd : FuncData} (A_ : DefAt K mg "fits" s_fits f fd) (h_earliest_places : DefOk P w K mg base "earliest_places" 2 2 ["query", "name"] m_earliest_places) (z_len : mg "len" = none) : DefOk P w K mg base "fits" 3 2 ["query", "name"] m_fits := by
  refine DefOk.mk (k := 2) A_ sc_fits rfl (fun _ _ _ _ _ _ us hl => match us, hl with | [_, _], _ => rfl) (fun cdv A outer s H E hr => ?_) fun _ _ _ h => h
  exact (pdss_one (pds_ret (pde_cmp (opd_eq hr.units) (pde_callB cd_len rfl z_len PySem.boot_len (pda_cons (pde_def h_earliest_places (hr.mono (by decide)) (pda_cons (pde_var (pv 0)) (pda_cons (pde_var (pv 1)) pda_nil)) (aCons_len (aCons_len aNil_len))) pda_nil)) (pde_callB cd_len rfl z_len PySem.boot_len (pda_cons (pde_var (pv 0)) pda_nil)) (nomark _))))
abbrev s_is_query : Stmt := top 6
theorem sc_is_query : FnScope ["thing"] ["thing"] (defScope s_is_query) := ⟨rfl, rfl, rfl, by decide +kernel, rfl, by decide +kernel, by decide +kernel⟩
theorem ok_is_query {f : Addr} {fd : FuncData} (A_ : DefAt K mg "is_query" s_is_query f fd) (h_is_query_sign : DefOk P w K mg base "is_query_sign" 1 1 ["sign"] m_is_query_sign) {t_LONGEST_QUERY : Tok} (g_LONGEST_QUERY : mg "LONGEST_QUERY" = some (.int 8 t_LONGEST_QUERY)) (z_all : mg "all" = none) (z_len : mg "len" = none) (z_str : mg "str" = none) (z_isinstance : mg "isinstance" = none) : DefOk P w K mg base "is_query" 2 1 ["thing"] m_is_query := by
  refine DefOk.mk (k := 1) A_ sc_is_query rfl (fun _ _ _ _ _ _ us hl => match us, hl with | [_], _ => rfl) (fun cdv A outer s H E hr => ?_) fun _ _ _ h => h
  exact (pdss_cons (pds_if (pdt_not (pdt_tru (pde_callB cd_isi rfl z_isinstance boot_isinstance (pda_cons (pde_var (pv 0)) (pda_cons (pde_ty rfl z_str PyProof.Rows.boot_str) pda_nil))))) (pdss_one (pds_ret pde_bl)) pdss_nil) (pdss_cons (pds_if (pdt_cmp opd_gt (pde_callB cd_len rfl z_len PySem.boot_len (pda_cons (pde_var (pv 0)) pda_nil)) (pde_glI rfl g_LONGEST_QUERY) (nomark _)) (pdss_one (pds_ret pde_bl)) pdss_nil) (pdss_one (pds_ret (pde_callB (cd_all rfl) rfl z_all boot_all (pda_cons (pde_fr (pdf_comp (tn := ["sign"]) (fr := []) (idx := []) rfl rfl trivial (setOk_nm 0) (pdi_any (pde_var (pv 0))) (fun s H C fp => (pdg_name (show List.Nodup (["sign"] : List Str) by decide +kernel) rfl (Or.inl rfl))) (fun s H C fp => pdts_nil) (fun s H C fp => (pde_def h_is_query_sign (hr.mono (by decide)) (pda_cons (pde_var (pv 0)) pda_nil) (aCons_len aNil_len))))) pda_nil))))))
abbrev s__law_tells : Stmt := top 27
theorem sc__law_tells : FnScope ["_law_names_here", "_law_told", "_law_number", "_law_name_here", "_law_others", "_law_due", "_law_many", "_law_query_here"] ["_law_names_here"] (defScope s__law_tells) := ⟨rfl, rfl, rfl, by decide +kernel, rfl, by decide +kernel, by decide +kernel⟩
theorem ok__law_tells {f : Addr} {fd : FuncData} (A_ : DefAt K mg "_law_tells" s__law_tells f fd) (h_is_query : DefOk P w K mg base "is_query" 2 1 ["thing"] m_is_query) (h_fits : DefOk P w K mg base "fits" 3 2 ["query", "name"] m_fits) (h__law_queries : DefOk P w K mg base "_law_queries" 2 2 ["_law_name_here", "_law_many"] m__law_queries) (h_telling : DefOk P w K mg base "telling" 5 1 ["names"] m_telling) (z_enumerate : mg "enumerate" = none) (z_range : mg "range" = none) (z_len : mg "len" = none) (z_list : mg "list" = none) (z_isinstance : mg "isinstance" = none) : DefOk P w K mg base "_law_tells" 6 1 ["_law_names_here"] m__law_tells := by
  refine DefOk.mk (k := 5) A_ sc__law_tells rfl (fun _ _ _ _ _ _ us hl => match us, hl with | [_], _ => rfl) (fun cdv A outer s H E hr => ?_) fun _ _ _ h => h
  exact (pdss_cons (pds_set (i := 1) sc__law_tells.nd rfl (Or.inl rfl) (pde_def h_telling (hr.mono (by decide)) (pda_cons (pde_var (pv 0)) pda_nil) (aCons_len aNil_len))) (pdss_cons (pds_if (pdt_w (pdw_or (pdt_not (pdt_tru (pde_callB cd_isi rfl z_isinstance boot_isinstance (pda_cons (pde_var (pv 1)) (pda_cons (pde_ty rfl z_list PyProof.Rows.boot_list) pda_nil))))) (pdw_or1 (pdt_cmp (opd_ne hr.units) (pde_callB cd_len rfl z_len PySem.boot_len (pda_cons (pde_var (pv 1)) pda_nil)) (pde_callB cd_len rfl z_len PySem.boot_len (pda_cons (pde_var (pv 0)) pda_nil)) (nomark _))))) (pdss_one (pds_ret pde_bl)) pdss_nil) (pdss_cons (pds_for PassesOwn.never rfl (pdi_enum rfl z_enumerate (pda_cons (pde_var (pv 0)) pda_nil)) (pdg_pair rfl sc__law_tells.nd rfl (Or.inl rfl) rfl (Or.inl rfl)) (pdss_cons (pds_set (i := 4) sc__law_tells.nd rfl (Or.inl rfl) (pde_op opd_add (pde_sl (pde_var (pv 0)) pdo_none (pdo_some (pde_var (pv 2)))) (pde_sl (pde_var (pv 0)) (pdo_some (pde_op opd_add (pde_var (pv 2)) pde_int)) pdo_none))) (pdss_cons (pds_set (i := 5) sc__law_tells.nd rfl (Or.inl rfl) pde_non) (pdss_cons (pds_for PassesOwn.never rfl (pdi_range1 rfl z_range (pda_cons pde_int pda_nil)) (pdg_name sc__law_tells.nd rfl (Or.inl rfl)) (pdss_one (pds_for PassesOwn.never rfl (pdi_any (pde_def h__law_queries (hr.mono (by decide)) (pda_cons (pde_var (pv 3)) (pda_cons (pde_var (pv 6)) pda_nil)) (aCons_len (aCons_len aNil_len)))) (pdg_name sc__law_tells.nd rfl (Or.inr rfl)) (pdss_one (pds_if (pdt_w (pdw_and (pdt_cmp opd_is (pde_var (pv 5)) pde_non (nomark _)) (pdw_and1 (pdt_cmp (opd_eq hr.units) (pde_fr (pdf_comp (tn := ["_law_other"]) (fr := ["_law_query_here"]) (idx := [7]) rfl rfl ⟨rfl, rfl, trivial⟩ (setOk_nm 0) (pdi_any (pde_var (pv 4))) (fun s H C fp => (pdg_name (show List.Nodup (["_law_other", "_law_query_here"] : List Str) by decide +kernel) rfl (Or.inl rfl))) (fun s H C fp => (pdts_one (pdt_tru (pde_def h_fits (hr.mono (by decide)) (pda_cons (pde_var (pv 1)) (pda_cons (pde_var (pv 0)) pda_nil)) (aCons_len (aCons_len aNil_len)))))) (fun s H C fp => (pde_var (pv 0))))) (pde_lst pda_nil) (nomark _))))) (pdss_one (pds_set (i := 5) sc__law_tells.nd rfl (Or.inl rfl) (pde_var (pv 7)))) pdss_nil))))) (pdss_cons (pds_if (pdt_w (pdw_or (pdt_cmp (opd_ne hr.units) (pde_ix ix_ok (pde_var (pv 1)) (pde_var (pv 2))) (pde_var (pv 5)) (nomark _)) (pdw_or1 (pdt_w (pdw_and (pdt_cmp opd_isNot (pde_var (pv 5)) pde_non (nomark _)) (pdw_and1 (pdt_w (pdw_or (pdt_not (pdt_tru (pde_def h_fits (hr.mono (by decide)) (pda_cons (pde_var (pv 5)) (pda_cons (pde_var (pv 3)) pda_nil)) (aCons_len (aCons_len aNil_len))))) (pdw_or1 (pdt_not (pdt_tru (pde_def h_is_query (hr.mono (by decide)) (pda_cons (pde_var (pv 5)) pda_nil) (aCons_len aNil_len))))))))))))) (pdss_one (pds_ret pde_bl)) pdss_nil) (pdss_one (pds_if (pdt_w (pdw_and (pdt_cmp (opd_in (room128 hr)) (pde_var (pv 3)) (pde_var (pv 4)) (by with_unfolding_all rfl)) (pdw_and1 (pdt_cmp opd_isNot (pde_var (pv 5)) pde_non (nomark _))))) (pdss_one (pds_ret pde_bl)) pdss_nil))))))) (pdss_one (pds_ret (pde_or (pde_cmp (opd_ne hr.units) (pde_var (pv 0)) (pde_lst pda_nil) (nomark _)) (pde_one (pde_cmp (opd_eq hr.units) (pde_var (pv 1)) (pde_lst pda_nil) (nomark _)))))))))
abbrev s__law_cell : Stmt := top 20
theorem sc__law_cell : FnScope ["_law_script", "_law_k"] ["_law_script", "_law_k"] (defScope s__law_cell) := ⟨rfl, rfl, rfl, by decide +kernel, rfl, by decide +kernel, by decide +kernel⟩
theorem ok__law_cell {f : Addr} {fd : FuncData} (A_ : DefAt K mg "_law_cell" s__law_cell f fd) (z_len : mg "len" = none) : DefOk P w K mg base "_law_cell" 1 2 ["_law_script", "_law_k"] m__law_cell := by
  refine DefOk.mk (k := 0) A_ sc__law_cell rfl (fun _ _ _ _ _ _ us hl => match us, hl with | [_, _], _ => rfl) (fun cdv A outer s H E hr => ?_) fun _ _ _ h => h
  exact (pdss_cons (pds_if (pdt_cmp (opd_eq hr.units) (pde_var (pv 0)) (pde_lst pda_nil) (nomark _)) (pdss_one (pds_ret (pde_op opd_mul pde_int (pde_var (pv 1))))) pdss_nil) (pdss_one (pds_ret (pde_op opd_add (pde_ix ix_ok (pde_var (pv 0)) (pde_op opd_mod (pde_var (pv 1)) (pde_callB cd_len rfl z_len PySem.boot_len (pda_cons (pde_var (pv 0)) pda_nil)))) (pde_op opd_mul pde_int (pde_op opd_fdiv (pde_var (pv 1)) (pde_callB cd_len rfl z_len PySem.boot_len (pda_cons (pde_var (pv 0)) pda_nil))))))))
abbrev s__law_drawn : Stmt := top 21
theorem sc__law_drawn : FnScope ["_law_script", "_law_k", "_law_many", "_law_cell_here"] ["_law_script", "_law_k", "_law_many"] (defScope s__law_drawn) := ⟨rfl, rfl, rfl, by decide +kernel, rfl, by decide +kernel, by decide +kernel⟩
theorem ok__law_drawn {f : Addr} {fd : FuncData} (A_ : DefAt K mg "_law_drawn" s__law_drawn f fd) (h__law_cell : DefOk P w K mg base "_law_cell" 1 2 ["_law_script", "_law_k"] m__law_cell) : DefOk P w K mg base "_law_drawn" 2 3 ["_law_script", "_law_k", "_law_many"] m__law_drawn := by
  refine DefOk.mk (k := 1) A_ sc__law_drawn rfl (fun _ _ _ _ _ _ us hl => match us, hl with | [_, _, _], _ => rfl) (fun cdv A outer s H E hr => ?_) fun _ _ _ h => h
  exact (pdss_cons (pds_set (i := 3) sc__law_drawn.nd rfl (Or.inl rfl) (pde_op opd_mod (pde_op opd_add (pde_op opd_mul (pde_op opd_mod (pde_def h__law_cell (hr.mono (by decide)) (pda_cons (pde_var (pv 0)) (pda_cons (pde_var (pv 1)) pda_nil)) (aCons_len (aCons_len aNil_len))) pde_int) pde_int) (pde_op opd_mul pde_int (pde_op opd_add (pde_var (pv 1)) pde_int))) pde_int)) (pdss_cons (pds_set (i := 3) sc__law_drawn.nd rfl (Or.inl rfl) (pde_op opd_mod (pde_op opd_add (pde_op opd_mul (pde_var (pv 3)) (pde_var (pv 3))) (pde_op opd_fdiv (pde_var (pv 3)) pde_int)) pde_int)) (pdss_one (pds_ret (pde_op opd_mod (pde_op opd_fdiv (pde_op opd_mod (pde_op opd_add (pde_op opd_mul (pde_var (pv 3)) (pde_var (pv 3))) (pde_op opd_fdiv (pde_var (pv 3)) pde_int)) pde_int) pde_int) (pde_var (pv 2)))))))
abbrev s__law_name : Stmt := top 22
theorem sc__law_name : FnScope ["_law_script", "_law_at", "_law_found", "_law_k"] ["_law_script", "_law_at"] (defScope s__law_name) := ⟨rfl, rfl, rfl, by decide +kernel, rfl, by decide +kernel, by decide +kernel⟩
theorem ok__law_name {f : Addr} {fd : FuncData} (A_ : DefAt K mg "_law_name" s__law_name f fd) (h__law_drawn : DefOk P w K mg base "_law_drawn" 2 3 ["_law_script", "_law_k", "_law_many"] m__law_drawn) (z_range : mg "range" = none) : DefOk P w K mg base "_law_name" 3 2 ["_law_script", "_law_at"] m__law_name := by
  refine DefOk.mk (k := 2) A_ sc__law_name rfl (fun _ _ _ _ _ _ us hl => match us, hl with | [_, _], _ => rfl) (fun cdv A outer s H E hr => ?_) fun _ _ _ h => h
  exact (pdss_cons (pds_set (i := 2) sc__law_name.nd rfl (Or.inl rfl) pde_str) (pdss_cons (pds_for PassesOwn.never rfl (pdi_range1 rfl z_range (pda_cons (pde_op opd_add pde_int (pde_def h__law_drawn (hr.mono (by decide)) (pda_cons (pde_var (pv 0)) (pda_cons (pde_var (pv 1)) (pda_cons pde_int pda_nil))) (aCons_len (aCons_len (aCons_len aNil_len))))) pda_nil)) (pdg_name sc__law_name.nd rfl (Or.inl rfl)) (pdss_one (pds_set (i := 2) sc__law_name.nd rfl (Or.inl rfl) (pde_op opd_add (pde_var (pv 2)) (pde_ix ix_ok pde_str (pde_def h__law_drawn (hr.mono (by decide)) (pda_cons (pde_var (pv 0)) (pda_cons (pde_op opd_add (pde_op opd_add (pde_var (pv 1)) pde_int) (pde_var (pv 3))) (pda_cons pde_int pda_nil))) (aCons_len (aCons_len (aCons_len aNil_len))))))))) (pdss_one (pds_ret (pde_var (pv 2))))))
abbrev s__law_names : Stmt := top 24
theorem sc__law_names : FnScope ["_law_script", "_law_at", "_law_most", "_law_found"] ["_law_script", "_law_at", "_law_most"] (defScope s__law_names) := ⟨rfl, rfl, rfl, by decide +kernel, rfl, by decide +kernel, by decide +kernel⟩
theorem ok__law_names {f : Addr} {fd : FuncData} (A_ : DefAt K mg "_law_names" s__law_names f fd) (h__law_drawn : DefOk P w K mg base "_law_drawn" 2 3 ["_law_script", "_law_k", "_law_many"] m__law_drawn) (h__law_name : DefOk P w K mg base "_law_name" 3 2 ["_law_script", "_law_at"] m__law_name) (z_len : mg "len" = none) (z_range : mg "range" = none) : DefOk P w K mg base "_law_names" 4 3 ["_law_script", "_law_at", "_law_most"] m__law_names := by
  refine DefOk.mk (k := 3) A_ sc__law_names rfl (fun _ _ _ _ _ _ us hl => match us, hl with | [_, _, _], _ => rfl) (fun cdv A outer s H E hr => ?_) fun _ _ _ h => h
  exact (pdss_cons (pds_compO (i := 3) sc__law_names.nd rfl rfl rfl (tn := ["_law_k"]) (fr := ["_law_script", "_law_at"]) (idx := [0, 1]) rfl rfl ⟨rfl, rfl, ⟨rfl, rfl, trivial⟩⟩ (setOk_nm 0) (pdi_range1 rfl z_range (pda_cons (pde_def h__law_drawn (hr.mono (by decide)) (pda_cons (pde_var (pv 0)) (pda_cons (pde_var (pv 1)) (pda_cons (pde_op opd_add (pde_var (pv 2)) pde_int) pda_nil))) (aCons_len (aCons_len (aCons_len aNil_len)))) pda_nil)) (fun s H C fp => (pdg_name (show List.Nodup (["_law_k", "_law_script", "_law_at"] : List Str) by decide +kernel) rfl (Or.inl rfl))) (fun s H C fp => pdts_nil) (fun s H C fp => (pde_def h__law_name (hr.mono (by decide)) (pda_cons (pde_var (pv 1)) (pda_cons (pde_op opd_add (pde_op opd_add (pde_var (pv 2)) pde_int) (pde_op opd_mul pde_int (pde_var (pv 0)))) pda_nil)) (aCons_len (aCons_len aNil_len))))) (pdss_cons (pds_if (pdt_w (pdw_and (pdt_cmp opd_gt (pde_lenO (pv 3) rfl z_len) pde_int (nomark _)) (pdw_and1 (pdt_cmp (opd_eq hr.units) (pde_def h__law_drawn (hr.mono (by decide)) (pda_cons (pde_var (pv 0)) (pda_cons (pde_op opd_add (pde_var (pv 1)) pde_int) (pda_cons pde_int pda_nil))) (aCons_len (aCons_len (aCons_len aNil_len)))) pde_int (nomark _))))) (pdss_one (pds_put (pv 3) pde_int (pde_ixO (pv 3) (pde_neg pde_int)))) pdss_nil) (pdss_one (pds_retO (pv 3)))))
abbrev s_law : Stmt := top 28
theorem sc_law : FnScope ["_law_script", "_law_known"] ["_law_script"] (defScope s_law) := ⟨rfl, rfl, rfl, by decide +kernel, rfl, by decide +kernel, by decide +kernel⟩
theorem ok_law {f : Addr} {fd : FuncData} (A_ : Fun K "law" "law" s_law f fd) (h__law_names : DefOk P w K mg base "_law_names" 4 3 ["_law_script", "_law_at", "_law_most"] m__law_names) (h__law_tells : DefOk P w K mg base "_law_tells" 6 1 ["_law_names_here"] m__law_tells) (h__law_drawn : DefOk P w K mg base "_law_drawn" 2 3 ["_law_script", "_law_k", "_law_many"] m__law_drawn) : FnOk P w K mg base CX0 7 f fd ["_law_script"] (spD K 1 m_law) := by
  refine fnD (k := 6) A_ sc_law rfl fun cdv A outer s H E hr => ?_
  exact (by refine pdss_cons ?_ ?_; (exact (by refine pds_set (i := 1) ?_ ?_ ?_ ?_ ?_ ?_; (exact sc_law.nd); rfl; (exact Or.inl rfl); (exact pde_cst (n := 20) (by kernel_rfl)); rfl; (first | exact .inl rfl | exact .inr rfl))); (exact (pdss_cons (pds_if (pdt_not (pdt_tru (pde_def h__law_tells (hr.mono (by decide)) (pda_cons (pde_ix ix_ok (pde_var (pv 1)) (pde_def h__law_drawn (hr.mono (by decide)) (pda_cons (pde_var (pv 0)) (pda_cons pde_int (pda_cons pde_int pda_nil))) (aCons_len (aCons_len (aCons_len aNil_len))))) pda_nil) (aCons_len aNil_len)))) (pdss_one (pds_ret pde_bl)) pdss_nil) (pdss_one (pds_ret (pde_def h__law_tells (hr.mono (by decide)) (pda_cons (pde_fr (pdf_comp (tn := ["_law_name_here"]) (fr := []) (idx := []) rfl rfl trivial (setOk_nm 0) (pdi_any (pde_def h__law_names (hr.mono (by decide)) (pda_cons (pde_var (pv 0)) (pda_cons pde_int (pda_cons pde_int pda_nil))) (aCons_len (aCons_len (aCons_len aNil_len))))) (fun s H C fp => (pdg_name (show List.Nodup (["_law_name_here"] : List Str) by decide +kernel) rfl (Or.inl rfl))) (fun s H C fp => pdts_nil) (fun s H C fp => (pde_sl (pde_var (pv 0)) pdo_none (pdo_some pde_int))))) pda_nil) (aCons_len aNil_len)))))))
end
theorem all_mk {l : PySem.W.OpenLaw} {w : World} {K : PySem.W.Frag} {h : Heap} {mg : Str → Option Value} {fa : Addr} (X : K.In h) (G : h.Ns mainGlobals mg) (hfa : mg "law" = some (.ref fa)) (hl : ∀ ns : List Int, ns.length ≤ 63 → m_law [.scr ns] = .ok (.bl true))
    {f0 f1 f2 f3 f4 f5 f6 f7 f8 f9 f10 f11 f12 f13 f14 f15 f16 f17 f18 f19 : Addr} {od0 an0 od1 an1 od2 an2 od3 an3 od4 an4 od5 an5 od6 an6 od7 an7 od8 an8 od9 an9 od10 an10 od11 an11 od12 an12 od13 an13 od14 an14 od15 an15 od16 an16 od17 an17 od18 an18 od19 an19 : Option Addr} {sl0 sl1 sl2 sl3 sl4 sl5 sl6 sl7 sl8 sl9 sl10 sl11 sl12 sl13 sl14 sl15 sl16 sl17 sl18 sl19 : Array (Option Value)} {oc0 kV0 dc0 pm0 ct0 cd0 oc1 kV1 dc1 pm1 ct1 cd1 oc2 kV2 dc2 pm2 ct2 cd2 oc3 kV3 dc3 pm3 ct3 cd3 oc4 kV4 dc4 pm4 ct4 cd4 oc5 kV5 dc5 pm5 ct5 cd5 oc6 kV6 dc6 pm6 ct6 cd6 oc7 kV7 dc7 pm7 ct7 cd7 oc8 kV8 dc8 pm8 ct8 cd8 oc9 kV9 dc9 pm9 ct9 cd9 oc10 kV10 dc10 pm10 ct10 cd10 oc11 kV11 dc11 pm11 ct11 cd11 oc12 kV12 dc12 pm12 ct12 cd12 oc13 kV13 dc13 pm13 ct13 cd13 oc14 kV14 dc14 pm14 ct14 cd14 oc15 kV15 dc15 pm15 ct15 cd15 oc16 kV16 dc16 pm16 ct16 cd16 oc17 kV17 dc17 pm17 ct17 cd17 oc18 kV18 dc18 pm18 ct18 cd18 oc19 kV19 dc19 pm19 ct19 cd19 : Value} {t_FIGURES t_GREAT t_SMALL t_MOST_TELLING t_LONGEST_QUERY : Tok}
    (a0 : PySem.W.nsIn K mainGlobals "longer_queries" = some (some (.ref f0))) (l0 : K.lookup f0 = some ⟨oc0, od0, .func (PySem.W.fnOf "longer_queries" "longer_queries" (defArgs s_longer_queries) (defBody s_longer_queries) (defScope s_longer_queries) .none kV0 dc0 pm0 an0 cd0 ct0), sl0⟩) (c0 : PySem.W.codeIn K cd0 "longer_queries" = true) (k0 : PySem.W.keepIn K (.ref f0) = true)
    (a1 : PySem.W.nsIn K mainGlobals "all_queries" = some (some (.ref f1))) (l1 : K.lookup f1 = some ⟨oc1, od1, .func (PySem.W.fnOf "all_queries" "all_queries" (defArgs s_all_queries) (defBody s_all_queries) (defScope s_all_queries) .none kV1 dc1 pm1 an1 cd1 ct1), sl1⟩) (c1 : PySem.W.codeIn K cd1 "all_queries" = true) (k1 : PySem.W.keepIn K (.ref f1) = true)
    (a2 : PySem.W.nsIn K mainGlobals "is_query_sign" = some (some (.ref f2))) (l2 : K.lookup f2 = some ⟨oc2, od2, .func (PySem.W.fnOf "is_query_sign" "is_query_sign" (defArgs s_is_query_sign) (defBody s_is_query_sign) (defScope s_is_query_sign) .none kV2 dc2 pm2 an2 cd2 ct2), sl2⟩) (c2 : PySem.W.codeIn K cd2 "is_query_sign" = true) (k2 : PySem.W.keepIn K (.ref f2) = true)
    (a3 : PySem.W.nsIn K mainGlobals "own_signs" = some (some (.ref f3))) (l3 : K.lookup f3 = some ⟨oc3, od3, .func (PySem.W.fnOf "own_signs" "own_signs" (defArgs s_own_signs) (defBody s_own_signs) (defScope s_own_signs) .none kV3 dc3 pm3 an3 cd3 ct3), sl3⟩) (c3 : PySem.W.codeIn K cd3 "own_signs" = true) (k3 : PySem.W.keepIn K (.ref f3) = true)
    (a4 : PySem.W.nsIn K mainGlobals "meeting_signs" = some (some (.ref f4))) (l4 : K.lookup f4 = some ⟨oc4, od4, .func (PySem.W.fnOf "meeting_signs" "meeting_signs" (defArgs s_meeting_signs) (defBody s_meeting_signs) (defScope s_meeting_signs) .none kV4 dc4 pm4 an4 cd4 ct4), sl4⟩) (c4 : PySem.W.codeIn K cd4 "meeting_signs" = true) (k4 : PySem.W.keepIn K (.ref f4) = true)
    (a5 : PySem.W.nsIn K mainGlobals "fitted_names" = some (some (.ref f5))) (l5 : K.lookup f5 = some ⟨oc5, od5, .func (PySem.W.fnOf "fitted_names" "fitted_names" (defArgs s_fitted_names) (defBody s_fitted_names) (defScope s_fitted_names) .none kV5 dc5 pm5 an5 cd5 ct5), sl5⟩) (c5 : PySem.W.codeIn K cd5 "fitted_names" = true) (k5 : PySem.W.keepIn K (.ref f5) = true)
    (a6 : PySem.W.nsIn K mainGlobals "least_alone" = some (some (.ref f6))) (l6 : K.lookup f6 = some ⟨oc6, od6, .func (PySem.W.fnOf "least_alone" "least_alone" (defArgs s_least_alone) (defBody s_least_alone) (defScope s_least_alone) .none kV6 dc6 pm6 an6 cd6 ct6), sl6⟩) (c6 : PySem.W.codeIn K cd6 "least_alone" = true) (k6 : PySem.W.keepIn K (.ref f6) = true)
    (a7 : PySem.W.nsIn K mainGlobals "telling" = some (some (.ref f7))) (l7 : K.lookup f7 = some ⟨oc7, od7, .func (PySem.W.fnOf "telling" "telling" (defArgs s_telling) (defBody s_telling) (defScope s_telling) .none kV7 dc7 pm7 an7 cd7 ct7), sl7⟩) (c7 : PySem.W.codeIn K cd7 "telling" = true) (k7 : PySem.W.keepIn K (.ref f7) = true)
    (a8 : PySem.W.nsIn K mainGlobals "_law_mark" = some (some (.ref f8))) (l8 : K.lookup f8 = some ⟨oc8, od8, .func (PySem.W.fnOf "_law_mark" "_law_mark" (defArgs s__law_mark) (defBody s__law_mark) (defScope s__law_mark) .none kV8 dc8 pm8 an8 cd8 ct8), sl8⟩) (c8 : PySem.W.codeIn K cd8 "_law_mark" = true) (k8 : PySem.W.keepIn K (.ref f8) = true)
    (a9 : PySem.W.nsIn K mainGlobals "_law_queries" = some (some (.ref f9))) (l9 : K.lookup f9 = some ⟨oc9, od9, .func (PySem.W.fnOf "_law_queries" "_law_queries" (defArgs s__law_queries) (defBody s__law_queries) (defScope s__law_queries) .none kV9 dc9 pm9 an9 cd9 ct9), sl9⟩) (c9 : PySem.W.codeIn K cd9 "_law_queries" = true) (k9 : PySem.W.keepIn K (.ref f9) = true)
    (a10 : PySem.W.nsIn K mainGlobals "meets" = some (some (.ref f10))) (l10 : K.lookup f10 = some ⟨oc10, od10, .func (PySem.W.fnOf "meets" "meets" (defArgs s_meets) (defBody s_meets) (defScope s_meets) .none kV10 dc10 pm10 an10 cd10 ct10), sl10⟩) (c10 : PySem.W.codeIn K cd10 "meets" = true) (k10 : PySem.W.keepIn K (.ref f10) = true)
    (a11 : PySem.W.nsIn K mainGlobals "earliest_places" = some (some (.ref f11))) (l11 : K.lookup f11 = some ⟨oc11, od11, .func (PySem.W.fnOf "earliest_places" "earliest_places" (defArgs s_earliest_places) (defBody s_earliest_places) (defScope s_earliest_places) .none kV11 dc11 pm11 an11 cd11 ct11), sl11⟩) (c11 : PySem.W.codeIn K cd11 "earliest_places" = true) (k11 : PySem.W.keepIn K (.ref f11) = true)
    (a12 : PySem.W.nsIn K mainGlobals "fits" = some (some (.ref f12))) (l12 : K.lookup f12 = some ⟨oc12, od12, .func (PySem.W.fnOf "fits" "fits" (defArgs s_fits) (defBody s_fits) (defScope s_fits) .none kV12 dc12 pm12 an12 cd12 ct12), sl12⟩) (c12 : PySem.W.codeIn K cd12 "fits" = true) (k12 : PySem.W.keepIn K (.ref f12) = true)
    (a13 : PySem.W.nsIn K mainGlobals "is_query" = some (some (.ref f13))) (l13 : K.lookup f13 = some ⟨oc13, od13, .func (PySem.W.fnOf "is_query" "is_query" (defArgs s_is_query) (defBody s_is_query) (defScope s_is_query) .none kV13 dc13 pm13 an13 cd13 ct13), sl13⟩) (c13 : PySem.W.codeIn K cd13 "is_query" = true) (k13 : PySem.W.keepIn K (.ref f13) = true)
    (a14 : PySem.W.nsIn K mainGlobals "_law_tells" = some (some (.ref f14))) (l14 : K.lookup f14 = some ⟨oc14, od14, .func (PySem.W.fnOf "_law_tells" "_law_tells" (defArgs s__law_tells) (defBody s__law_tells) (defScope s__law_tells) .none kV14 dc14 pm14 an14 cd14 ct14), sl14⟩) (c14 : PySem.W.codeIn K cd14 "_law_tells" = true) (k14 : PySem.W.keepIn K (.ref f14) = true)
    (a15 : PySem.W.nsIn K mainGlobals "_law_cell" = some (some (.ref f15))) (l15 : K.lookup f15 = some ⟨oc15, od15, .func (PySem.W.fnOf "_law_cell" "_law_cell" (defArgs s__law_cell) (defBody s__law_cell) (defScope s__law_cell) .none kV15 dc15 pm15 an15 cd15 ct15), sl15⟩) (c15 : PySem.W.codeIn K cd15 "_law_cell" = true) (k15 : PySem.W.keepIn K (.ref f15) = true)
    (a16 : PySem.W.nsIn K mainGlobals "_law_drawn" = some (some (.ref f16))) (l16 : K.lookup f16 = some ⟨oc16, od16, .func (PySem.W.fnOf "_law_drawn" "_law_drawn" (defArgs s__law_drawn) (defBody s__law_drawn) (defScope s__law_drawn) .none kV16 dc16 pm16 an16 cd16 ct16), sl16⟩) (c16 : PySem.W.codeIn K cd16 "_law_drawn" = true) (k16 : PySem.W.keepIn K (.ref f16) = true)
    (a17 : PySem.W.nsIn K mainGlobals "_law_name" = some (some (.ref f17))) (l17 : K.lookup f17 = some ⟨oc17, od17, .func (PySem.W.fnOf "_law_name" "_law_name" (defArgs s__law_name) (defBody s__law_name) (defScope s__law_name) .none kV17 dc17 pm17 an17 cd17 ct17), sl17⟩) (c17 : PySem.W.codeIn K cd17 "_law_name" = true) (k17 : PySem.W.keepIn K (.ref f17) = true)
    (a18 : PySem.W.nsIn K mainGlobals "_law_names" = some (some (.ref f18))) (l18 : K.lookup f18 = some ⟨oc18, od18, .func (PySem.W.fnOf "_law_names" "_law_names" (defArgs s__law_names) (defBody s__law_names) (defScope s__law_names) .none kV18 dc18 pm18 an18 cd18 ct18), sl18⟩) (c18 : PySem.W.codeIn K cd18 "_law_names" = true) (k18 : PySem.W.keepIn K (.ref f18) = true)
    (a19 : PySem.W.nsIn K mainGlobals "law" = some (some (.ref f19))) (l19 : K.lookup f19 = some ⟨oc19, od19, .func (PySem.W.fnOf "law" "law" (defArgs s_law) (defBody s_law) (defScope s_law) .none kV19 dc19 pm19 an19 cd19 ct19), sl19⟩) (c19 : PySem.W.codeIn K cd19 "law" = true) (k19 : PySem.W.keepIn K (.ref f19) = true)
    (g_FIGURES : PySem.W.nsIn K mainGlobals "FIGURES" = some (some (.str "0123456789" t_FIGURES)))
    (g_GREAT : PySem.W.nsIn K mainGlobals "GREAT" = some (some (.str "ABCDEFGHIJKLMNOPQRSTUVWXYZ" t_GREAT)))
    (g_SMALL : PySem.W.nsIn K mainGlobals "SMALL" = some (some (.str "abcdefghijklmnopqrstuvwxyz" t_SMALL)))
    (g_MOST_TELLING : PySem.W.nsIn K mainGlobals "MOST_TELLING" = some (some (.int 3 t_MOST_TELLING)))
    (g_LONGEST_QUERY : PySem.W.nsIn K mainGlobals "LONGEST_QUERY" = some (some (.int 8 t_LONGEST_QUERY)))
    (z_len : PySem.W.nsIn K mainGlobals "len" = some none)
    (z_range : PySem.W.nsIn K mainGlobals "range" = some none)
    (z_list : PySem.W.nsIn K mainGlobals "list" = some none)
    (z_min : PySem.W.nsIn K mainGlobals "min" = some none)
    (z_enumerate : PySem.W.nsIn K mainGlobals "enumerate" = some none)
    (z_sorted : PySem.W.nsIn K mainGlobals "sorted" = some none)
    (z_set : PySem.W.nsIn K mainGlobals "set" = some none)
    (z_all : PySem.W.nsIn K mainGlobals "all" = some none)
    (z_str : PySem.W.nsIn K mainGlobals "str" = some none)
    (z_isinstance : PySem.W.nsIn K mainGlobals "isinstance" = some none)
    : ∃ fd : FuncData, (∀ (s : Shared) (v : Value), BindsTo s fd ⟨[v], []⟩ [("_law_script", v)]) ∧ ∀ base : Heap, K.In base → base.Ns mainGlobals mg → FnOk l.prog w K mg base CX0 7 fa fd ["_law_script"] (spLaw K) := by
  have e := hfa.symm.trans (PySem.W.mg_of X G a19)
  cases e
  have D0 : DefAt K mg "longer_queries" s_longer_queries f0 _ := ⟨fun_mk (st := s_longer_queries) l0 c0 k0, PySem.W.mg_of X G a0⟩
  have D1 : DefAt K mg "all_queries" s_all_queries f1 _ := ⟨fun_mk (st := s_all_queries) l1 c1 k1, PySem.W.mg_of X G a1⟩
  have D2 : DefAt K mg "is_query_sign" s_is_query_sign f2 _ := ⟨fun_mk (st := s_is_query_sign) l2 c2 k2, PySem.W.mg_of X G a2⟩
  have D3 : DefAt K mg "own_signs" s_own_signs f3 _ := ⟨fun_mk (st := s_own_signs) l3 c3 k3, PySem.W.mg_of X G a3⟩
  have D4 : DefAt K mg "meeting_signs" s_meeting_signs f4 _ := ⟨fun_mk (st := s_meeting_signs) l4 c4 k4, PySem.W.mg_of X G a4⟩
  have D5 : DefAt K mg "fitted_names" s_fitted_names f5 _ := ⟨fun_mk (st := s_fitted_names) l5 c5 k5, PySem.W.mg_of X G a5⟩
  have D6 : DefAt K mg "least_alone" s_least_alone f6 _ := ⟨fun_mk (st := s_least_alone) l6 c6 k6, PySem.W.mg_of X G a6⟩
  have D7 : DefAt K mg "telling" s_telling f7 _ := ⟨fun_mk (st := s_telling) l7 c7 k7, PySem.W.mg_of X G a7⟩
  have D8 : DefAt K mg "_law_mark" s__law_mark f8 _ := ⟨fun_mk (st := s__law_mark) l8 c8 k8, PySem.W.mg_of X G a8⟩
  have D9 : DefAt K mg "_law_queries" s__law_queries f9 _ := ⟨fun_mk (st := s__law_queries) l9 c9 k9, PySem.W.mg_of X G a9⟩
  have D10 : DefAt K mg "meets" s_meets f10 _ := ⟨fun_mk (st := s_meets) l10 c10 k10, PySem.W.mg_of X G a10⟩
  have D11 : DefAt K mg "earliest_places" s_earliest_places f11 _ := ⟨fun_mk (st := s_earliest_places) l11 c11 k11, PySem.W.mg_of X G a11⟩
  have D12 : DefAt K mg "fits" s_fits f12 _ := ⟨fun_mk (st := s_fits) l12 c12 k12, PySem.W.mg_of X G a12⟩
  have D13 : DefAt K mg "is_query" s_is_query f13 _ := ⟨fun_mk (st := s_is_query) l13 c13 k13, PySem.W.mg_of X G a13⟩
  have D14 : DefAt K mg "_law_tells" s__law_tells f14 _ := ⟨fun_mk (st := s__law_tells) l14 c14 k14, PySem.W.mg_of X G a14⟩
  have D15 : DefAt K mg "_law_cell" s__law_cell f15 _ := ⟨fun_mk (st := s__law_cell) l15 c15 k15, PySem.W.mg_of X G a15⟩
  have D16 : DefAt K mg "_law_drawn" s__law_drawn f16 _ := ⟨fun_mk (st := s__law_drawn) l16 c16 k16, PySem.W.mg_of X G a16⟩
  have D17 : DefAt K mg "_law_name" s__law_name f17 _ := ⟨fun_mk (st := s__law_name) l17 c17 k17, PySem.W.mg_of X G a17⟩
  have D18 : DefAt K mg "_law_names" s__law_names f18 _ := ⟨fun_mk (st := s__law_names) l18 c18 k18, PySem.W.mg_of X G a18⟩
  refine ⟨PySem.W.fnOf "law" "law" (defArgs s_law) (defBody s_law) (defScope s_law) .none kV19 dc19 pm19 an19 cd19 ct19, fun s v => .of_eq rfl, fun base _ _ => ?_⟩
  have h_longer_queries : DefOk l.prog w K mg base "longer_queries" 1 2 ["ends", "choices"] m_longer_queries := ok_longer_queries D0 (PySem.W.mg_none_of X G z_len) (PySem.W.mg_none_of X G z_range)
  have h_all_queries : DefOk l.prog w K mg base "all_queries" 2 2 ["choices", "length"] m_all_queries := ok_all_queries D1 h_longer_queries (PySem.W.mg_none_of X G z_list) (PySem.W.mg_none_of X G z_range)
  have h_is_query_sign : DefOk l.prog w K mg base "is_query_sign" 1 1 ["sign"] m_is_query_sign := ok_is_query_sign D2 (PySem.W.mg_of X G g_FIGURES) (PySem.W.mg_of X G g_GREAT) (PySem.W.mg_of X G g_SMALL)
  have h_own_signs : DefOk l.prog w K mg base "own_signs" 2 1 ["sign"] m_own_signs := ok_own_signs D3 h_is_query_sign
  have h_meeting_signs : DefOk l.prog w K mg base "meeting_signs" 3 1 ["sign"] m_meeting_signs := ok_meeting_signs D4 h_own_signs (PySem.W.mg_of X G g_GREAT)
  have h_fitted_names : DefOk l.prog w K mg base "fitted_names" 4 2 ["names", "length"] m_fitted_names := ok_fitted_names D5 h_meeting_signs h_all_queries
  have h_least_alone : DefOk l.prog w K mg base "least_alone" 3 3 ["name", "length", "fitted"] m_least_alone := ok_least_alone D6 h_own_signs h_all_queries (PySem.W.mg_none_of X G z_min)
  have h_telling : DefOk l.prog w K mg base "telling" 5 1 ["names"] m_telling := ok_telling D7 h_least_alone h_fitted_names (PySem.W.mg_of X G g_MOST_TELLING) (PySem.W.mg_none_of X G z_range) (PySem.W.mg_none_of X G z_enumerate) (PySem.W.mg_none_of X G z_len)
  have h__law_mark : DefOk l.prog w K mg base "_law_mark" 1 1 ["_law_sign"] m__law_mark := ok__law_mark D8
  have h__law_queries : DefOk l.prog w K mg base "_law_queries" 2 2 ["_law_name_here", "_law_many"] m__law_queries := ok__law_queries D9 h__law_mark (PySem.W.mg_none_of X G z_len) (PySem.W.mg_none_of X G z_sorted) (PySem.W.mg_none_of X G z_set)
  have h_meets : DefOk l.prog w K mg base "meets" 1 2 ["sign", "other"] m_meets := ok_meets D10 (PySem.W.mg_of X G g_SMALL)
  have h_earliest_places : DefOk l.prog w K mg base "earliest_places" 2 2 ["query", "name"] m_earliest_places := ok_earliest_places D11 h_meets (PySem.W.mg_none_of X G z_len) (PySem.W.mg_none_of X G z_range)
  have h_fits : DefOk l.prog w K mg base "fits" 3 2 ["query", "name"] m_fits := ok_fits D12 h_earliest_places (PySem.W.mg_none_of X G z_len)
  have h_is_query : DefOk l.prog w K mg base "is_query" 2 1 ["thing"] m_is_query := ok_is_query D13 h_is_query_sign (PySem.W.mg_of X G g_LONGEST_QUERY) (PySem.W.mg_none_of X G z_all) (PySem.W.mg_none_of X G z_len) (PySem.W.mg_none_of X G z_str) (PySem.W.mg_none_of X G z_isinstance)
  have h__law_tells : DefOk l.prog w K mg base "_law_tells" 6 1 ["_law_names_here"] m__law_tells := ok__law_tells D14 h_is_query h_fits h__law_queries h_telling (PySem.W.mg_none_of X G z_enumerate) (PySem.W.mg_none_of X G z_range) (PySem.W.mg_none_of X G z_len) (PySem.W.mg_none_of X G z_list) (PySem.W.mg_none_of X G z_isinstance)
  have h__law_cell : DefOk l.prog w K mg base "_law_cell" 1 2 ["_law_script", "_law_k"] m__law_cell := ok__law_cell D15 (PySem.W.mg_none_of X G z_len)
  have h__law_drawn : DefOk l.prog w K mg base "_law_drawn" 2 3 ["_law_script", "_law_k", "_law_many"] m__law_drawn := ok__law_drawn D16 h__law_cell
  have h__law_name : DefOk l.prog w K mg base "_law_name" 3 2 ["_law_script", "_law_at"] m__law_name := ok__law_name D17 h__law_drawn (PySem.W.mg_none_of X G z_range)
  have h__law_names : DefOk l.prog w K mg base "_law_names" 4 3 ["_law_script", "_law_at", "_law_most"] m__law_names := ok__law_names D18 h__law_drawn h__law_name (PySem.W.mg_none_of X G z_len) (PySem.W.mg_none_of X G z_range)
  exact law_fn (ok_law (fun_mk (st := s_law) l19 c19 k19) h__law_names h__law_tells h__law_drawn) hl
end Law
open PySem PySem.W PyProof.Rows
set_option maxRecDepth 100000 in
set_option maxHeartbeats 0 in
theorem PySem.Challenge.cw_fewfind_k82_telling_holds : PySem.Challenge.rw_fewfind_k82_telling.Holds := by
  w_on; o_law; k_head; (case hw => w_witness2)
  k_fill
  refine FD.walk (l := PySem.Challenge.rw_fewfind_k82_telling) (k := 7) (p := "_law_script") rfl rfl ⟨rfl, by decide, by decide⟩ (fun w h Y => PySem.W.kIn_of Y) ?F
  case F =>
    intro w mg fa h KX G hmg
    refine' Law.all_mk KX G hmg Law.main ?a0 ?l0 ?c0 ?k0 ?a1 ?l1 ?c1 ?k1 ?a2 ?l2 ?c2 ?k2 ?a3 ?l3 ?c3 ?k3 ?a4 ?l4 ?c4 ?k4 ?a5 ?l5 ?c5 ?k5 ?a6 ?l6 ?c6 ?k6 ?a7 ?l7 ?c7 ?k7 ?a8 ?l8 ?c8 ?k8 ?a9 ?l9 ?c9 ?k9 ?a10 ?l10 ?c10 ?k10 ?a11 ?l11 ?c11 ?k11 ?a12 ?l12 ?c12 ?k12 ?a13 ?l13 ?c13 ?k13 ?a14 ?l14 ?c14 ?k14 ?a15 ?l15 ?c15 ?k15 ?a16 ?l16 ?c16 ?k16 ?a17 ?l17 ?c17 ?k17 ?a18 ?l18 ?c18 ?k18 ?a19 ?l19 ?c19 ?k19 ?g_FIGURES ?g_GREAT ?g_SMALL ?g_MOST_TELLING ?g_LONGEST_QUERY ?z_len ?z_range ?z_list ?z_min ?z_enumerate ?z_sorted ?z_set ?z_all ?z_str ?z_isinstance
    (case a0 => k_is)
    (case l0 => k_is)
    (case c0 => k_is)
    (case k0 => k_is)
    (case a1 => k_is)
    (case l1 => k_is)
    (case c1 => k_is)
    (case k1 => k_is)
    (case a2 => k_is)
    (case l2 => k_is)
    (case c2 => k_is)
    (case k2 => k_is)
    (case a3 => k_is)
    (case l3 => k_is)
    (case c3 => k_is)
    (case k3 => k_is)
    (case a4 => k_is)
    (case l4 => k_is)
    (case c4 => k_is)
    (case k4 => k_is)
    (case a5 => k_is)
    (case l5 => k_is)
    (case c5 => k_is)
    (case k5 => k_is)
    (case a6 => k_is)
    (case l6 => k_is)
    (case c6 => k_is)
    (case k6 => k_is)
    (case a7 => k_is)
    (case l7 => k_is)
    (case c7 => k_is)
    (case k7 => k_is)
    (case a8 => k_is)
    (case l8 => k_is)
    (case c8 => k_is)
    (case k8 => k_is)
    (case a9 => k_is)
    (case l9 => k_is)
    (case c9 => k_is)
    (case k9 => k_is)
    (case a10 => k_is)
    (case l10 => k_is)
    (case c10 => k_is)
    (case k10 => k_is)
    (case a11 => k_is)
    (case l11 => k_is)
    (case c11 => k_is)
    (case k11 => k_is)
    (case a12 => k_is)
    (case l12 => k_is)
    (case c12 => k_is)
    (case k12 => k_is)
    (case a13 => k_is)
    (case l13 => k_is)
    (case c13 => k_is)
    (case k13 => k_is)
    (case a14 => k_is)
    (case l14 => k_is)
    (case c14 => k_is)
    (case k14 => k_is)
    (case a15 => k_is)
    (case l15 => k_is)
    (case c15 => k_is)
    (case k15 => k_is)
    (case a16 => k_is)
    (case l16 => k_is)
    (case c16 => k_is)
    (case k16 => k_is)
    (case a17 => k_is)
    (case l17 => k_is)
    (case c17 => k_is)
    (case k17 => k_is)
    (case a18 => k_is)
    (case l18 => k_is)
    (case c18 => k_is)
    (case k18 => k_is)
    (case a19 => k_is)
    (case l19 => k_is)
    (case c19 => k_is)
    (case k19 => k_is)
    (case g_FIGURES => k_is)
    (case g_GREAT => k_is)
    (case g_SMALL => k_is)
    (case g_MOST_TELLING => k_is)
    (case g_LONGEST_QUERY => k_is)
    (case z_len => k_is)
    (case z_range => k_is)
    (case z_list => k_is)
    (case z_min => k_is)
    (case z_enumerate => k_is)
    (case z_sorted => k_is)
    (case z_set => k_is)
    (case z_all => k_is)
    (case z_str => k_is)
    (case z_isinstance => k_is)
