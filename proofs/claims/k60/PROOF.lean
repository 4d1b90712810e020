import PyProof.Rows.All
import Wide.All
import OpenK.AllK
import Wide.FinOn
import Lean
import PyProof.EqAt
import PyProof.EqKinds
import PyProof.TupleCall
import PyProof.NeKinds
import PyProof.NeData
import PyProof.P3In
import PyProof.ZipIter
import PyProof.Draws
import PyProof.StrWalks
import PyProof.IsiPairs
import PyProof.IsiSeqPairs
import PyProof.ConsumeWalk
import PyProof.ListStr
import PyProof.IsiHeapPairs
import PyProof.Rows.Range3
import PyProof.IsiNone
import KE.KRevIter
import KE.KRevSl
import PyProof.Conv_int_bool
import PyProof.ListRange
import PyProof.TupleOfSeq
import PyProof.MinMaxWalk
import PyProof.WalkInts
import PyProof.SeqI3
import PyProof.SetKind
import PyProof.Rows.SetFrom
import PyProof.CollectWalk
import PyProof.FactsAll.set
import PyProof.Rows.SortWalk
import PyProof.Rows.SortShell
import PyProof.Rows.SumAny
import PySem.Challenge.RW_fewfind_k60_words
set_option Elab.async false
set_option linter.all false
set_option maxRecDepth 100000
namespace L2
open PySem PySem.Spec PyProof.Rows
theorem lnz1 {α:Type _} {l:List α} (h:l.length = 1):∃ a,l = [a]:=List.length_eq_one_iff.mp h
theorem lnz2 {α:Type _} {l:List α} (h:l.length = 2):∃ a b,l = [a,b]:=by
 match l,h with
 | [a,b],_=>exact ⟨a,b,rfl⟩
theorem lnz3 {α:Type _} {l:List α} (h:l.length = 3):∃ a b c,l = [a,b,c]:=by
 match l,h with
 | [a,b,c],_=>exact ⟨a,b,c,rfl⟩
theorem lnz4 {α:Type _} {l:List α} (h:l.length = 4):∃ a b c d,l = [a,b,c,d]:=by
 match l,h with
 | [a,b,c,d],_=>exact ⟨a,b,c,d,rfl⟩
noncomputable abbrev Key:=Sum Int Str
noncomputable def keyIs:Key→Value→Bool
 | .inl k,v=>Value.isInt k v
 | .inr x,v=>Value.isStrOf x v
noncomputable def keyH (w:World):Key→Int
 | .inl k=>hashInt k
 | .inr x=>hashStr w x
theorem zm5:∀ {k:Key} {v:Value},keyIs k v = true→(∃ i t,k = Sum.inl i∧v = Value.int i t)∨(∃ x t,k = Sum.inr x∧v = Value.str x t)
 | .inl i,v,h=>by
  obtain ⟨t,e⟩:=Value.isInt_shape (k:=i) (v:=v) h
  exact .inl ⟨i,t,rfl,e⟩
 | .inr x,v,h=>by
  obtain ⟨t,e⟩:=Value.isStrOf_shape (x:=x) (v:=v) h
  exact .inr ⟨x,t,rfl,e⟩
theorem key_ll (a b:Int):decide ((Sum.inl a:Key) = Sum.inl b) = (a == b):=by
 by_cases e:a = b
 ·subst e;simp
 ·have h:¬ (Sum.inl a:Key) = Sum.inl b:=fun q=>e (Sum.inl.inj q)
  rw [decide_eq_false h]
  exact (beq_eq_false_iff_ne.mpr e).symm
theorem key_rr (a b:Str):decide ((Sum.inr a:Key) = Sum.inr b) = decide (a = b):=by
 by_cases e:a = b
 ·subst e;simp
 ·have h:¬ (Sum.inr a:Key) = Sum.inr b:=fun q=>e (Sum.inr.inj q)
  rw [decide_eq_false h,decide_eq_false e]
theorem key_lr (a:Int) (b:Str):decide ((Sum.inl a:Key) = Sum.inr b) = false:=decide_eq_false (fun q=>nomatch q)
theorem key_rl (a:Str) (b:Int):decide ((Sum.inr a:Key) = Sum.inl b) = false:=decide_eq_false (fun q=>nomatch q)
noncomputable def zV4 (prog:Program) (w:World):PySem.KeyKind prog w Key where
 is:=keyIs
 hash:=keyH w
 inj:=fun v a b ha hb=>by
  rcases zm5 ha with ⟨i,t,rfl,rfl⟩ | ⟨x,t,rfl,rfl⟩
  ·rcases zm5 hb with ⟨j,u,rfl,e⟩ | ⟨y,u,rfl,e⟩
   ·injection e with e1 _;rw [e1]
   ·exact nomatch e
  ·rcases zm5 hb with ⟨j,u,rfl,e⟩ | ⟨y,u,rfl,e⟩
   ·exact nomatch e
   ·injection e with e1 _;rw [e1]
 byValue:=fun k v h=>by
  rcases zm5 h with ⟨i,t,rfl,rfl⟩ | ⟨x,t,rfl,rfl⟩ <;> rfl
 pyHash:=fun hv h=>by
  rcases zm5 hv with ⟨i,t,rfl,rfl⟩ | ⟨x,t,rfl,rfl⟩
  ·exact wpAny_pyHash_int h
  ·exact wpAny_pyHash_str h
 eqBool:=fun hu hv h=>by
  rcases zm5 hu with ⟨i,t,rfl,rfl⟩ | ⟨x,t,rfl,rfl⟩
  ·rcases zm5 hv with ⟨j,u,rfl,rfl⟩ | ⟨y,u,rfl,rfl⟩
   ·rw [key_ll] at h;exact wpAny_eqBool_int h
   ·rw [key_lr] at h;exact SeqAt.EqAt.int_str i t y u _ _ _ _ h
  ·rcases zm5 hv with ⟨j,u,rfl,rfl⟩ | ⟨y,u,rfl,rfl⟩
   ·rw [key_rl] at h;exact SeqAt.EqAt.str_int x t j u _ _ _ _ h
   ·rw [key_rr] at h;exact wpAny_eqBool_str h
 «strs»:=fun k x t v h=>by
  rcases zm5 h with ⟨i,u,rfl,e⟩ | ⟨y,u,rfl,e⟩
  ·exact nomatch e
  ·injection e with e1 _
   subst e1
   cases v <;> rfl
inductive V where
 | non | bl (b:Bool) | int (i:Int) | str (x:Str) | byt (b:Array UInt8) | flt (b:UInt64) | ref (a:Addr) | ty (n:String)
 deriving DecidableEq
noncomputable def RelV:V→Value→Prop
 | .non,u=>u = Value.none
 | .bl b,u=>u = Value.bool b
 | .int i,u=>∃ t,u = Value.int i t
 | .str x,u=>∃ t,u = Value.str x t
 | .byt b,u=>∃ t,u = Value.bytes b t
 | .flt b,u=>∃ t,u = Value.float b t
 | .ref a,u=>u = Value.ref a
 | .ty n,u=>u = Value.type n
noncomputable abbrev Vals:List V→List Value→Prop:=Paired RelV
theorem Vals.length {xs:List V} {us:List Value} (r:Vals xs us):xs.length = us.length:=Paired.length r
theorem Vals.get:∀ {xs:List V} {us:List Value} {i:Nat} {x:V},Vals xs us→xs[i]? = some x→∃ u,us[i]? = some u∧RelV x u
 | _,_,_,_,.nil,e=>by simp at e
 | _,_,0,_,.cons r _,e=>by simp at e;subst e;exact ⟨_,rfl,r⟩
 | _,_,i + 1,x,.cons _ t,e=>by
  obtain ⟨u,h1,h2⟩:=Vals.get (i:=i) (x:=x) t (by simpa using e)
  exact ⟨u,by simpa using h1,h2⟩
theorem Vals.set {x:V} {u:Value} (r:RelV x u):∀ {xs:List V} {us:List Value} (i:Nat),Vals xs us→Vals (xs.set i x) (us.set i u)
 | _,_,_,.nil=>.nil
 | _,_,0,.cons _ t=>.cons r t
 | _,_,i + 1,.cons q t=>.cons q (Vals.set r i t)
theorem Vals.append:∀ {xs ys:List V} {us ws:List Value},Vals xs us→Vals ys ws→Vals (xs ++ ys) (us ++ ws)
 | _,_,_,_,.nil,s=>s
 | _,_,_,_,.cons r t,s=>.cons r (Vals.append t s)
theorem Vals.take:∀ {xs:List V} {us:List Value} (n:Nat),Vals xs us→Vals (xs.take n) (us.take n)
 | _,_,0,_=>.nil
 | _,_,_ + 1,.nil=>.nil
 | _,_,n + 1,.cons r t=>.cons r (Vals.take n t)
theorem Vals.drop:∀ {xs:List V} {us:List Value} (n:Nat),Vals xs us→Vals (xs.drop n) (us.drop n)
 | _,_,0,r=>r
 | _,_,_ + 1,.nil=>.nil
 | _,_,n + 1,.cons _ t=>Vals.drop n t
noncomputable def RelO:Option V→Option Value→Prop
 | some v,some u=>RelV v u
 | none,none=>True
 | _,_=>False
noncomputable def KV {κ:Type}:List (κ×V)→List (κ×Value)→Prop:=Paired fun (p:κ×V) (q:κ×Value)=>p.1 = q.1∧RelV p.2 q.2
noncomputable def kV:Key→V
 | .inl i=>.int i
 | .inr x=>.str x
inductive HO where
 | lst (xs:List V)
 | tup (xs:List V)
 | dK (kvs:List (Key×V)) | dT (kvs:List (List Key×V))
 | set (S:Int→Bool) (n:Nat)
 | ins (C dx:Addr) (fs:List (Str×V))
 | own (x:Addr)
 | xd (fs:List (Str×V))
 | met (f x:Addr)
 | rng (lo hi:Int)
 | frz (o:Obj) (u:HO)
 | tbl (ps:Array Value)
 | ext (φ:Heap→Prop)
noncomputable abbrev Hp:=Addr→Option HO
noncomputable def upd (H:Hp) (a:Addr) (o:HO):Hp:=fun b=>if b = a then some o else H b
theorem ze6 {H:Hp} {a:Addr} {o:HO}:upd H a o a = some o:=by unfold upd;rw [if_pos rfl]
theorem ze2 {H:Hp} {a b:Addr} {o:HO} (h:b≠a):upd H a o b = H b:=by unfold upd;rw [if_neg h]
theorem zg4 {H:Hp} {a b:Addr} {o:HO} (h:H a = some o) (h':H b = none):a≠b:=by
 intro e;subst e;rw [h] at h';cases h'
section
variable (P:Program) (w:World)
noncomputable def ObjOk (H:Hp) (h:Heap) (a:Addr):HO→Prop
 | .lst xs=>xs.length≤sizeLine∧∃ (its:List Value) (n:Nat),Vals xs its∧h.get? a = some { cls:=.type "list", data:=.seq its.toArray n }
 | .tup xs=>xs.length≤sizeLine∧∃ its:List Value,Vals xs its∧IsTup h a its.toArray
 | .dK kvs=>kvs.length≤sizeLine∧(a == sysModules) = false∧∃ vs,KV kvs vs∧h.DictOf (zV4 P w) a vs
 | .dT kvs=>kvs.length≤sizeLine∧(a == sysModules) = false∧∃ xs:List (List Key×Addr×Value),
   Paired (fun (p:List Key×V) (q:List Key×Addr×Value)=>p.1 = q.1∧H q.2.1 = some (.tup (p.1.map kV))∧RelV p.2 q.2.2) kvs xs ∧
   ∃ o es ep,h.get? a = some o∧o.ExactDict∧o.data = .dict es ep∧es.toList = xs.map (entryOfKey (tupleKind (zV4 P w)))∧(xs.map (·.1)).Nodup
 | .set S n=>h.SetOf (intKind P w) a S n
 | .ins C dx fs=>H dx = some (.own a)∧fs.length≤1000∧dx≠a∧h.get? a = some (PySem.W.instObj C dx) ∧
   ∃ mA,h.Ns1 dx mA∧(∀ f,RelO (fs.lookup f) (mA f))∧PySem.Within mA (fs.map (·.1))
 | .own _=>∃ o,h.get? a = some o
 | .xd fs=>∃ mA,h.Ns1 a mA∧∀ f,RelO (fs.lookup f) (mA f)
 | .rng lo hi=>∃ t u v,h.get? a = some { cls:=.type "range", data:=.fields #[.int lo t,.int hi u,.int 1 v] }
 | .frz o u=>h.get? a = some o∧ObjOk H h a u
 | .tbl ps=>h.get? a = some { cls:=.none,data:=.fields ps }
 | .met f x=>h.get? a = some (PySem.W.methodObj (.ref f) (.ref x))
 | .ext φ=>φ h∧(∃ o,h.get? a = some o)∧∀ h1 h2:Heap,φ h1→(∀ o,h1.get? a = some o→h2.get? a = some o)→φ h2
noncomputable def HOk (H:Hp) (h:Heap):Prop:=∀ a o,H a = some o→ObjOk P w H h a o
end
section
variable {P:Program} {w:World} {H H':Hp} {h h':Heap} {a:Addr} {o:HO}
theorem ObjOk.lt (x:ObjOk P w H h a o):a < h.objs.size:=by
 cases o with
 | lst xs=>obtain ⟨_,_,_,_,e⟩:=x;exact Heap.lt_size e
 | tup xs=>obtain ⟨_,_,_,p⟩:=x;exact p.lt
 | dK kvs=>obtain ⟨_,_,_,_,o,_,_,e,_⟩:=x;exact Heap.lt_size e
 | dT kvs=>obtain ⟨_,_,_,_,o,_,_,e,_⟩:=x;exact Heap.lt_size e
 | set S n=>obtain ⟨o,_,_,_,e,_⟩:=x;exact Heap.lt_size e
 | ins C dx fs=>obtain ⟨_,_,_,e,_⟩:=x;exact Heap.lt_size e
 | own y=>obtain ⟨_,e⟩:=x;exact Heap.lt_size e
 | xd fs=>obtain ⟨_,⟨_,_,_,e,_⟩,_⟩:=x;exact Heap.lt_size e
 | rng lo hi=>obtain ⟨_,_,_,e⟩:=x;exact Heap.lt_size e
 | frz ob u=>obtain ⟨e,_⟩:=x;exact Heap.lt_size e
 | tbl ps=>exact Heap.lt_size (show h.get? a = some _ from x)
 | met f y=>exact Heap.lt_size (show h.get? a = some _ from x)
 | ext φ=>obtain ⟨_,⟨_,e⟩,_⟩:=x;exact Heap.lt_size e
theorem Paired.mapP {α β:Type} {F G:α→β→Prop}:∀ {l₁:List α} {l₂:List β},Paired F l₁ l₂→(∀ a b,F a b→G a b)→Paired G l₁ l₂
 | _,_,.nil,_=>.nil
 | _,_,.cons r t,f=>.cons (f _ _ r) (Paired.mapP t f)
theorem ObjOk.stay (x:ObjOk P w H h a o) (k:∀ b u,(b = a∨H b = some (.own a))→h.get? b = some u→h'.get? b = some u)
  (ho:∀ b,H b = some (.own a)→H' b = some (.own a)) (ht:∀ b xs,H b = some (.tup xs)→H' b = some (.tup xs)):ObjOk P w H' h' a o:=by
 induction o with
 | lst xs=>obtain ⟨z,its,n,r,e⟩:=x;exact ⟨z,its,n,r,k _ _ (.inl rfl) e⟩
 | tup xs=>obtain ⟨z,its,r,ob,e,c⟩:=x;exact ⟨z,its,r,ob,k _ _ (.inl rfl) e,c⟩
 | dK kvs=>obtain ⟨z,y,vs,r,ob,es,ep,e,c⟩:=x;exact ⟨z,y,vs,r,ob,es,ep,k _ _ (.inl rfl) e,c⟩
 | dT kvs=>
  obtain ⟨z,y,xs,r,ob,es,ep,e,c⟩:=x
  exact ⟨z,y,xs,Paired.mapP r fun p q z=>⟨z.1,ht _ _ z.2.1,z.2.2⟩,ob,es,ep,k _ _ (.inl rfl) e,c⟩
 | set S n=>obtain ⟨ob,es,ep,t,e,c⟩:=x;exact ⟨ob,es,ep,t,k _ _ (.inl rfl) e,c⟩
 | ins C dx fs=>
  obtain ⟨d,z,ne,e,mA,⟨od,es,ep,e2,c⟩,r⟩:=x
  exact ⟨ho _ d,z,ne,k _ _ (.inl rfl) e,mA,⟨od,es,ep,k _ _ (.inr d) e2,c⟩,r⟩
 | own y=>obtain ⟨ob,e⟩:=x;exact ⟨ob,k _ _ (.inl rfl) e⟩
 | xd fs=>obtain ⟨mA,⟨od,es,ep,e,c⟩,r⟩:=x;exact ⟨mA,⟨od,es,ep,k _ _ (.inl rfl) e,c⟩,r⟩
 | rng lo hi=>obtain ⟨t,u,v,e⟩:=x;exact ⟨t,u,v,k _ _ (.inl rfl) e⟩
 | frz ob u ih=>obtain ⟨e,q⟩:=x;exact ⟨k _ _ (.inl rfl) e,ih q⟩
 | tbl ps=>
  have e:h.get? a = some { cls:=.none,data:=.fields ps }:=x
  show h'.get? a = some { cls:=.none,data:=.fields ps }
  exact k a _ (.inl rfl) e
 | met f y=>
  have e:h.get? a = some (PySem.W.methodObj (.ref f) (.ref y)):=x
  show h'.get? a = some (PySem.W.methodObj (.ref f) (.ref y))
  exact k a _ (.inl rfl) e
 | ext φ=>obtain ⟨p,⟨o,e⟩,st⟩:=x;exact ⟨st _ _ p fun o q=>k _ _ (.inl rfl) q,⟨o,k _ _ (.inl rfl) e⟩,st⟩
theorem HOk.lt (x:HOk P w H h) (e:H a = some o):a < h.objs.size:=(x a o e).lt
theorem HOk.fresh (x:HOk P w H h) (e:h.objs.size≤a):H a = none:=by
 cases q:H a with
 | none=>rfl
 | some u=>exact absurd (Nat.lt_of_lt_of_le (x.lt q) e) (Nat.lt_irrefl _)
theorem HOk.kept (x:HOk P w H h) (k:∀ b u,h.get? b = some u→h'.get? b = some u):HOk P w H h':=fun a o e=>
 (x a o e).stay (fun b u _ q=>k b u q) (fun _ q=>q) fun _ _ q=>q
theorem HOk.laid (x:HOk P w H h) (k:∀ b u,h.get? b = some u→h'.get? b = some u) (hp:h.objs.size≤a) (new:ObjOk P w (upd H a o) h' a o):HOk P w (upd H a o) h':=fun b u e=>by
 have hn:=x.fresh hp
 by_cases hb:b = a
 ·subst hb;rw [ze6] at e;cases e;exact new
 ·rw [ze2 hb] at e
  exact (x b u e).stay (fun c v _ q=>k c v q) (fun c q=>by rw [ze2 (zg4 q hn)];exact q) fun c xs q=>by rw [ze2 (zg4 q hn)];exact q
end
noncomputable def Rd (H:Hp) (a:Addr) (u:HO):Prop:=H a = some u∨∃ o,H a = some (.frz o u)
theorem Rd.of {H:Hp} {a:Addr} {u:HO} (h:H a = some u):Rd H a u:=.inl h
theorem Rd.ok {P:Program} {w:World} {H:Hp} {h:Heap} {a:Addr} {u:HO} (r:Rd H a u) (x:HOk P w H h):ObjOk P w H h a u:=by
 rcases r with r | ⟨o,r⟩
 ·exact x a u r
 ·obtain ⟨_,q⟩:=x a _ r
  exact q
noncomputable def Mut:Option HO→Prop
 | some (.lst _)=>True
 | some (.dK _)=>True
 | some (.dT _)=>True
 | some (.set _ _)=>True
 | some (.ins _ _ _)=>True
 | some (.ext _)=>True
 | _=>False
section
variable {P:Program} {w:World} {H:Hp} {h h':Heap} {x e:Addr} {o':HO}
theorem HOk.write (ok:HOk P w H h) (mu:Mut (H x)) (he:e = x∨H e = some (.own x)) (k:∀ b u,b≠e→h.get? b = some u→h'.get? b = some u) (heo:∃ u,h'.get? e = some u)
  (new:ObjOk P w (upd H x o') h' x o'):HOk P w (upd H x o') h':=fun b u q=>by
 have nown:∀ c y,H c = some (.own y)→c≠x:=fun c y r z=>by subst z;rw [r] at mu;exact mu
 have ntup:∀ c xs,H c = some (.tup xs)→c≠x:=fun c xs r z=>by subst z;rw [r] at mu;exact mu
 by_cases hb:b = x
 ·subst hb;rw [ze6] at q;cases q;exact new
 ·rw [ze2 hb] at q
  by_cases hbe:b = e
  ·have q':H b = some (.own x):=by
    rcases he with z | z
    ·exact absurd (hbe.trans z) hb
    ·rw [hbe];exact z
   rw [q] at q';cases q'
   obtain ⟨v,hv⟩:=heo
   exact ⟨v,by rw [hbe];exact hv⟩
  ·refine (ok b u q).stay (fun c v hc r=>k c v ?_ r) (fun c r=>by rw [ze2 (nown c b r)];exact r) fun c xs r=>by rw [ze2 (ntup c xs r)];exact r
   rcases hc with rfl | hc
   ·exact hbe
   ·rintro rfl
    rcases he with z | z
    ·exact nown c b hc z
    ·rw [hc] at z;cases z;exact hb rfl
end
structure Un (fs ex:List Addr) (H H':Hp) (h h':Heap):Prop where
 keep:∀ b o,h.get? b = some o→H b = none→b∉fs→b∉ex→h'.get? b = some o
 slot:∀ b o,h.get? b = some o→H b = none→b∈fs→b∉ex→∃ sl,h'.get? b = some { o with slots:=sl }
 free:∀ b o,h.get? b = some o→H b = none→b∉ex→H' b = none
 there:∀ b o,h.get? b = some o→b∉ex→∃ o',h'.get? b = some o'
 tups:∀ b xs,H b = some (.tup xs)→H' b = some (.tup xs)
 frzs:∀ b o u,H b = some (.frz o u)→H' b = some (.frz o u)
 tbls:∀ b ps,H b = some (.tbl ps)→∃ more,H' b = some (.tbl (ps ++ more))
section
variable {fs fs' ex ex':List Addr} {H H1 H2:Hp} {h h1 h2 h':Heap} {a x e:Addr} {o:HO}
theorem Un.any (u:Un fs ex H H1 h h1) {b:Addr} {ob:Obj} (q:h.get? b = some ob) (n:H b = none) (hx:b∉ex):∃ sl,h1.get? b = some { ob with slots:=sl }:=by
 by_cases hb:b∈fs
 ·exact u.slot b ob q n hb hx
 ·exact ⟨ob.slots,u.keep b ob q n hb hx⟩
theorem Un.trans (a:Un fs ex H H1 h h1) (b:Un fs ex H1 H2 h1 h2):Un fs ex H H2 h h2 where
 keep:=fun c ob q n hc hx=>b.keep c ob (a.keep c ob q n hc hx) (a.free c ob q n hx) hc hx
 slot:=fun c ob q n hc hx=>by
  obtain ⟨sl,e1⟩:=a.slot c ob q n hc hx
  obtain ⟨sl',e2⟩:=b.slot c _ e1 (a.free c ob q n hx) hc hx
  exact ⟨sl',e2⟩
 free:=fun c ob q n hx=>by
  obtain ⟨o',e1⟩:=a.there c ob q hx
  exact b.free c o' e1 (a.free c ob q n hx) hx
 there:=fun c ob q hx=>by
  obtain ⟨o',e1⟩:=a.there c ob q hx
  exact b.there c o' e1 hx
 tups:=fun c xs q=>b.tups c xs (a.tups c xs q)
 frzs:=fun c ob xs q=>b.frzs c ob xs (a.frzs c ob xs q)
 tbls:=fun c ps q=>by
  obtain ⟨m1,e1⟩:=a.tbls c ps q
  obtain ⟨m2,e2⟩:=b.tbls c _ e1
  exact ⟨m1 ++ m2,by rw [e2,Array.append_assoc]⟩
theorem Un.kept (k:∀ b u,h.get? b = some u→h'.get? b = some u):Un fs ex H H h h':=
 ⟨fun b ob q _ _ _=>k b ob q,fun b ob q _ _ _=>⟨ob.slots,k b ob q⟩,fun _ _ _ n _=>n,fun b ob q _=>⟨ob,k b ob q⟩,fun _ _ q=>q,fun _ _ _ q=>q,fun _ ps q=>⟨#[],by rw [q];simp⟩⟩
theorem Un.refl:Un fs ex H H h h:=Un.kept fun _ _ q=>q
theorem Un.laid (k:∀ b u,h.get? b = some u→h'.get? b = some u) (hp:h.objs.size≤a) (hn:H a = none):Un fs ex H (upd H a o) h h' where
 keep:=fun b u q _ _ _=>k b u q
 slot:=fun b u q _ _ _=>⟨u.slots,k b u q⟩
 free:=fun b u q n _=>by rw [ze2 (Nat.ne_of_lt (Nat.lt_of_lt_of_le (Heap.lt_size q) hp))];exact n
 there:=fun b u q _=>⟨u,k b u q⟩
 tups:=fun b xs q=>by rw [ze2 (zg4 q hn)];exact q
 frzs:=fun b u xs q=>by rw [ze2 (zg4 q hn)];exact q
 tbls:=fun b ps q=>⟨#[],by rw [ze2 (zg4 q hn),q];simp⟩
theorem Un.write (mu:Mut (H x)) (he:e = x∨H e = some (.own x)) (k:∀ b u,b≠e→h.get? b = some u→h'.get? b = some u) (heo:∃ u,h'.get? e = some u):Un fs ex H (upd H x o) h h':=by
 have hx:∀ b,H b = none→b≠x:=fun b n z=>by subst z;rw [n] at mu;exact mu
 have hb:∀ b,H b = none→b≠e:=fun b n z=>by
  subst z
  rcases he with r | r
  ·exact hx b n r
  ·rw [n] at r;cases r
 have hm:∀ b u,H b = some u→¬ Mut (some u)→b≠x:=fun b u q nm z=>by subst z;rw [q] at mu;exact nm mu
 refine ⟨fun b u q n _ _=>k b u (hb b n) q,fun b u q n _ _=>⟨u.slots,k b u (hb b n) q⟩,fun b u q n _=>by rw [ze2 (hx b n)];exact n,fun b u q _=>?_,
  fun b xs q=>by rw [ze2 (hm b _ q fun z=>z)];exact q,fun b u xs q=>by rw [ze2 (hm b _ q fun z=>z)];exact q,fun b ps q=>⟨#[],by rw [ze2 (hm b _ q fun z=>z),q];simp⟩⟩
 by_cases hbe:b = e
 ·subst hbe;exact heo
 ·exact ⟨u,k b u hbe q⟩
theorem Un.mono (u:Un fs ex H H1 h h1) (hs:∀ b∈fs,b∈fs') (hx:∀ b∈ex,b∈ex'):Un fs' ex' H H1 h h1:=
 ⟨fun b ob q n hb he=>u.keep b ob q n (fun z=>hb (hs b z)) fun z=>he (hx b z),fun _ _ q n _ he=>u.any q n fun z=>he (hx _ z),fun b ob q n he=>u.free b ob q n fun z=>he (hx b z),fun b ob q he=>u.there b ob q fun z=>he (hx b z),u.tups,u.frzs,u.tbls⟩
end
noncomputable def trk (h:Heap) (H:Hp):List Addr:=(List.range h.objs.size).filter fun a=>(H a).isSome
noncomputable def hidT (h:Heap) (H:Hp):Heap:=PySem.W.hideAll h (trk h H)
theorem zS9 (h:Heap) (H:Hp):(hidT h H).objs.size = h.objs.size:=PySem.W.hideAll_size _ _
theorem ya6 {h:Heap} {H:Hp} {b:Addr} {o:Obj} (e:h.get? b = some o) (n:H b = none):(hidT h H).get? b = some o:=
 PySem.W.hideAll_get _ e fun hm=>by
  have q:(H b).isSome = true:=(List.mem_filter.mp hm).2
  rw [n] at q;simp at q
theorem yi5 {h:Heap} {H:Hp} {b:Addr} {o:Obj} (e:(hidT h H).get? b = some o):h.get? b = some o∧H b = none:=by
 have e':h.get? b = some o:=PySem.W.of_hideAll (trk h H) e
 refine ⟨e',?_⟩
 cases q:H b with
 | none=>rfl
 | some x=>
  have hm:b∈trk h H:=List.mem_filter.mpr ⟨List.mem_range.mpr (Heap.lt_size e'),by simp [q]⟩
  have z:(hidT h H).get? b = none:=PySem.W.hideAll_none (trk h H) hm
  rw [z] at e;cases e
noncomputable def allNews (g h:Heap) (L:Addr):List (Addr×Obj):=(List.range h.objs.size).filterMap fun a=>if a = L∨(g.get? a).isSome = true then none else (h.get? a).map fun o=>(a,o)
noncomputable def rest (g h:Heap) (L d:Addr):List (Addr×Obj):=(allNews g h L).filter fun p=>decide (p.1≠d)
structure Mod (K:PySem.W.Frag) (mg:Str→Option Value) (base:Heap):Prop where
 kin:K.In base
 glob:base.Ns mainGlobals mg
 blt:∃ mb,base.Ns builtinsNs mb∧∀ x:Str,x ≠ "__name__" → mb x = bootBuiltins x
 nolimit:base.NoLimit
structure Cx where
 prog:Program
 w:World
 K:PySem.W.Frag
 mg:Str→Option Value
 base:Heap
 A:Around
 N:List Str
 s₀:Shared
 H₀:Hp
 env:Env
 outer:List Env
 stack:List Env
 ex:List Addr
 fn:Str→Bool
 calm:Bool
 pn:List (Addr×Obj)
 xe:Value→Shared→Prop
noncomputable def frs (l:List Env):List Addr:=l.filterMap (·.frame)
noncomputable abbrev Cx.fs (X:Cx):List Addr:=frs X.outer
noncomputable def Vis (sc:Scope) (x:Str):Prop:=sc.names.lookup x = some .local∨sc.names.lookup x = some .cell∨sc.names.lookup x = some .free
noncomputable def Loc (sc:Scope) (x:Str):Prop:=sc.names.lookup x = some .local∨sc.names.lookup x = some .cell
noncomputable def Look (env:Env) (h:Heap) (m:Str→Option Value) (x:Str) (u:Value):Prop:=
 (env.kindOf x = some .local∧m x = some u)∨((env.kindOf x = some .cell∨env.kindOf x = some .free)∧∃ c,env.cells.lookup x = some c∧h.IsCell c (some u))
structure Cx.Ok (X:Cx):Prop where
 mod:Mod X.K X.mg X.base
 kind:X.env.scope.kind = .function
 glob:X.env.globals = mainGlobals
 blt:X.env.builtins = builtinsNs
 above:X.s₀.heap.objs.size≤X.env.locals
 inj:∀ x y c,X.env.cells.lookup x = some c→X.env.cells.lookup y = some c→x = y
 has:∀ x,(X.env.kindOf x = some .cell∨X.env.kindOf x = some .free)→∃ c,X.env.cells.lookup x = some c
 cab:∀ x c,X.fn x = true→X.env.cells.lookup x = some c→X.s₀.heap.objs.size≤c
 hd:X.calm = true→X.A.handled = none
 frames:X.A.frames = some X.stack
 stk:X.stack = X.outer∨(X.stack = X.env :: X.outer∧X.env.frame = some X.env.locals)
 exf:∀ b∈X.ex,b≠X.env.locals∧∀ x c,X.env.cells.lookup x = some c→c≠b
 bs:∀ b o,X.base.get? b = some o→X.s₀.heap.get? b = some o∧X.H₀ b = none
 bsz:X.base.objs.size≤X.s₀.heap.objs.size
 noex:∀ b o,X.base.get? b = some o→b∉X.ex
 exfs:∀ b∈X.ex,b∉X.fs
 funs:X.s₀.heap.FunFrames X.base X.outer
 frf:∀ b∈X.fs,X.H₀ b = none
structure Inv (X:Cx) (pins:List (Addr×Obj)) (σ:List (Option V)) (H:Hp) (s:Shared):Prop where
 ok:X.Ok
 os:s.os = X.s₀.os
 bare:AllBare s.gens
 base:Un X.fs X.ex X.H₀ H X.s₀.heap s.heap
 loc:∃ m,s.heap.Ns X.env.locals m∧∀ (i:Nat) (x:Str) (v:V),X.N[i]? = some x→σ[i]? = some (some v)→Vis X.env.scope x→∃ u,RelV v u∧Look X.env s.heap m x u
 cell:∀ x c,X.env.cells.lookup x = some c→∃ v,s.heap.IsCell c v
 free:H X.env.locals = none
 freeC:∀ x c,X.env.cells.lookup x = some c→H c = none
 pin:∀ p∈X.pn ++ pins,s.heap.get? p.1 = some p.2∧H p.1 = none∧p.1≠X.env.locals∧p.1∉X.fs∧∀ v,p.2.data≠.cell v
 hok:HOk X.prog X.w H s.heap
 len:σ.length = X.N.length
section
variable {X:Cx} {pins:List (Addr×Obj)} {σ:List (Option V)} {H H':Hp} {s:Shared} {h':Heap}
theorem Cx.Ok.nofr (ok:X.Ok) {b:Addr} {o:Obj} (e:X.base.get? b = some o):b∉X.fs:=fun hb=>by
 have:=(ok.funs.mem hb).1
 rw [e] at this;cases this
theorem Inv.bs (I:Inv X pins σ H s):∀ b o,X.base.get? b = some o→s.heap.get? b = some o∧H b = none:=fun b o e=>
 ⟨I.base.keep b o (I.ok.bs b o e).1 (I.ok.bs b o e).2 (I.ok.nofr e) (I.ok.noex b o e),I.base.free b o (I.ok.bs b o e).1 (I.ok.bs b o e).2 (I.ok.noex b o e)⟩
theorem Inv.bk (I:Inv X pins σ H s):∀ b o,X.base.get? b = some o→s.heap.get? b = some o:=fun b o e=>(I.bs b o e).1
theorem Inv.mod (I:Inv X pins σ H s):Mod X.K X.mg X.base:=I.ok.mod
theorem Inv.kIn (I:Inv X pins σ H s):X.K.In s.heap:=I.ok.mod.kin.keeps I.bk
theorem Inv.nolimit (I:Inv X pins σ H s):s.heap.NoLimit:=I.ok.mod.nolimit.keeps I.bk
theorem Inv.fr (I:Inv X pins σ H s):∃ m,Fr X.base X.env.locals s.heap m:=
 let ⟨m,hn,_⟩:=I.loc
 ⟨m,hn,I.bk,Nat.le_trans I.ok.bsz I.ok.above⟩
theorem Inv.lt (I:Inv X pins σ H s):X.env.locals < s.heap.objs.size:=let ⟨_,hn,_⟩:=I.loc;hn.lt
theorem Inv.sz (I:Inv X pins σ H s):X.s₀.heap.objs.size≤s.heap.objs.size:=Nat.le_trans I.ok.above (Nat.le_of_lt I.lt)
theorem Inv.nofs (I:Inv X pins σ H s) {a:Addr} (h:s.heap.objs.size≤a):a∉X.fs:=fun hb=>by
 obtain ⟨_,o,ho,_⟩:=I.ok.funs.mem hb
 exact absurd (Nat.lt_of_lt_of_le (Heap.lt_size ho) (Nat.le_trans I.sz h)) (Nat.lt_irrefl _)
theorem Inv.cne (I:Inv X pins σ H s):∀ x c,X.env.cells.lookup x = some c→c≠X.env.locals:=fun x c e z=>by
 obtain ⟨v,o,ho,hd⟩:=I.cell x c e
 obtain ⟨m,⟨o',es,ep,ho',hd',_⟩,_⟩:=I.loc
 rw [z,ho'] at ho;cases ho;rw [hd'] at hd;cases hd
theorem Inv.funs (I:Inv X pins σ H s):s.heap.FunFrames X.base X.outer:=by
 have all:∀ (l:List Env),(∀ b∈frs l,b∈X.fs)→X.s₀.heap.FunFrames X.base l→s.heap.FunFrames X.base l:=by
  intro l
  induction l with
  | nil=>intro _ _;trivial
  | cons env r ih=>
   intro hs hl
   obtain ⟨hk,⟨L,o,hf,hn,ho,hd⟩,hr⟩:=hl
   have hL:L∈X.fs:=hs L (by unfold frs;rw [List.filterMap_cons,hf];exact List.mem_cons_self)
   obtain ⟨sl,e⟩:=I.base.slot L o ho (I.ok.frf L hL) hL fun z=>I.ok.exfs L z hL
   exact ⟨hk,⟨L,_,hf,hn,e,hd⟩,ih (fun b hb=>hs b (by unfold frs;rw [List.filterMap_cons,hf];exact List.mem_cons_of_mem _ hb)) hr⟩
 exact all X.outer (fun _ hb=>hb) I.ok.funs
theorem Inv.stack (I:Inv X pins σ H s):s.heap.FunFrames X.base X.stack:=by
 rcases I.ok.stk with e | ⟨e,hf⟩
 ·rw [e];exact I.funs
 ·rw [e]
  obtain ⟨m,hn,_⟩:=I.loc
  refine .cons (by rw [I.ok.kind];decide) hf hn ?_ I.funs
  exact Heap.get?_none_of_le (Nat.le_trans I.ok.bsz I.ok.above)
theorem Inv.stkSub (I:Inv X pins σ H s):∀ b∈frs X.stack,b∈X.env.locals :: X.fs:=fun b hb=>by
 rcases I.ok.stk with e | ⟨e,hf⟩
 ·rw [e] at hb;exact List.mem_cons_of_mem _ hb
 ·rw [e] at hb
  unfold frs at hb
  rw [List.filterMap_cons,hf] at hb
  exact hb
theorem Inv.stkFree (I:Inv X pins σ H s):∀ b∈frs X.stack,H b = none:=fun b hb=>by
 rcases List.mem_cons.mp (I.stkSub b hb) with e | hb
 ·rw [e];exact I.free
 ·obtain ⟨_,o,ho,_⟩:=I.ok.funs.mem hb
  exact I.base.free b o ho (I.ok.frf b hb) fun z=>I.ok.exfs b z hb
theorem Inv.step {g':Array GenState} {t':Nat} {d':Drawn} {ch:List Addr} (I:Inv X pins σ H s)
  (hch:∀ b∈ch,(b∈X.ex∨X.s₀.heap.objs.size≤b)∧b≠X.env.locals∧(∀ x c,X.env.cells.lookup x = some c→c≠b)∧∀ p∈X.pn ++ pins,p.1≠b)
  (keep:∀ b o,b≠X.env.locals→b∉X.fs→b∉ch→s.heap.get? b = some o→H b = none→h'.get? b = some o)
  (slot:∀ b o,b≠X.env.locals→b∈X.fs→b∉ch→s.heap.get? b = some o→H b = none→∃ sl,h'.get? b = some { o with slots:=sl }) (free:∀ b o,b∉ch→s.heap.get? b = some o→H b = none→H' b = none)
  (there:∀ b o,b∉ch→s.heap.get? b = some o→∃ o',h'.get? b = some o')
  (tups:∀ b xs,H b = some (.tup xs)→H' b = some (.tup xs)) (frzs:∀ b o u,H b = some (.frz o u)→H' b = some (.frz o u)) (tbls:∀ b ps,H b = some (.tbl ps)→∃ more,H' b = some (.tbl (ps ++ more)))
  (ns:∀ m,s.heap.Ns X.env.locals m→h'.Ns X.env.locals m) (hok:HOk X.prog X.w H' h') (hg:AllBare g') :
  Inv X pins σ H' { s with heap:=h',gens:=g',drawn:=d',toks:=t' }:=by
 have neL:∀ b o,X.s₀.heap.get? b = some o→b≠X.env.locals:=fun b o e=>Nat.ne_of_lt (Nat.lt_of_lt_of_le (Heap.lt_size e) I.ok.above)
 have neC:∀ b o,X.s₀.heap.get? b = some o→b∉X.ex→b∉ch:=fun b o e hx hb=>by
  rcases (hch b hb).1 with z | z
  ·exact hx z
  ·exact absurd (Nat.lt_of_lt_of_le (Heap.lt_size e) z) (Nat.lt_irrefl _)
 have cellK:∀ x c,X.env.cells.lookup x = some c→∀ v,s.heap.IsCell c v→h'.IsCell c v:=fun x c e v z_=>by
  obtain ⟨o,ho,hd⟩:=z_
  have nch:c∉ch:=fun z=>(hch c z).2.2.1 x c e rfl
  by_cases hc:c∈X.fs
  ·obtain ⟨sl,q⟩:=slot c o (I.cne x c e) hc nch ho (I.freeC x c e)
   exact ⟨_,q,hd⟩
  ·exact ⟨o,keep c o (I.cne x c e) hc nch ho (I.freeC x c e),hd⟩
 refine ⟨I.ok,I.os,hg,⟨fun b o e n hb hx=>?_,fun b o e n hb hx=>?_,fun b o e n hx=>?_,fun b o e hx=>?_,fun b xs e=>tups b xs (I.base.tups b xs e),fun b o xs e=>frzs b o xs (I.base.frzs b o xs e),fun b ps e=>?_⟩,?_,fun x c e=>?_,?_,fun x c e=>?_,fun p hp=>?_,hok,I.len⟩
 ·exact keep b o (neL b o e) hb (neC b o e hx) (I.base.keep b o e n hb hx) (I.base.free b o e n hx)
 ·obtain ⟨sl,e1⟩:=I.base.slot b o e n hb hx
  obtain ⟨sl',e2⟩:=slot b _ (neL b o e) hb (neC b o e hx) e1 (I.base.free b o e n hx)
  exact ⟨sl',e2⟩
 ·obtain ⟨o',e1⟩:=I.base.there b o e hx
  exact free b o' (neC b o e hx) e1 (I.base.free b o e n hx)
 ·obtain ⟨o',e1⟩:=I.base.there b o e hx
  exact there b o' (neC b o e hx) e1
 ·obtain ⟨m1,e1⟩:=I.base.tbls b ps e
  obtain ⟨m2,e2⟩:=tbls b _ e1
  exact ⟨m1 ++ m2,by rw [e2,Array.append_assoc]⟩
 ·obtain ⟨m,hn,hl⟩:=I.loc
  refine ⟨m,ns m hn,fun i x v e1 e2 e3=>?_⟩
  obtain ⟨u,r,l⟩:=hl i x v e1 e2 e3
  refine ⟨u,r,?_⟩
  rcases l with l | ⟨k,c,e,z⟩
  ·exact .inl l
  ·exact .inr ⟨k,c,e,cellK x c e _ z⟩
 ·obtain ⟨v,z⟩:=I.cell x c e
  exact ⟨v,cellK x c e v z⟩
 ·obtain ⟨m,⟨o,_,_,ho,_⟩,_⟩:=I.loc
  exact free _ o (fun z=>(hch _ z).2.1 rfl) ho I.free
 ·obtain ⟨v,o,ho,hd⟩:=I.cell x c e
  exact free c o (fun z=>(hch c z).2.2.1 x c e rfl) ho (I.freeC x c e)
 ·obtain ⟨e,n,ne,nf,d⟩:=I.pin p hp
  have nch:p.1∉ch:=fun z=>(hch p.1 z).2.2.2 p hp rfl
  exact ⟨keep p.1 p.2 ne nf nch e n,free p.1 p.2 nch e n,ne,nf,d⟩
theorem Inv.un {t':Nat} (I:Inv X pins σ H s) (u:Un X.fs [] H H' s.heap h') (hok:HOk X.prog X.w H' h'):Inv X pins σ H' { s with heap:=h',toks:=t' }:=by
 obtain ⟨m,⟨o,es,ep,ho,r⟩,_⟩:=id I.loc
 obtain ⟨sl,hL⟩:=u.any ho I.free (by simp)
 exact I.step (g':=s.gens) (d':=s.drawn) (ch:=[]) (fun _ z=>nomatch z) (fun b o _ hb _ e n=>u.keep b o e n hb (by simp)) (fun b o _ hb _ e n=>u.slot b o e n hb (by simp)) (fun b o _ e n=>u.free b o e n (by simp)) (fun b o _ e=>u.there b o e (by simp)) u.tups u.frzs u.tbls (fun m' hm=>by
  obtain ⟨o',es',ep',ho',r'⟩:=hm
  rw [ho] at ho';cases ho'
  exact ⟨_,es',ep',hL,r'⟩) hok I.bare
theorem Inv.call {g':Array GenState} {t':Nat} {d':Drawn} {ch:List Addr} (I:Inv X pins σ H s) (u:Un (frs X.stack) ch H H' s.heap h') (hok:HOk X.prog X.w H' h') (hg:AllBare g')
  (hch:∀ b∈ch,(b∈X.ex∨X.s₀.heap.objs.size≤b)∧b≠X.env.locals∧(∀ x c,X.env.cells.lookup x = some c→c≠b)∧∀ p∈X.pn ++ pins,p.1≠b) :
  Inv X pins σ H' { s with heap:=h',gens:=g',drawn:=d',toks:=t' }:=by
 obtain ⟨m,⟨o,es,ep,ho,r⟩,_⟩:=id I.loc
 obtain ⟨sl,hL⟩:=u.any ho I.free fun z=>(hch _ z).2.1 rfl
 exact I.step (ch:=ch) hch (fun b o hL hb hc e n=>u.keep b o e n (fun z=>(List.mem_cons.mp (I.stkSub b z)).elim hL hb) hc) (fun b o _ _ hc e n=>u.any e n hc) (fun b o hc e n=>u.free b o e n hc) (fun b o hc e=>u.there b o e hc) u.tups u.frzs u.tbls (fun m' hm=>by
  obtain ⟨o',es',ep',ho',r'⟩:=hm
  rw [ho] at ho';cases ho'
  exact ⟨_,es',ep',hL,r'⟩) hok hg
theorem Inv.turned {t':Nat} {it:Addr} (I:Inv X pins σ H s) (k:∀ b o,b≠it→s.heap.get? b = some o→h'.get? b = some o) (hn:H it = none) (hL:it≠X.env.locals)
  (h1:it∈X.ex∨X.s₀.heap.objs.size≤it) (h2:∀ x c,X.env.cells.lookup x = some c→c≠it) (h3:∀ p∈X.pn ++ pins,p.1≠it):Inv X pins σ H { s with heap:=h',toks:=t' }:=by
 have nit:∀ b u,H b = some u→b≠it:=fun b u e z=>by rw [z,hn] at e;cases e
 refine I.step (g':=s.gens) (d':=s.drawn) (ch:=[it]) (fun b hb=>?_) (fun b o _ _ hc e _=>k b o (fun z=>hc (by simp [z])) e) (fun b o _ _ hc e _=>⟨o.slots,k b o (fun z=>hc (by simp [z])) e⟩) (fun _ _ _ _ n=>n)
  (fun b o hc e=>⟨o,k b o (fun z=>hc (by simp [z])) e⟩) (fun _ _ e=>e) (fun _ _ _ e=>e) (fun b ps e=>⟨#[],by rw [e];simp⟩) (fun m hm=>?_) (fun b u e=>?_) I.bare
 ·have e:b = it:=by simpa using hb
  subst e
  exact ⟨h1,hL,h2,h3⟩
 ·obtain ⟨o,es,ep,ho,r⟩:=hm
  exact ⟨o,es,ep,k _ o (Ne.symm hL) ho,r⟩
 ·refine (I.hok b u e).stay (fun c v hc q=>k c v ?_ q) (fun _ q=>q) fun _ _ q=>q
  rcases hc with z | z
  ·rw [z];exact nit b u e
  ·exact nit c _ z
theorem Inv.tok (I:Inv X pins σ H s) (t:Nat):Inv X pins σ H { s with toks:=t }:=I.un (h':=s.heap) (t':=t) Un.refl I.hok
theorem Inv.kept {t':Nat} (I:Inv X pins σ H s) (k:∀ b u,s.heap.get? b = some u→h'.get? b = some u):Inv X pins σ H { s with heap:=h',toks:=t' }:=I.un (Un.kept k) (I.hok.kept k)
theorem Inv.laid {a:Addr} {o:HO} {t':Nat} (I:Inv X pins σ H s) (k:∀ b u,s.heap.get? b = some u→h'.get? b = some u) (hp:s.heap.objs.size≤a) (new:ObjOk X.prog X.w (upd H a o) h' a o) :
  Inv X pins σ (upd H a o) { s with heap:=h',toks:=t' }:=I.un (Un.laid k hp (I.hok.fresh hp)) (I.hok.laid k hp new)
theorem Inv.write {x e:Addr} {o:HO} {t':Nat} (I:Inv X pins σ H s) (mu:Mut (H x)) (he:e = x∨H e = some (.own x)) (k:∀ b u,b≠e→s.heap.get? b = some u→h'.get? b = some u) (heo:∃ u,h'.get? e = some u)
  (new:ObjOk X.prog X.w (upd H x o) h' x o):Inv X pins σ (upd H x o) { s with heap:=h',toks:=t' }:=I.un (Un.write mu he k heo) (I.hok.write mu he k heo new)
theorem Inv.pins_of {pins':List (Addr×Obj)} (I:Inv X pins σ H s) (h:∀ p∈pins',s.heap.get? p.1 = some p.2∧H p.1 = none∧p.1≠X.env.locals∧p.1∉X.fs∧∀ v,p.2.data≠.cell v):Inv X pins' σ H s:=
 ⟨I.ok,I.os,I.bare,I.base,I.loc,I.cell,I.free,I.freeC,fun p hp=>(List.mem_append.mp hp).elim (fun z=>I.pin p (List.mem_append_left _ z)) (h p),I.hok,I.len⟩
theorem zZ0 {N:List Str} (hN:N.Nodup) {i j:Nat} {x:Str} (a:N[i]? = some x) (b:N[j]? = some x):i = j:=by
 obtain ⟨h1,e1⟩:=List.getElem?_eq_some_iff.mp a
 obtain ⟨h2,e2⟩:=List.getElem?_eq_some_iff.mp b
 exact (List.getElem_inj hN).mp (e1.trans e2.symm)
theorem zP0 {M:Model} {A:Around} {E:Value→Shared→Prop} {i:Nat} {x:Str} {v:V} {u:Value} {Q:Unit→Shared→Prop} (I:Inv X pins σ H s) (hN:X.N.Nodup) (hi:X.N[i]? = some x) (hx:Loc X.env.scope x) (r:RelV v u)
  (h:∀ s',Inv X pins (σ.set i (some v)) H s'→(∃ a,Heap.SameBut a s.heap s'.heap∧(a = X.env.locals∨X.env.cells.lookup x = some a))→Q () s') (hf:X.fn x = true∨X.env.scope.names.lookup x = some .local:=by first | exact .inl rfl | exact .inr rfl | assumption):wpAny M A (storeName X.env x u) Q E s:=by
 obtain ⟨m,hn,hl⟩:=id I.loc
 have hcls:(X.env.scope.kind == .class || (X.env.scope.kind == .module && X.env.locals != X.env.globals)) = false:=by rw [I.ok.kind];rfl
 have hiσ:i < σ.length:=by rw [I.len];exact (List.getElem?_eq_some_iff.mp hi).1
 have cne:=I.cne
 have tracked:∀ {a:Addr} {h':Heap},(∃ o,s.heap.get? a = some o∧H a = none)→Heap.SameBut a s.heap h'→HOk X.prog X.w H h':=fun {a h'} ha hs b ob e=>by
  obtain ⟨_,_,hfree⟩:=ha
  refine (I.hok b ob e).stay (fun c w' hc q=>(hs.2 c ?_).trans q) (fun _ q=>q) fun _ _ q=>q
  rintro rfl
  rcases hc with rfl | hc
  ·rw [hfree] at e;cases e
  ·rw [hfree] at hc;cases hc
 rcases hx with hk | hk
 ·refine wpAny_storeName_local hk hn (fun h' hn' hs=>?_) hcls
  obtain ⟨oL,_,_,hoL,_⟩:=id hn
  refine h _ ⟨I.ok,I.os,I.bare,⟨fun b o e n hb hx=>?_,fun b o e n hb hx=>?_,I.base.free,fun b o e hx=>?_,I.base.tups,I.base.frzs,I.base.tbls⟩,⟨_,hn',fun j y v' e1 e2 e3=>?_⟩,fun y c e=>?_,I.free,I.freeC,fun p hp=>?_,tracked ⟨oL,hoL,I.free⟩ hs,by simpa using I.len⟩ ⟨_,hs,.inl rfl⟩
  ·exact (hs.2 b (Nat.ne_of_lt (Nat.lt_of_lt_of_le (Heap.lt_size e) I.ok.above))).trans (I.base.keep b o e n hb hx)
  ·obtain ⟨sl,e1⟩:=I.base.slot b o e n hb hx
   exact ⟨sl,(hs.2 b (Nat.ne_of_lt (Nat.lt_of_lt_of_le (Heap.lt_size e) I.ok.above))).trans e1⟩
  ·obtain ⟨o',e1⟩:=I.base.there b o e hx
   exact ⟨o',(hs.2 b (Nat.ne_of_lt (Nat.lt_of_lt_of_le (Heap.lt_size e) I.ok.above))).trans e1⟩
  ·by_cases hj:j = i
   ·subst hj
    rw [hi] at e1;cases e1
    rw [List.getElem?_set_self hiσ] at e2
    cases e2
    exact ⟨u,r,.inl ⟨hk,by simp⟩⟩
   ·rw [List.getElem?_set_ne (Ne.symm hj)] at e2
    obtain ⟨u',r',q⟩:=hl j y v' e1 e2 e3
    refine ⟨u',r',?_⟩
    rcases q with ⟨k,e⟩ | ⟨k,c,e,z⟩
    ·refine .inl ⟨k,?_⟩
     have:y≠x:=fun e=>hj (zZ0 hN e1 (e ▸ hi))
     simp [this,e]
    ·exact .inr ⟨k,c,e,z.sameBut hs (cne y c e)⟩
  ·obtain ⟨w',z⟩:=I.cell y c e
   exact ⟨w',z.sameBut hs (cne y c e)⟩
  ·obtain ⟨e,n,ne,nf,d⟩:=I.pin p hp
   exact ⟨(hs.2 p.1 ne).trans e,n,ne,nf,d⟩
 ·have hfn:X.fn x = true:=by
   rcases hf with z | z
   ·exact z
   ·rw [z] at hk;cases hk
  obtain ⟨c,hc⟩:=I.ok.has x (.inl hk)
  obtain ⟨w',z⟩:=I.cell x c hc
  refine wpAny_storeName_cell I.ok.kind hk hc z (fun h' hc' hs=>?_)
  obtain ⟨oc,hoc,hocd⟩:=id z
  refine h { s with heap:=h' } ⟨I.ok,I.os,I.bare,⟨fun b o e n hb hx=>?_,fun b o e n hb hx=>?_,I.base.free,fun b o e hx=>?_,I.base.tups,I.base.frzs,I.base.tbls⟩,⟨m,hn.sameBut hs (Ne.symm (cne x c hc)),fun j y v' e1 e2 e3=>?_⟩,fun y c' e=>?_,I.free,I.freeC,fun p hp=>?_,tracked ⟨oc,hoc,I.freeC x c hc⟩ hs,by simpa using I.len⟩ ⟨c,hs,.inr hc⟩
  ·exact (hs.2 b (Nat.ne_of_lt (Nat.lt_of_lt_of_le (Heap.lt_size e) (I.ok.cab x c hfn hc)))).trans (I.base.keep b o e n hb hx)
  ·obtain ⟨sl,e1⟩:=I.base.slot b o e n hb hx
   exact ⟨sl,(hs.2 b (Nat.ne_of_lt (Nat.lt_of_lt_of_le (Heap.lt_size e) (I.ok.cab x c hfn hc)))).trans e1⟩
  ·obtain ⟨o',e1⟩:=I.base.there b o e hx
   exact ⟨o',(hs.2 b (Nat.ne_of_lt (Nat.lt_of_lt_of_le (Heap.lt_size e) (I.ok.cab x c hfn hc)))).trans e1⟩
  ·by_cases hj:j = i
   ·subst hj
    rw [hi] at e1;cases e1
    rw [List.getElem?_set_self hiσ] at e2
    cases e2
    exact ⟨u,r,.inr ⟨.inl hk,c,hc,hc'⟩⟩
   ·rw [List.getElem?_set_ne (Ne.symm hj)] at e2
    obtain ⟨u',r',q⟩:=hl j y v' e1 e2 e3
    refine ⟨u',r',?_⟩
    rcases q with q | ⟨k,c',e,z'⟩
    ·exact .inl q
    ·refine .inr ⟨k,c',e,z'.sameBut hs ?_⟩
     rintro rfl
     exact hj (zZ0 hN e1 (I.ok.inj _ _ _ e hc ▸ hi))
  ·by_cases hcc:c' = c
   ·subst hcc;exact ⟨_,hc'⟩
   ·obtain ⟨w2,z2⟩:=I.cell y c' e
    exact ⟨w2,z2.sameBut hs hcc⟩
  ·obtain ⟨e,n,ne,nf,d⟩:=I.pin p hp
   refine ⟨(hs.2 p.1 ?_).trans e,n,ne,nf,d⟩
   intro q
   rw [q,hoc] at e
   have q':oc = p.2:=Option.some.inj e
   exact d w' (by rw [← q'];exact hocd)
theorem zX2 {M:Model} {A:Around} {E:Value→Shared→Prop} {i:Nat} {x:Str} {v:V} {u:Value} {Q:Unit→Shared→Prop} (I:Inv X pins σ H s) (hN:X.N.Nodup) (hi:X.N[i]? = some x) (hx:Loc X.env.scope x) (r:RelV v u)
  (h:∀ s',Inv X pins (σ.set i (some v)) H s'→Q () s') (hf:X.fn x = true∨X.env.scope.names.lookup x = some .local:=by first | exact .inl rfl | exact .inr rfl | assumption):wpAny M A (storeName X.env x u) Q E s:=
 zP0 I hN hi hx r (fun s' I' _=>h s' I') hf
theorem Inv.call' {s':Shared} {ch:List Addr} (I:Inv X pins σ H s) (ho:s'.os = s.os) (u:Un (frs X.stack) ch H H' s.heap s'.heap) (hok:HOk X.prog X.w H' s'.heap) (hg:AllBare s'.gens)
  (hch:∀ b∈ch,(b∈X.ex∨X.s₀.heap.objs.size≤b)∧b≠X.env.locals∧(∀ x c,X.env.cells.lookup x = some c→c≠b)∧∀ p∈X.pn ++ pins,p.1≠b):Inv X pins σ H' s':=by
 obtain ⟨h',g',d',t',o'⟩:=s'
 have e:o' = s.os:=ho
 subst e
 exact I.call (g':=g') (t':=t') (d':=d') u hok hg hch
end
noncomputable abbrev XK:=Value→Option Addr→Hp→Prop
noncomputable abbrev St:=List (Option V)
noncomputable abbrev VK:=V→Hp→Prop
noncomputable abbrev TE:=St→Hp→VK→Prop
noncomputable abbrev TT:=St→Hp→(Bool→Hp→Prop)→Prop
noncomputable abbrev TA:=St→Hp→(List V→Hp→Prop)→Prop
structure Ends where
 nx:St→Hp→Prop
 rt:VK
 bk:St→Hp→Prop:=fun _ _=>False
 ct:St→Hp→Prop:=fun _ _=>False
noncomputable abbrev TS:=Ends→St→Hp→Prop
noncomputable def EP (X:Cx) (pins:List (Addr×Obj)) (σ:St) (Q:VK) (u:Value) (s':Shared):Prop:=∃ v H',Inv X pins σ H' s'∧RelV v u∧Q v H'
noncomputable def TP (X:Cx) (pins:List (Addr×Obj)) (σ:St) (Q:Bool→Hp→Prop) (b:Bool) (s':Shared):Prop:=∃ H',Inv X pins σ H' s'∧Q b H'
noncomputable def AP (X:Cx) (pins:List (Addr×Obj)) (σ:St) (Q:List V→Hp→Prop) (us:List Value) (s':Shared):Prop:=∃ vs H',Inv X pins σ H' s'∧Vals vs us∧Q vs H'
noncomputable def SP (X:Cx) (pins:List (Addr×Obj)) (D:Ends) (f:Flow) (s':Shared):Prop:=
 match f with
 | .next=>∃ σ' H',Inv X pins σ' H' s'∧D.nx σ' H'
 | .brk=>∃ σ' H',Inv X pins σ' H' s'∧D.bk σ' H'
 | .cont=>∃ σ' H',Inv X pins σ' H' s'∧D.ct σ' H'
 | .ret u=>∃ v σ' H',Inv X pins σ' H' s'∧RelV v u∧D.rt v H'
noncomputable def PE (X:Cx) (e:Expr) (t:TE):Prop:=
 ∀ (pins:List (Addr×Obj)) (s:Shared) (σ:St) (H:Hp) (Q:VK),Inv X pins σ H s→t σ H Q→wpAny (model X.prog X.w) X.A (eval e X.env) (EP X pins σ Q) X.xe s
noncomputable def PT (X:Cx) (e:Expr) (t:TT):Prop:=
 ∀ (pins:List (Addr×Obj)) (s:Shared) (σ:St) (H:Hp) (Q:Bool→Hp→Prop),Inv X pins σ H s→t σ H Q→wpAny (model X.prog X.w) X.A (isTrue e X.env (eval e X.env)) (TP X pins σ Q) X.xe s
noncomputable def PW (X:Cx) (e:Expr) (t:TT):Prop:=
 ∀ (whole:Sem Value) (pins:List (Addr×Obj)) (s:Shared) (σ:St) (H:Hp) (Q:Bool→Hp→Prop),Inv X pins σ H s→t σ H Q→wpAny (model X.prog X.w) X.A (isTrue e X.env whole) (TP X pins σ Q) X.xe s
theorem PW.pt {X:Cx} {e:Expr} {t:TT} (h:PW X e t):PT X e t:=h _
noncomputable def PA (X:Cx) (es:List Expr) (t:TA):Prop:=
 ∀ (pos:Pos) (pins:List (Addr×Obj)) (s:Shared) (σ:St) (H:Hp) (Q:List V→Hp→Prop),Inv X pins σ H s→t σ H Q→wpAny (model X.prog X.w) X.A (spliced (backTo pos (starEach es X.env))) (AP X pins σ Q) X.xe s
noncomputable def PS (X:Cx) (st:Stmt) (t:TS):Prop:=
 ∀ (pins:List (Addr×Obj)) (s:Shared) (σ:St) (H:Hp) (D:Ends),Inv X pins σ H s→t D σ H→wpAny (model X.prog X.w) X.A (exec st X.env) (SP X pins D) X.xe s
noncomputable def PSs (X:Cx) (st:List Stmt) (t:TS):Prop:=
 ∀ (pins:List (Addr×Obj)) (s:Shared) (σ:St) (H:Hp) (D:Ends),Inv X pins σ H s→t D σ H→wpAny (model X.prog X.w) X.A (execs st X.env) (SP X pins D) X.xe s
theorem thn {α:Type} {t:Sem α} {Q Q':α→Shared→Prop} {M:Model} {A:Around} {E:Value→Shared→Prop} {s:Shared} (h:wpAny M A t Q E s) (hQ:∀ a s,Q a s→Q' a s):wpAny M A t Q' E s:=wpAny_mono h hQ fun _ _ x=>x
section
variable {X:Cx}
noncomputable def tVar (i:Nat):TE:=fun σ H Q=>∃ v,σ[i]? = some (some v)∧Q v H
noncomputable def tC (v:V):TE:=fun _ H Q=>Q v H
theorem pe_var {i:Nat} {x:Str} {pos:Pos} (hN:X.N[i]? = some x) (hv:Vis X.env.scope x) (hd:(x == ("__debug__" : Str)) = false:=by decide) (hcd:(x == ("__classdict__" : Str)) = false:=by decide):PE X (.Name x pos) (tVar i):=by
 intro pins s σ H Q I h
 obtain ⟨v,e,h⟩:=h
 obtain ⟨m,hn,hl⟩:=I.loc
 obtain ⟨u,r,l⟩:=hl i x v hN e hv
 have fin:EP X pins σ Q u s:=⟨v,H,I,r,h⟩
 rcases l with ⟨hk,hm⟩ | ⟨hk,c,hc,hcell⟩
 ·exact wpAny_Name (wpAny_loadName_local I.ok.kind hk hn hm fin) hd
 ·rcases hk with hk | hk
  ·exact wpAny_Name (wpAny_loadName_cell I.ok.kind hk hc hcell fin) hd
  ·exact wpAny_Name (wpAny_loadName_free I.ok.kind hk hc hcell fin hcd) hd
theorem pe_int {i j pos}:PE X (.Constant (.int i) j pos) (tC (.int i)):=fun _ _ _ H _ I h=>wpAny_Constant_int ⟨.int i,H,I.tok _,⟨_,rfl⟩,h⟩
theorem pe_bl {b j pos}:PE X (.Constant (.bool b) j pos) (tC (.bl b)):=fun _ _ _ H _ I h=>Constant_bool ⟨.bl b,H,I,rfl,h⟩
theorem pe_non {j pos}:PE X (.Constant .none j pos) (tC .non):=fun _ _ _ H _ I h=>Constant_none ⟨.non,H,I,rfl,h⟩
theorem pe_str {x j pos}:PE X (.Constant (.str x) j pos) (tC (.str x)):=fun _ _ _ H _ I h=>Calls.Constant_str ⟨.str x,H,I.tok _,⟨_,rfl⟩,h⟩
noncomputable def Gl (X:Cx) (x:Str):Prop:=X.env.kindOf x = some .globalImplicit
theorem yk3 {E:Value→Shared→Prop} {pins:List (Addr×Obj)} {s:Shared} {σ:St} {H:Hp} {x:Str} {u:Value} {pos:Pos} {Q:Value→Shared→Prop} (I:Inv X pins σ H s) (hg:Gl X x) (hm:X.mg x = some u) (h:Q u s)
  (hd:(x == ("__debug__" : Str)) = false:=by decide):wpAny (model X.prog X.w) X.A (eval (.Name x pos) X.env) Q E s:=
 Calls.Name_function_global I.ok.kind hg (Calls.loadGlobal_global (by rw [I.ok.glob];exact I.mod.glob.keeps I.bk) hm h) hd
theorem zx1 {E:Value→Shared→Prop} {pins:List (Addr×Obj)} {s:Shared} {σ:St} {H:Hp} {x:Str} {u:Value} {pos:Pos} {Q:Value→Shared→Prop} (I:Inv X pins σ H s) (hg:Gl X x) (hm:X.mg x = none) (hv:bootBuiltins x = some u) (h:Q u s)
  (hn:x ≠ "__name__" := by decide) (hd:(x == ("__debug__" : Str)) = false:=by decide):wpAny (model X.prog X.w) X.A (eval (.Name x pos) X.env) Q E s:=by
 obtain ⟨mb,h1,h2⟩:=I.mod.blt
 exact Calls.Name_function_global I.ok.kind hg (Calls.loadGlobal_builtin (by rw [I.ok.glob];exact I.mod.glob.keeps I.bk) hm (by rw [I.ok.blt];exact h1.keeps I.bk) ((h2 x hn).trans hv) h) hd
theorem pe_glob {x:Str} {v:V} {u:Value} {pos:Pos} (hg:Gl X x) (hm:X.mg x = some u) (r:RelV v u) (hd:(x == ("__debug__" : Str)) = false:=by decide):PE X (.Name x pos) (tC v):=
 fun _ _ _ H _ I h=>yk3 I hg hm ⟨v,H,I,r,h⟩ hd
theorem pe_bltn {x:Str} {v:V} {u:Value} {pos:Pos} (hg:Gl X x) (hm:X.mg x = none) (hv:bootBuiltins x = some u) (r:RelV v u) (hn:x ≠ "__name__" := by decide) (hd:(x == ("__debug__" : Str)) = false:=by decide):PE X (.Name x pos) (tC v):=
 fun _ _ _ H _ I h=>zx1 I hg hm hv ⟨v,H,I,r,h⟩ hn hd
variable {a b:Expr} {ta tb:TE} {pos:Pos}
noncomputable def tB (t:TE):TT:=fun σ H Q=>t σ H fun x H1=>∃ c,x = .bl c∧Q c H1
variable {tA tB':TT} {rest:List Expr}
noncomputable def tAnd (t u:TT):TT:=fun σ H Q=>t σ H fun c H1=>if c = true then u σ H1 Q else Q false H1
noncomputable def tOr (t u:TT):TT:=fun σ H Q=>t σ H fun c H1=>if c = true then Q true H1 else u σ H1 Q
noncomputable def tNot (t:TT):TT:=fun σ H Q=>t σ H fun c H1=>Q (!c) H1
theorem pw_and1 (ha:PT X a tA):PW X (.BoolOp .And [a] pos) tA:=by
 intro wh pins s σ H Q I h
 refine isTrue_and (thn (ha pins s σ H Q I h) fun c s1 e=>?_)
 cases c with
 | true=>exact isTrue_and_nil e
 | false=>exact e
theorem pw_or1 (ha:PT X a tA):PW X (.BoolOp .Or [a] pos) tA:=by
 intro wh pins s σ H Q I h
 refine isTrue_or (thn (ha pins s σ H Q I h) fun c s1 e=>?_)
 cases c with
 | false=>exact isTrue_or_nil e
 | true=>exact e
theorem pw_and (ha:PT X a tA) (hb:PW X (.BoolOp .And (b :: rest) pos) tB'):PW X (.BoolOp .And (a :: b :: rest) pos) (tAnd tA tB'):=by
 intro wh pins s σ H Q I h
 refine isTrue_and (thn (ha pins s σ H _ I h) fun c s1 z_=>?_)
 obtain ⟨H1,I1,q1⟩:=z_
 cases c with
 | true=>exact hb wh pins s1 σ H1 Q I1 q1
 | false=>exact ⟨H1,I1,q1⟩
theorem pw_or (ha:PT X a tA) (hb:PW X (.BoolOp .Or (b :: rest) pos) tB'):PW X (.BoolOp .Or (a :: b :: rest) pos) (tOr tA tB'):=by
 intro wh pins s σ H Q I h
 refine isTrue_or (thn (ha pins s σ H _ I h) fun c s1 z_=>?_)
 obtain ⟨H1,I1,q1⟩:=z_
 cases c with
 | true=>exact ⟨H1,I1,q1⟩
 | false=>exact hb wh pins s1 σ H1 Q I1 q1
theorem pt_not (ha:PT X a tA):PT X (.UnaryOp .Not a pos) (tNot tA):=by
 intro pins s σ H Q I h
 exact isTrue_not (ha pins s σ H (fun c H1=>Q (!c) H1) I h)
theorem pe_one {op} {t:TE} (h:PE X a t):PE X (.BoolOp op [a] pos) t:=fun pins s σ H Q I hw=>BoolOp_one (h pins s σ H Q I hw)
noncomputable def tIf (t:TT) (ta tb:TE):TE:=fun σ H Q=>t σ H fun c H1=>if c = true then ta σ H1 Q else tb σ H1 Q
theorem pe_ifExp {c:Expr} (hc:PT X c tA) (ha:PE X a ta) (hb:PE X b tb):PE X (.IfExp c a b pos) (tIf tA ta tb):=by
 intro pins s σ H Q I h
 refine wpAny_IfExp (thn (hc pins s σ H _ I h) fun d s1 z_=>?_)
 obtain ⟨H1,I1,q1⟩:=z_
 cases d with
 | true=>exact ha pins s1 σ H1 Q I1 q1
 | false=>exact hb pins s1 σ H1 Q I1 q1
end
noncomputable def SqL (K:PySem.W.Frag) (H:Hp) (a:Addr) (xs:List V):Prop:=
 Rd H a (.lst xs) ∨
  ∃ (o:Obj) (its:Array Value) (n:Nat),K.lookup a = some o∧o.cls = .type "list" ∧ o.dict = none∧o.data = .seq its n∧its.size≤sizeLine∧Vals xs its.toList
noncomputable def SqT (K:PySem.W.Frag) (H:Hp) (a:Addr) (xs:List V):Prop:=
 Rd H a (.tup xs) ∨
  ∃ (o:Obj) (its:Array Value) (n:Nat),K.lookup a = some o∧o.cls = .type "tuple" ∧ o.data = .seq its n∧its.size≤sizeLine∧Vals xs its.toList
noncomputable def absV:Value→Option V
 | .none=>some .non
 | .bool b=>some (.bl b)
 | .int i _=>some (.int i)
 | .str x _=>some (.str x)
 | .bytes b _=>some (.byt b)
 | .float b _=>some (.flt b)
 | .ref a=>some (.ref a)
 | .type n=>some (.ty n)
 | _=>none
theorem RelV.abs {x:V} {u:Value} (r:RelV x u):absV u = some x:=by
 cases x with
 | non=>cases r;rfl
 | bl _=>cases r;rfl
 | int _=>obtain ⟨t,rfl⟩:=r;rfl
 | str _=>obtain ⟨t,rfl⟩:=r;rfl
 | byt _=>obtain ⟨t,rfl⟩:=r;rfl
 | flt _=>obtain ⟨t,rfl⟩:=r;rfl
 | ref _=>cases r;rfl
 | ty _=>cases r;rfl
theorem RelV.inj {x y:V} {u:Value} (r:RelV x u) (q:RelV y u):x = y:=Option.some.inj (r.abs.symm.trans q.abs)
theorem Vals.inj:∀ {xs ys:List V} {us:List Value},Vals xs us→Vals ys us→xs = ys
 | _,_,_,.nil,.nil=>rfl
 | _,_,_,.cons r t,.cons r' t'=>by rw [r.inj r',Vals.inj t t']
section
variable {X:Cx} {pins:List (Addr×Obj)} {σ:St} {H:Hp} {s:Shared} {a:Addr} {xs ys:List V}
theorem SqL.of {K:PySem.W.Frag} (h:H a = some (.lst xs)):SqL K H a xs:=.inl (.inl h)
theorem SqT.of {K:PySem.W.Frag} (h:H a = some (.tup xs)):SqT K H a xs:=.inl (.inl h)
theorem Inv.list (I:Inv X pins σ H s) (h:SqL X.K H a xs):∃ its:List Value,Vals xs its∧PlainL s.heap a its.toArray∧xs.length≤sizeLine:=by
 rcases h with h | ⟨o,its,n,hk,hc,hd,hs,hz,r⟩
 ·obtain ⟨z,its,n,r,e⟩:=h.ok I.hok
  exact ⟨its,r,⟨_,n,e,rfl,rfl,rfl⟩,z⟩
 ·refine ⟨its.toList,r,⟨o,n,I.kIn a o hk,hc,hd,by simpa using hs⟩,?_⟩
  have e:=r.length
  simp only [Array.length_toList] at e
  omega
theorem Inv.tuple (I:Inv X pins σ H s) (h:SqT X.K H a xs):∃ its:List Value,Vals xs its∧IsTup s.heap a its.toArray∧xs.length≤sizeLine:=by
 rcases h with h | ⟨o,its,n,hk,hc,hs,hz,r⟩
 ·obtain ⟨z,its,r,p⟩:=h.ok I.hok
  exact ⟨its,r,p,z⟩
 ·refine ⟨its.toList,r,⟨o,I.kIn a o hk,hc,n,by simpa using hs⟩,?_⟩
  have e:=r.length
  simp only [Array.length_toList] at e
  omega
theorem Inv.list_inj (I:Inv X pins σ H s) (h:SqL X.K H a xs) (h':SqL X.K H a ys):xs = ys:=by
 obtain ⟨its,r,⟨o,n,e,_,_,d⟩,_⟩:=I.list h
 obtain ⟨its',r',⟨o',n',e',_,_,d'⟩,_⟩:=I.list h'
 rw [e] at e';cases e'
 rw [d] at d'
 injection d' with d1 _
 have:its = its':=by simpa using congrArg Array.toList d1
 subst this
 exact r.inj r'
theorem Inv.tuple_inj (I:Inv X pins σ H s) (h:SqT X.K H a xs) (h':SqT X.K H a ys):xs = ys:=by
 obtain ⟨its,r,⟨o,e,_,n,d⟩,_⟩:=I.tuple h
 obtain ⟨its',r',⟨o',e',_,n',d'⟩,_⟩:=I.tuple h'
 rw [e] at e';cases e'
 rw [d] at d'
 injection d' with d1 _
 have:its = its':=by simpa using congrArg Array.toList d1
 subst this
 exact r.inj r'
end
noncomputable abbrev Cx.wish (X:Cx) (E:Value→Shared→Prop):Cx:={ X with xe:=E }
noncomputable abbrev Cx.nox (X:Cx):Cx:=X.wish fun _ _=>False
theorem Cx.Ok.wish {X:Cx} (ok:X.Ok) (E:Value→Shared→Prop):(X.wish E).Ok:=
 ⟨ok.mod,ok.kind,ok.glob,ok.blt,ok.above,ok.inj,ok.has,ok.cab,ok.hd,ok.frames,ok.stk,ok.exf,ok.bs,ok.bsz,ok.noex,ok.exfs,ok.funs,ok.frf⟩
theorem Cx.Ok.unwish {X:Cx} {E:Value→Shared→Prop} (ok:(X.wish E).Ok):X.Ok:=
 ⟨ok.mod,ok.kind,ok.glob,ok.blt,ok.above,ok.inj,ok.has,ok.cab,ok.hd,ok.frames,ok.stk,ok.exf,ok.bs,ok.bsz,ok.noex,ok.exfs,ok.funs,ok.frf⟩
section
variable {X:Cx} {pins:List (Addr×Obj)} {σ:St} {H:Hp} {s:Shared} {E:Value→Shared→Prop}
theorem Inv.wish (I:Inv X pins σ H s) (E:Value→Shared→Prop):Inv (X.wish E) pins σ H s:=⟨I.ok.wish E,I.os,I.bare,I.base,I.loc,I.cell,I.free,I.freeC,I.pin,I.hok,I.len⟩
theorem Inv.unwish (I:Inv (X.wish E) pins σ H s):Inv X pins σ H s:=⟨I.ok.unwish,I.os,I.bare,I.base,I.loc,I.cell,I.free,I.freeC,I.pin,I.hok,I.len⟩
theorem SP.unwish {D:Ends} {f:Flow} {s':Shared} (h:SP (X.wish E) pins D f s'):SP X pins D f s':=by
 cases f with
 | next=>obtain ⟨σ',H',I,q⟩:=h;exact ⟨σ',H',I.unwish,q⟩
 | brk=>obtain ⟨σ',H',I,q⟩:=h;exact ⟨σ',H',I.unwish,q⟩
 | cont=>obtain ⟨σ',H',I,q⟩:=h;exact ⟨σ',H',I.unwish,q⟩
 | ret u=>obtain ⟨v,σ',H',I,r,q⟩:=h;exact ⟨v,σ',H',I.unwish,r,q⟩
theorem PE.nox {e:Expr} {t:TE} (h:PE X.nox e t):PE X e t:=fun pins s σ H Q I hw=>
 wpAny_mono (h pins s σ H Q (I.wish _) hw) (fun _ _ ⟨v,H',I',r,q⟩=>⟨v,H',I'.unwish,r,q⟩) fun _ _ z=>False.elim z
theorem PT.nox {e:Expr} {t:TT} (h:PT X.nox e t):PT X e t:=fun pins s σ H Q I hw=>
 wpAny_mono (h pins s σ H Q (I.wish _) hw) (fun _ _ ⟨H',I',q⟩=>⟨H',I'.unwish,q⟩) fun _ _ z=>False.elim z
theorem PSs.nox {st:List Stmt} {t:TS} (h:PSs X.nox st t):PSs X st t:=fun pins s σ H D I hw=>
 wpAny_mono (h pins s σ H D (I.wish _) hw) (fun _ _ q=>q.unwish) fun _ _ z=>False.elim z
end
section
variable {X:Cx} {st:Stmt} {rest:List Stmt} {t u:TS} {e:Expr} {te:TE} {pos:Pos}
noncomputable def tNext:TS:=fun D σ H=>D.nx σ H
noncomputable def tSeq (t u:TS):TS:=fun D σ H=>t { D with nx:=u D } σ H
theorem pss_nil:PSs X [] tNext:=fun _ _ σ H _ I h=>wpAny_execs_nil ⟨σ,H,I,h⟩
theorem pss_cons (h1:PS X st t) (h2:PSs X rest u):PSs X (st :: rest) (tSeq t u):=by
 intro pins s σ H D I h
 refine wpAny_execs_cons (thn (h1 pins s σ H { D with nx:=u D } I h) fun f s1 q=>?_)
 cases f with
 | next=>
  obtain ⟨σ',H',I',q⟩:=q
  exact h2 pins s1 σ' H' D I' q
 | ret v=>exact q
 | brk=>exact q
 | cont=>exact q
theorem pss_one (h1:PS X st t):PSs X [st] t:=by
 intro pins s σ H D I h
 refine wpAny_execs_cons (thn (h1 pins s σ H D I h) fun f s1 q=>?_)
 cases f with
 | next=>exact wpAny_execs_nil q
 | ret v=>exact q
 | brk=>exact q
 | cont=>exact q
theorem Inv.quiet {pins:List (Addr×Obj)} {σ:St} {H:Hp} {s:Shared} (I:Inv X pins σ H s):interactive X.env = false:=by simp [interactive,I.ok.kind]
noncomputable def tDrop (te:TE):TS:=fun D σ H=>te σ H fun _ H1=>D.nx σ H1
theorem yg0 (he:PE X e te) (hs:swapsWith e none pos.line X.env = pure false:=by rfl):PS X (.Expr e pos) (tDrop te):=by
 intro pins s σ H D I h
 exact wpAny_Expr_any (thn (he pins s σ H _ I h) fun v s1 ⟨x,H1,I1,r1,q1⟩=>⟨σ,H1,I1,q1⟩) I.quiet hs
noncomputable def tRet (te:TE):TS:=fun D σ H=>te σ H D.rt
theorem ps_ret (he:PE X e te):PS X (.Return (some e) pos) (tRet te):=by
 intro pins s σ H D I h
 exact wpAny_Return_some (thn (he pins s σ H _ I h) fun v s1 ⟨x,H1,I1,r1,q1⟩=>⟨x,σ,H1,I1,r1,q1⟩)
noncomputable def tIfS (c:TT) (t u:TS):TS:=fun D σ H=>c σ H fun b H1=>if b = true then t D σ H1 else u D σ H1
theorem ps_if {c:Expr} {a b:List Stmt} {tc:TT} (hc:PT X c tc) (ha:PSs X a t) (hb:PSs X b u):PS X (.If c a b pos) (tIfS tc t u):=by
 intro pins s σ H D I h
 refine wpAny_If (thn (hc pins s σ H _ I h) fun d s1 z_=>?_)
 obtain ⟨H1,I1,q1⟩:=z_
 cases d with
 | true=>exact ha pins s1 σ H1 D I1 q1
 | false=>exact hb pins s1 σ H1 D I1 q1
end
noncomputable abbrev TG:=V→St→Hp→(St→Hp→Prop)→Prop
noncomputable abbrev TGs:=List V→St→Hp→(St→Hp→Prop)→Prop
noncomputable def PG (X:Cx) (target:Expr) (t:TG):Prop:=
 ∀ (pins:List (Addr×Obj)) (s:Shared) (σ:St) (H:Hp) (v:V) (u:Value) (Q:St→Hp→Prop),Inv X pins σ H s→RelV v u→t v σ H Q →
  wpAny (model X.prog X.w) X.A (assign target X.env u) (fun _ s'=>∃ σ' H',Inv X pins σ' H' s'∧Q σ' H') X.xe s
noncomputable def PGs (X:Cx) (ts:List Expr) (t:TGs):Prop:=
 ∀ (pins:List (Addr×Obj)) (s:Shared) (σ:St) (H:Hp) (vs:List V) (us:List Value) (Q:St→Hp→Prop),Inv X pins σ H s→Vals vs us→t vs σ H Q →
  wpAny (model X.prog X.w) X.A (assignInOrder ((assignEach ts X.env).map (·.2)) us) (fun _ s'=>∃ σ' H',Inv X pins σ' H' s'∧Q σ' H') X.xe s
noncomputable abbrev TSet:=V→V→V→Hp→(Hp→Prop)→Prop
noncomputable def PSet (X:Cx) (t:TSet):Prop:=
 ∀ (pins:List (Addr×Obj)) (s:Shared) (σ:St) (H:Hp) (o i v:V) (ov iv u:Value) (Q:Hp→Prop),Inv X pins σ H s→RelV o ov→RelV i iv→RelV v u→t o i v H Q →
  wpAny (model X.prog X.w) X.A (setItem ov iv u) (fun _ s'=>∃ H',Inv X pins σ H' s'∧Q H') X.xe s
section
variable {X:Cx} {pos:Pos}
noncomputable def gName (i:Nat):TG:=fun v σ H Q=>Q (σ.set i (some v)) H
theorem zA3 {i:Nat} {x:Str} (hN:X.N.Nodup) (hi:X.N[i]? = some x) (hx:Loc X.env.scope x) (hf:X.fn x = true∨X.env.scope.names.lookup x = some .local:=by first | exact .inl rfl | exact .inr rfl | assumption):PG X (.Name x pos) (gName i):=by
 intro pins s σ H v u Q I r h
 exact wpAny_assign_Name (zX2 I hN hi hx r (fun s' I'=>⟨_,H,I',h⟩) hf)
noncomputable def gNil:TGs:=fun vs σ H Q=>vs = []∧Q σ H
noncomputable def gCons (t:TG) (u:TGs):TGs:=fun vs σ H Q=>∃ v r,vs = v :: r∧t v σ H fun σ' H'=>u r σ' H' Q
theorem yg8:PGs X [] gNil:=by
 intro pins s σ H vs us Q I r h
 obtain ⟨e,h⟩:=h
 subst e
 cases r
 exact assignInOrder_nil ⟨σ,H,I,h⟩
theorem zy6 {e:Expr} {es:List Expr} {t:TG} {u:TGs} (h1:PG X e t) (h2:PGs X es u)
  (hs:(assignEach (e :: es) X.env).map (·.2) = assign e X.env :: (assignEach es X.env).map (·.2):=by rfl):PGs X (e :: es) (gCons t u):=by
 intro pins s σ H vs us Q I r h
 obtain ⟨v,vr,e1,h⟩:=h
 subst e1
 cases r with
 | cons r rr=>
  rw [hs]
  refine assignInOrder_cons (thn (h1 pins s σ H _ _ _ I r h) fun _ s1 z_=>?_)
  obtain ⟨σ1,H1,I1,q1⟩:=z_
  exact h2 pins s1 σ1 H1 _ _ Q I1 rr q1
noncomputable def gTup (K:PySem.W.Frag) (n:Nat) (t:TGs):TG:=fun v σ H Q=>∃ a xs,v = .ref a∧SqT K H a xs∧xs.length = n∧t xs σ H Q
theorem pg_tup {es:List Expr} {k:Nat} {t:TGs} {n:Nat} (hc:X.calm = true) (h:PGs X es t)
  (hn:(assignEach es X.env).length = n:=by rfl) (hst:(assignEach es X.env).findIdx? (·.1) = none:=by rfl):PG X (.Tuple es k pos) (gTup X.K n t):=by
 intro pins s σ H v u Q I r hw
 obtain ⟨a,xs,e1,hq,hl,hw⟩:=hw
 subst e1
 cases r
 obtain ⟨its,rv,ht,hz⟩:=I.tuple hq
 refine assign_Tuple_tuple (I.ok.hd hc) ht (by simp [hn,← hl,rv.length]) hst fun h' hx=>?_
 have I1:Inv X pins σ H { s with heap:=h' }:=I.kept (t':=s.toks) fun b o e=>hx b o (Nat.ne_of_lt (Heap.lt_size e)) e
 exact h pins _ σ H xs _ Q I1 (by simpa using rv) hw
noncomputable def gSub (to ti:TE) (t:TSet):TG:=fun v σ H Q=>to σ H fun o H1=>ti σ H1 fun i H2=>t o i v H2 fun H3=>Q σ H3
theorem pg_sub {o i:Expr} {to ti:TE} {t:TSet} (ho:PE X o to) (hi:PE X i ti) (hs:PSet X t)
  (ha:∀ v,assign (.Subscript o i pos) X.env v = (do
   let ov ← holding [v] (eval o X.env)
   let iv ← holding [v,ov] (eval i X.env)
   standAt pos
   holding [v,ov,iv] (setItem ov iv v)
   release [v,ov,iv] []):=by intro _;rfl):PG X (.Subscript o i pos) (gSub to ti t):=by
 intro pins s σ H v u Q I r h
 rw [ha]
 refine wpAny_bind (wpAny_holding (thn (ho pins s σ H _ I h) fun ov s1 z_=>?_))
 obtain ⟨x,H1,I1,r1,q1⟩:=z_
 refine wpAny_bind (wpAny_holding (thn (hi pins s1 σ H1 _ I1 q1) fun iv s2 z_=>?_))
 obtain ⟨y,H2,I2,r2,q2⟩:=z_
 refine wpAny_bind (wpAny_standAt (wpAny_bind (wpAny_holding (thn (hs pins s2 σ H2 x y v ov iv u _ I2 r1 r2 r q2) fun _ s3 z_=>?_))))
 obtain ⟨H3,I3,q3⟩:=z_
 exact wpAny_release ⟨σ,H3,I3,q3⟩
noncomputable def tAsg (te:TE) (g:TG):TS:=fun D σ H=>te σ H fun x H1=>g x σ H1 D.nx
theorem ps_asg {tg e:Expr} {te:TE} {g:TG} (he:PE X e te) (hg:PG X tg g) (hs:swapsWithSole [tg] e pos.line X.env = pure false:=by rfl) (hw:swappedStores [tg] e X.env = pure none:=by rfl)
  (h1:(assignEach [tg] X.env).map (·.2) = [assign tg X.env]:=by rfl):PS X (.Assign [tg] e pos) (tAsg te g):=by
 intro pins s σ H D I h
 refine wpAny_Assign_stores (thn (he pins s σ H _ I h) fun v s1 ⟨x,H1,I1,r1,q1⟩=>?_) hs hw
 rw [h1]
 exact thn (hg pins s1 σ H1 x v _ I1 r1 q1) fun _ s2 q=>q
theorem ps_set {i:Nat} {x:Str} {e:Expr} {te:TE} {pos':Pos} (hN:X.N.Nodup) (hi:X.N[i]? = some x) (hx:Loc X.env.scope x) (he:PE X e te) (hs:swapsWith e (some (.Name x pos')) pos.line X.env = pure false:=by rfl) (hf:X.fn x = true∨X.env.scope.names.lookup x = some .local:=by first | exact .inl rfl | exact .inr rfl | assumption) :
  PS X (.Assign [.Name x pos'] e pos) (tAsg te (gName i)):=by
 intro pins s σ H D I h
 refine wpAny_Assign_Name (thn (he pins s σ H _ I h) fun v s1 ⟨y,H1,I1,r1,q1⟩=>?_) hs
 exact zX2 I1 hN hi hx r1 (fun s2 I2=>⟨_,H1,I2,q1⟩) hf
end
section
variable {X:Cx} {pos:Pos}
end
structure It where
 go:Nat→Hp→Prop
 yld:Nat→Hp→V→Hp→Prop
 stop:Nat→Hp→Prop
noncomputable def FpOk (X:Cx) (pins:List (Addr×Obj)) (H:Hp) (b:Addr):Prop:=
 H b = none∧b≠X.env.locals∧b∉X.fs∧(b∈X.ex∨X.s₀.heap.objs.size≤b)∧(∀ x c,X.env.cells.lookup x = some c→c≠b)∧∀ p∈X.pn ++ pins,p.1≠b
theorem Inv.fpOk {X:Cx} {pins:List (Addr×Obj)} {σ:St} {H H':Hp} {s:Shared} {b:Addr} (I:Inv X pins σ H s) (hb:s.heap.objs.size≤b) (hn:H' b = none):FpOk X pins H' b:=by
 refine ⟨hn,Nat.ne_of_gt (Nat.lt_of_lt_of_le I.lt hb),I.nofs hb,.inr (Nat.le_trans I.sz hb),fun x c e z=>?_,fun p hp z=>?_⟩
 ·obtain ⟨v,q⟩:=I.cell x c e
  exact absurd (Nat.lt_of_lt_of_le q.lt (by rw [z];exact hb)) (Nat.lt_irrefl _)
 ·exact absurd (Nat.lt_of_lt_of_le (Heap.lt_size (I.pin p hp).1) (by rw [z];exact hb)) (Nat.lt_irrefl _)
structure Turn (P:Program) (w:World) (K:PySem.W.Frag) (tg:Expr) (J:It) (fp:List Addr) (it:Addr) (tn:Nat→Heap→Prop):Prop where
 mem:it∈fp
 obj:∀ i h,tn i h→∀ b∈fp,∃ o,h.get? b = some o∧∀ v,o.data≠.cell v
 keep:∀ i h h',tn i h→(∀ b∈fp,∀ o,h.get? b = some o→h'.get? b = some o)→tn i h'
 item:∀ (X:Cx),X.prog = P→X.w = w→X.K = K→X.calm = true→∀ (i:Nat) (pins:List (Addr×Obj)) (s:Shared) (σ:St) (H:Hp) (E:Value→Shared→Prop),Inv X pins σ H s→(∀ b∈fp,FpOk X pins H b)→tn i s.heap→J.go i H →
  wpAny (model P w) X.A (pyNext (.ref it)) (fun r s1=>∃ u,r = some u ∧
   wpAny (model P w) X.A (letOwnedTupleGo tg (.ref it) u) (fun _ s2=>∃ x H',Inv X pins σ H' s2∧RelV x u∧J.yld i H x H'∧tn (i + 1) s2.heap∧∀ b∈fp,H' b = none) E s1) E s
 done:∀ (X:Cx),X.prog = P→X.w = w→X.K = K→X.calm = true→∀ (i:Nat) (pins:List (Addr×Obj)) (s:Shared) (σ:St) (H:Hp) (E:Value→Shared→Prop),Inv X pins σ H s→(∀ b∈fp,FpOk X pins H b)→tn i s.heap→J.stop i H →
  wpAny (model P w) X.A (pyNext (.ref it)) (fun r s1=>r = none∧Inv X pins σ H s1) E s
 self:∀ (A:Around) (i:Nat) (s:Shared) (Q:Value→Shared→Prop) (E:Value→Shared→Prop),tn i s.heap→Q (.ref it) s→wpAny (model P w) A (pyIter (.ref it)) Q E s
noncomputable abbrev TI:=St→Hp→(It→Hp→Prop)→Prop
noncomputable def PIE (X:Cx) (pins:List (Addr×Obj)) (σ:St) (tg:Expr) (R:It→Hp→Prop) (itv:Value) (s2:Shared):Prop:=
 ∃ (it:Addr) (fp:List Addr) (tn:Nat→Heap→Prop) (J:It) (H':Hp),itv = .ref it∧Inv X pins σ H' s2∧Turn X.prog X.w X.K tg J fp it tn∧tn 0 s2.heap∧(∀ b∈fp,FpOk X pins H' b)∧R J H'
noncomputable def PI (X:Cx) (tg iter:Expr) (wi:TI):Prop:=
 ∀ (pins:List (Addr×Obj)) (s:Shared) (σ:St) (H:Hp) (R:It→Hp→Prop),Inv X pins σ H s→wi σ H R →
  wpAny (model X.prog X.w) X.A (eval iter X.env) (fun v s1=>wpAny (model X.prog X.w) X.A (pyIter v) (PIE X pins σ tg R) X.xe s1) X.xe s
theorem go_of {M:Model} {A:Around} {E:Value→Shared→Prop} {s:Shared} {tg:Expr} {it:Addr} {u:Value} {o:Obj} {n:String} {vs:Array Value} {Q:Unit→Shared→Prop} (ho:s.heap.get? it = some o) (hc:o.cls = .type n) (hd:o.data = .fields vs)
  (hn:["enumerate", "zip", "dict_itemiterator", "dict_reverseitemiterator", "odict_iterator", "itertools.zip_longest", "itertools.pairwise"].contains n = false) (hQ:Q () s):wpAny M A (letOwnedTupleGo tg (.ref it) u) Q E s:=by
 unfold letOwnedTupleGo
 cases tg <;> first
  | exact wpAny_pure hQ
  | (cases u <;> first
    | exact wpAny_pure hQ
    | (refine wpAny_bind (wpAny_load ho ?_)
       rw [hc,hd]
       show wpAny M A (if (["enumerate", "zip", "dict_itemiterator", "dict_reverseitemiterator", "odict_iterator", "itertools.zip_longest", "itertools.pairwise"].contains n && vs[0]? == some (rawInt _)) = true then _ else _) Q E s
       rw [if_neg (by intro h;rw [hn,Bool.false_and] at h;cases h)]
       exact wpAny_pure hQ))
noncomputable def Itl (K:PySem.W.Frag) (a:Addr):It:=
 ⟨fun i H=>∃ xs x,SqL K H a xs∧xs[i]? = some x,fun i H x H'=>H' = H∧∀ xs,SqL K H a xs→xs[i]? = some x,fun i H=>∃ xs,SqL K H a xs∧xs.length≤i⟩
noncomputable def Itt (K:PySem.W.Frag) (a:Addr):It:=
 ⟨fun i H=>∃ xs x,SqT K H a xs∧xs[i]? = some x,fun i H x H'=>H' = H∧∀ xs,SqT K H a xs→xs[i]? = some x,fun i H=>∃ xs,SqT K H a xs∧xs.length≤i⟩
noncomputable def Itr (lo:Int) (n:Nat):It:=⟨fun i _=>i < n,fun i H x H'=>H' = H∧x = .int (lo + i),fun i _=>n≤i⟩
theorem ye5 {P:Program} {w:World} {K:PySem.W.Frag} {tg:Expr} (a it:Addr):Turn P w K tg (Itl K a) [it] it (fun i h=>h.IsListIter it a i) where
 mem:=by simp
 obj:=fun i h st b hb=>by
  have e:b = it:=by simpa using hb
  subst e
  obtain ⟨o,e,c,d⟩:=st
  exact ⟨o,e,fun v z=>by rw [d] at z;cases z⟩
 keep:=fun i h h' st k=>st.at fun o e=>k it (by simp) o e
 item:=by
  intro X hP hw hK hc i pins s σ H E I hf st hg
  subst hP hw hK
  obtain ⟨xs,x,hq,hx⟩:=hg
  obtain ⟨its,rv,p,hz⟩:=I.list hq
  obtain ⟨u,hu,ru⟩:=rv.get hx
  obtain ⟨f0,f1,f2,f3,f4,f5⟩:=hf it (by simp)
  refine wpAny_pyNext_list_item st p.isList (x:=u) (by simpa using hu) fun h' st' sb=>?_
  have I1:Inv X pins σ H { s with heap:=h' }:=I.turned (t':=s.toks) (fun b o hb e=>(sb.2 b hb).trans e) f0 f1 f3 f4 f5
  obtain ⟨o,e,c,d⟩:=id st'
  exact ⟨u,rfl,go_of (s:={ s with heap:=h' }) e c d (by decide) ⟨x,H,I1,ru,⟨rfl,fun ys hy=>by rw [I.list_inj hy hq];exact hx⟩,st',fun b hb=>(hf b hb).1⟩⟩
 done:=by
  intro X hP hw hK hc i pins s σ H E I hf st hg
  subst hP hw hK
  obtain ⟨xs,hq,hx⟩:=hg
  obtain ⟨its,rv,p,hz⟩:=I.list hq
  obtain ⟨f0,f1,f2,f3,f4,f5⟩:=hf it (by simp)
  have hl:=rv.length
  exact wpAny_pyNext_list_end (I.ok.hd hc) st p.isList (by simp;omega) fun h' eb=>⟨rfl,I.turned (t':=s.toks) (fun b o hb e=>eb b o hb e) f0 f1 f3 f4 f5⟩
 self:=fun _ _ _ _ _ st h=>wpAny_pyIter_listiter st h
theorem yb8 {P:Program} {w:World} {K:PySem.W.Frag} {tg:Expr} (a it:Addr):Turn P w K tg (Itt K a) [it] it (fun i h=>h.IsTupleIter it a i) where
 mem:=by simp
 obj:=fun i h st b hb=>by
  have e:b = it:=by simpa using hb
  subst e
  obtain ⟨o,e,c,d⟩:=st
  exact ⟨o,e,fun v z=>by rw [d] at z;cases z⟩
 keep:=fun i h h' st k=>st.at fun o e=>k it (by simp) o e
 item:=by
  intro X hP hw hK hc i pins s σ H E I hf st hg
  subst hP hw hK
  obtain ⟨xs,x,hq,hx⟩:=hg
  obtain ⟨its,rv,p,hz⟩:=I.tuple hq
  obtain ⟨u,hu,ru⟩:=rv.get hx
  obtain ⟨f0,f1,f2,f3,f4,f5⟩:=hf it (by simp)
  refine wpAny_pyNext_tuple_item st (show s.heap.IsTuple a its.toArray from p) (x:=u) (by simpa using hu) fun h' st' sb=>?_
  have I1:Inv X pins σ H { s with heap:=h' }:=I.turned (t':=s.toks) (fun b o hb e=>(sb.2 b hb).trans e) f0 f1 f3 f4 f5
  obtain ⟨o,e,c,d⟩:=id st'
  exact ⟨u,rfl,go_of (s:={ s with heap:=h' }) e c d (by decide) ⟨x,H,I1,ru,⟨rfl,fun ys hy=>by rw [I.tuple_inj hy hq];exact hx⟩,st',fun b hb=>(hf b hb).1⟩⟩
 done:=by
  intro X hP hw hK hc i pins s σ H E I hf st hg
  subst hP hw hK
  obtain ⟨xs,hq,hx⟩:=hg
  obtain ⟨its,rv,p,hz⟩:=I.tuple hq
  obtain ⟨f0,f1,f2,f3,f4,f5⟩:=hf it (by simp)
  have hl:=rv.length
  exact wpAny_pyNext_tuple_end (I.ok.hd hc) st (show s.heap.IsTuple a its.toArray from p) (by simp;omega) fun h' eb=>⟨rfl,I.turned (t':=s.toks) (fun b o hb e=>eb b o hb e) f0 f1 f3 f4 f5⟩
 self:=fun _ _ _ _ _ st h=>wpAny_pyIter_tupleiter st h
theorem yb9 {P:Program} {w:World} {K:PySem.W.Frag} {tg:Expr} (it:Addr) (lo:Int) (n:Nat):Turn P w K tg (Itr lo n) [it] it (fun i h=>IsRangeIter h it (lo + (i:Nat) * 1) ((n:Int) - (i:Nat)) 1) where
 mem:=by simp
 obj:=fun i h st b hb=>by
  have e:b = it:=by simpa using hb
  subst e
  exact ⟨_,st,fun v z=>by
   have z':Data.fields _ = Data.cell v:=z
   cases z'⟩
 keep:=fun i h h' st k=>k it (by simp) _ st
 item:=by
  intro X hP hw hK hc i pins s σ H E I hf st hg
  subst hP hw hK
  obtain ⟨f0,f1,f2,f3,f4,f5⟩:=hf it (by simp)
  have W:=Walks.range (prog:=X.prog) (w:=X.w) (I.ok.hd hc) it lo 1 n
  refine W.item i s _ _ hg st fun v h' tk hv st' kk=>?_
  obtain ⟨t,rfl⟩:=hv
  have I1:Inv X pins σ H { s with heap:=h',toks:=tk }:=I.turned (fun b o hb e=>kk b o (by simpa using hb) e) f0 f1 f3 f4 f5
  refine ⟨_,rfl,go_of (s:={ s with heap:=h',toks:=tk }) (n := "range_iterator") st' rfl rfl (by decide) ⟨.int (lo + i),H,I1,⟨t,?_⟩,⟨rfl,rfl⟩,st',fun b hb=>(hf b hb).1⟩⟩
  rw [Int.mul_one]
 done:=by
  intro X hP hw hK hc i pins s σ H E I hf st hg
  subst hP hw hK
  obtain ⟨f0,f1,f2,f3,f4,f5⟩:=hf it (by simp)
  exact wpAny_pyNext_range_end (I.ok.hd hc) st (by have:n≤i:=hg;omega) fun h' eb=>⟨rfl,I.turned (t':=s.toks) (fun b o hb e=>eb b o hb e) f0 f1 f3 f4 f5⟩
 self:=fun _ _ _ _ _ st h=>wpAny_pyIter_rangeiter st h
section
variable {X:Cx} {tg:Expr}
theorem zX9 {pins:List (Addr×Obj)} {σ:St} {H:Hp} {s:Shared} {R:It→Hp→Prop} {E:Value→Shared→Prop} {lo hi:Int} {t u v:Tok} {tk:Nat} (I:Inv X pins σ H s) (h1 : -(2 ^ 62)≤lo) (h2:lo < 2 ^ 62) (h3 : -(2 ^ 62)≤hi) (h4:hi < 2 ^ 62)
  (q:R (Itr lo (hi - lo).toNat) H):wpAny (model X.prog X.w) X.A (pyIter (.ref s.heap.objs.size)) (PIE X pins σ tg R) E { s with heap:=s.heap.push { cls:=.type "range", data:=.fields #[.int lo t,.int hi u,.int 1 v] },toks:=tk }:=by
 refine wpAny_pyIter_range (IsRange.new ..) (small_one h1 h2 h3 h4) ?_
 have I1:Inv X pins σ H { s with heap:=s.heap.push { cls:=.type "range", data:=.fields #[.int lo t,.int hi u,.int 1 v] },toks:=tk }:=I.kept fun b o e=>Heap.get?_push_of_some _ e
 refine ⟨(s.heap.push { cls:=.type "range", data:=.fields #[.int lo t,.int hi u,.int 1 v] }).objs.size,[(s.heap.push { cls:=.type "range", data:=.fields #[.int lo t,.int hi u,.int 1 v] }).objs.size],_,_,H,rfl,
  I1.kept (t':=tk) fun b o e=>Heap.get?_push_of_some _ e,yb9 _ lo (hi - lo).toNat,?_,fun b hb=>?_,q⟩
 ·have e1:lo + ((0:Nat):Int) * 1 = lo:=by simp
  have e2:(((hi - lo).toNat:Nat):Int) - ((0:Nat):Int) = Builtin.Range.rangeSize lo hi 1:=by rw [rangeSize_one];split <;> omega
  show IsRangeIter _ _ (lo + ((0:Nat):Int) * 1) ((((hi - lo).toNat:Nat):Int) - ((0:Nat):Int)) 1
  rw [e1,e2]
  exact Heap.get?_push_size _ rfl
 ·have e:b = (s.heap.push { cls:=.type "range", data:=.fields #[.int lo t,.int hi u,.int 1 v] }).objs.size:=by simpa using hb
  subst e
  exact I1.fpOk (Nat.le_refl _) (I1.hok.fresh (Nat.le_refl _))
noncomputable def iRng1 (ta:TA):TI:=fun σ H R=>ta σ H fun vs H1=>∃ j:Int,vs = [.int j]∧-(2 ^ 62)≤j∧j < 2 ^ 62∧R (Itr 0 j.toNat) H1
noncomputable def iRng2 (ta:TA):TI:=fun σ H R=>ta σ H fun vs H1=>∃ i j:Int,vs = [.int i,.int j]∧(-(2 ^ 62)≤i∧i < 2 ^ 62∧-(2 ^ 62)≤j∧j < 2 ^ 62)∧R (Itr i (j - i).toNat) H1
theorem yg7 {a:Expr} {ta:TA} {p pos:Pos} (hg:Gl X "range") (hm:X.mg "range" = none) (ha:PA X [a] ta) (hs:starEach [a] X.env = [(false,eval a X.env)]:=by rfl):PI X tg (.Call (.Name "range" p) [a] [] pos) (iRng1 ta):=by
 intro pins s σ H R I h
 refine Call_ (zx1 I hg hm boot_range (PyProof.Rows.callWith_type1 (thn (ha pos pins s σ H _ I h) fun us s1 ⟨vs,H1,I1,r1,q1⟩=>?_) hs rfl))
 obtain ⟨j,e,q1,q2,q⟩:=q1
 subst e
 cases r1 with
 | cons r rr=>
  cases rr
  obtain ⟨t,rfl⟩:=r
  exact call_range_1 (zX9 I1 (by omega) (by omega) q1 q2 (by simpa using q))
theorem yg6 {a b:Expr} {ta:TA} {p pos:Pos} (hg:Gl X "range") (hm:X.mg "range" = none) (ha:PA X [a,b] ta) (hs:starEach [a,b] X.env = [(false,eval a X.env),(false,eval b X.env)]:=by rfl) (hs2:starEach [b] X.env = [(false,eval b X.env)]:=by rfl) :
  PI X tg (.Call (.Name "range" p) [a,b] [] pos) (iRng2 ta):=by
 intro pins s σ H R I h
 refine Call_ (zx1 I hg hm boot_range (PyProof.Rows.callWith_type1 (thn (ha pos pins s σ H _ I h) fun us s1 ⟨vs,H1,I1,r1,q1⟩=>?_) (by rw [hs,hs2]) (by rw [hs2];rfl)))
 obtain ⟨i,j,e,⟨q1,q2,q3,q4⟩,q⟩:=q1
 subst e
 cases r1 with
 | cons r rr=>
  cases rr with
  | cons r' rr=>
   cases rr
   obtain ⟨t,rfl⟩:=r
   obtain ⟨t',rfl⟩:=r'
   exact call_range_2 (zX9 I1 q1 q2 q3 q4 q)
noncomputable def tFor (wi:TI) (g:TG) (tb:TS):TS:=fun D σ H=>wi σ H fun J H1=>∃ W:Nat→Nat→St→Hp→Prop,(∃ m,W 0 m σ H1)∧∀ i m σ H,W i m σ H →
 (J.stop i H∧D.nx σ H)∨(J.go i H∧∃ N:St→Hp→Prop,(∀ σ' H',N σ' H'→∃ m',m' < m∧W (i + 1) m' σ' H')∧∀ x H',J.yld i H x H'→g x σ H' fun σ2 H2=>tb { D with nx:=N,ct:=N,bk:=D.nx } σ2 H2)
noncomputable def zQ1 (fp:List Addr) (h:Heap):List (Addr×Obj):=fp.filterMap fun b=>(h.get? b).map fun o=>(b,o)
theorem zw4 {fp:List Addr} {h:Heap} {b:Addr} {o:Obj} (hb:b∈fp) (e:h.get? b = some o):(b,o)∈zQ1 fp h:=List.mem_filterMap.mpr ⟨b,hb,by rw [e];rfl⟩
theorem yi4 {fp:List Addr} {h:Heap} {p:Addr×Obj} (hp:p∈zQ1 fp h):p.1∈fp∧h.get? p.1 = some p.2:=by
 obtain ⟨b,hb,e⟩:=List.mem_filterMap.mp hp
 cases q:h.get? b with
 | none=>rw [q] at e;cases e
 | some o=>
  rw [q] at e
  have e':(b,o) = p:=Option.some.inj e
  subst e'
  exact ⟨hb,q⟩
theorem Inv.pinned {pins:List (Addr×Obj)} {σ:St} {H:Hp} {s:Shared} {fp:List Addr} (I:Inv X pins σ H s) (hf:∀ b∈fp,FpOk X pins H b) (ho:∀ b∈fp,∃ o,s.heap.get? b = some o∧∀ v,o.data≠.cell v):Inv X (pins ++ zQ1 fp s.heap) σ H s:=
 I.pins_of fun p hp=>(List.mem_append.mp hp).elim (fun z=>I.pin p (List.mem_append_right _ z)) fun z=>by
  obtain ⟨hb,e⟩:=yi4 z
  obtain ⟨f0,f1,f2,_⟩:=hf p.1 hb
  obtain ⟨o,e',d⟩:=ho p.1 hb
  rw [e] at e';cases e'
  exact ⟨e,f0,f1,f2,d⟩
theorem Inv.unpinned {pins pl:List (Addr×Obj)} {σ:St} {H:Hp} {s:Shared} (I:Inv X (pins ++ pl) σ H s):Inv X pins σ H s:=I.pins_of fun p hp=>I.pin p (List.mem_append_right _ (List.mem_append_left _ hp))
theorem ps_for {iter:Expr} {body:List Stmt} {wi:TI} {g:TG} {tb:TS} {pos:Pos} (hp:PassesOwn (model X.prog X.w) X.A X.env X.xe) (hc:X.calm = true) (hi:PI X tg iter wi) (hg:PG X tg g) (hb:PSs X body tb)
  (hs:∀ x,foldedSetIterable iter X.env x = pure x:=by intro _;rfl):PS X (.For tg iter body [] pos) (tFor wi g tb):=by
 intro pins s σ H D I h
 refine wpAny_For (thn (hi pins s σ H _ I h) fun v s1 h1=>thn h1 fun itv s2 h2=>?_) hs
 obtain ⟨it,fp,tn,J,H2,e,I2,T,st2,f2,W,⟨m0,w0⟩,turn⟩:=h2
 subst e
 have stat:∀ {H':Hp},(∀ b∈fp,H' b = none)→∀ b∈fp,FpOk X pins H' b:=fun hn b hb=>⟨hn b hb,(f2 b hb).2⟩
 refine codeAny_forLoop_any (fun n s'=>∃ i σ' H',Inv X pins σ' H' s'∧tn i s'.heap∧(∀ b∈fp,H' b = none)∧W i n σ' H') ?_ m0 ⟨0,σ,H2,I2,st2,fun b hb=>(f2 b hb).1,w0⟩
 rintro n s3 ⟨i,σ3,H3,I3,st3,fr3,w3⟩
 rcases turn i n σ3 H3 w3 with ⟨stop,qn⟩ | ⟨go,N,hN,step⟩
 ·refine wpAny_passesOwn hp (thn (T.done X rfl rfl rfl hc i pins s3 σ3 H3 X.xe I3 (stat fr3) st3 stop) fun r s4 z_=>?_)
  obtain ⟨hr,I4⟩:=z_
  subst hr
  exact wpAny_execs_nil ⟨σ3,H3,I4,qn⟩
 ·refine wpAny_passesOwn hp (thn (T.item X rfl rfl rfl hc i pins s3 σ3 H3 X.xe I3 (stat fr3) st3 go) fun r s4 z_=>?_)
  obtain ⟨u,hr,h4⟩:=z_
  subst hr
  refine wpAny_passesOwn hp (thn h4 fun _ s5 z_=>?_)
  obtain ⟨x,H5,I5,r5,y5,st5,fr5⟩:=z_
  have I5':=I5.pinned (stat fr5) (T.obj _ _ st5)
  refine wpAny_passesOwn hp (thn (hg _ s5 σ3 H5 x u _ I5' r5 (step x H5 y5)) fun _ s6 z_=>?_)
  obtain ⟨σ6,H6,I6,q6⟩:=z_
  refine wpAny_passesOwn hp (thn (hb _ s6 σ6 H6 _ I6 q6) fun f s7 q7=>?_)
  have again:∀ {σ7:St} {H7:Hp},Inv X (pins ++ zQ1 fp s5.heap) σ7 H7 s7→N σ7 H7→∃ m,m < n∧∃ i σ' H',Inv X pins σ' H' s7∧tn i s7.heap∧(∀ b∈fp,H' b = none)∧W i m σ' H':=fun {σ7 H7} I7 n7=>by
   obtain ⟨m',hm,w7⟩:=hN σ7 H7 n7
   refine ⟨m',hm,i + 1,σ7,H7,I7.unpinned,T.keep _ _ _ st5 fun b hb o e=>(I7.pin (b,o) (List.mem_append_right _ (List.mem_append_right _ (zw4 hb e)))).1,fun b hb=>?_,w7⟩
   obtain ⟨o,e,d⟩:=T.obj _ _ st5 b hb
   exact (I7.pin (b,o) (List.mem_append_right _ (List.mem_append_right _ (zw4 hb e)))).2.1
  cases f with
  | next=>obtain ⟨σ7,H7,I7,n7⟩:=q7;exact again I7 n7
  | cont=>obtain ⟨σ7,H7,I7,n7⟩:=q7;exact again I7 n7
  | brk=>obtain ⟨σ7,H7,I7,q7⟩:=q7;exact ⟨σ7,H7,I7.unpinned,q7⟩
  | ret v=>obtain ⟨x7,σ7,H7,I7,r7,q7⟩:=q7;exact ⟨x7,σ7,H7,I7.unpinned,r7,q7⟩
end
noncomputable abbrev R2:=V→V→Hp→VK→Prop
noncomputable def OpR (X:Cx) (f:Value→Value→Sem Value) (r:R2):Prop:=
 ∀ (pins:List (Addr×Obj)) (s:Shared) (σ:St) (H:Hp) (x y:V) (v u:Value) (Q:VK),Inv X pins σ H s→RelV x v→RelV y u→r x y H Q →
  wpAny (model X.prog X.w) X.A (f v u) (EP X pins σ Q) X.xe s
noncomputable def UnR (X:Cx) (f:Value→Sem Value) (r:V→Hp→VK→Prop):Prop:=
 ∀ (pins:List (Addr×Obj)) (s:Shared) (σ:St) (H:Hp) (x:V) (v:Value) (Q:VK),Inv X pins σ H s→RelV x v→r x H Q →
  wpAny (model X.prog X.w) X.A (f v) (EP X pins σ Q) X.xe s
noncomputable def CallR (X:Cx) (f:Value) (r:List V→Hp→VK→Prop):Prop:=
 ∀ (pins:List (Addr×Obj)) (s:Shared) (σ:St) (H:Hp) (xs:List V) (us:List Value) (Q:VK),Inv X pins σ H s→Vals xs us→r xs H Q →
  wpAny (model X.prog X.w) X.A (call f us) (EP X pins σ Q) X.xe s
noncomputable def TruR (X:Cx) (r:V→Hp→(Bool→Hp→Prop)→Prop):Prop:=
 ∀ (pins:List (Addr×Obj)) (s:Shared) (σ:St) (H:Hp) (x:V) (v:Value) (Q:Bool→Hp→Prop),Inv X pins σ H s→RelV x v→r x H Q →
  wpAny (model X.prog X.w) X.A (truthy v) (TP X pins σ Q) X.xe s
noncomputable def tOp (r:R2) (ta tb:TE):TE:=fun σ H Q=>ta σ H fun x H1=>tb σ H1 fun y H2=>r x y H2 Q
noncomputable def tUn (r:V→Hp→VK→Prop) (ta:TE):TE:=fun σ H Q=>ta σ H fun x H1=>r x H1 Q
noncomputable def rI (C:Int→Int→Prop) (g:Int→Int→V):R2:=fun x y H Q=>∃ i j,x = .int i∧y = .int j∧C i j∧Q (g i j) H
noncomputable def rI0 (g:Int→Int→V):R2:=fun x y H Q=>∃ i j,x = .int i∧y = .int j∧Q (g i j) H
noncomputable def rU (g:Int→V):V→Hp→VK→Prop:=fun x H Q=>∃ i,x = .int i∧Q (g i) H
section
variable {X:Cx} {a b c:Expr} {ta tb tc:TE} {pos:Pos}
theorem binT (ha:PE X a ta) (hb:PE X b tb) {pins:List (Addr×Obj)} {s:Shared} {σ:St} {H:Hp} {R:V→V→Hp→Prop} (I:Inv X pins σ H s)
  (h:ta σ H fun x H1=>tb σ H1 fun y H2=>R x y H2) {Q:Value→Shared→Prop} {f:Value→Value→Sem Value}
  (hf:∀ v u s2 x y H2,Inv X pins σ H2 s2→RelV x v→RelV y u→R x y H2→wpAny (model X.prog X.w) X.A (f v u) Q X.xe s2) :
  wpAny (model X.prog X.w) X.A (eval a X.env) (fun v s₁=>wpAny (model X.prog X.w) X.A (eval b X.env) (fun u s₂=>wpAny (model X.prog X.w) X.A (f v u) Q X.xe s₂) X.xe s₁) X.xe s:=by
 refine thn (ha pins s σ H _ I h) fun v s1 z_=>?_
 obtain ⟨x,H1,I1,r1,q1⟩:=z_
 refine thn (hb pins s1 σ H1 _ I1 q1) fun u s2 z_=>?_
 obtain ⟨y,H2,I2,r2,q2⟩:=z_
 exact hf v u s2 x y H2 I2 r1 r2 q2
theorem pe_op {op:Operator} {r:R2} (ho:OpR X (binaryOp op) r) (ha:PE X a ta) (hb:PE X b tb):PE X (.BinOp a op b pos) (tOp r ta tb):=by
 intro pins s σ H Q I h
 exact wpAny_BinOp (binT ha hb I h fun v u s2 x y H2 I2 rx ry q=>ho pins s2 σ H2 x y v u Q I2 rx ry q)
theorem pe_un {op:UnaryOp} {r:V→Hp→VK→Prop} (ho:UnR X (unaryOp op) r) (ha:PE X a ta):PE X (.UnaryOp op a pos) (tUn r ta):=by
 intro pins s σ H Q I h
 exact UnaryOp_ (thn (ha pins s σ H _ I h) fun v s1 ⟨x,H1,I1,r1,q1⟩=>ho pins s1 σ H1 x v Q I1 r1 q1)
theorem opI {f:Value→Value→Sem Value} {C:Int→Int→Prop} {g:Int→Int→Int}
  (rule:∀ (i j:Int) (t u:Tok) (s:Shared) (Q:Value→Shared→Prop) (E:Value→Shared→Prop),C i j→Q (.int (g i j) s.toks) { s with toks:=s.toks + 1 }→wpAny (model X.prog X.w) X.A (f (.int i t) (.int j u)) Q E s) :
  OpR X f (rI C fun i j=>.int (g i j)):=by
 intro pins s σ H x y v u Q I rx ry h
 obtain ⟨i,j,rfl,rfl,hc,q⟩:=h
 obtain ⟨t,rfl⟩:=rx
 obtain ⟨t',rfl⟩:=ry
 exact rule i j t t' s _ _ hc ⟨.int (g i j),H,I.tok _,⟨_,rfl⟩,q⟩
theorem opI0 {f:Value→Value→Sem Value} {g:Int→Int→Int}
  (rule:∀ (i j:Int) (t u:Tok) (s:Shared) (Q:Value→Shared→Prop) (E:Value→Shared→Prop),Q (.int (g i j) s.toks) { s with toks:=s.toks + 1 }→wpAny (model X.prog X.w) X.A (f (.int i t) (.int j u)) Q E s) :
  OpR X f (rI0 fun i j=>.int (g i j)):=by
 intro pins s σ H x y v u Q I rx ry h
 obtain ⟨i,j,rfl,rfl,q⟩:=h
 obtain ⟨t,rfl⟩:=rx
 obtain ⟨t',rfl⟩:=ry
 exact rule i j t t' s _ _ ⟨.int (g i j),H,I.tok _,⟨_,rfl⟩,q⟩
theorem opB0 {f:Value→Value→Sem Value} {g:Int→Int→Bool}
  (rule:∀ (i j:Int) (t u:Tok) (s:Shared) (Q:Value→Shared→Prop) (E:Value→Shared→Prop),Q (.bool (g i j)) s→wpAny (model X.prog X.w) X.A (f (.int i t) (.int j u)) Q E s) :
  OpR X f (rI0 fun i j=>.bl (g i j)):=by
 intro pins s σ H x y v u Q I rx ry h
 obtain ⟨i,j,rfl,rfl,q⟩:=h
 obtain ⟨t,rfl⟩:=rx
 obtain ⟨t',rfl⟩:=ry
 exact rule i j t t' s _ _ ⟨.bl (g i j),H,I,rfl,q⟩
noncomputable def CDiv (i j:Int):Prop:=0 < j∧j < 1073741824
noncomputable def CMul (i j:Int):Prop:=(-(2 ^ 64) < i∧i < 2 ^ 64)∨(-(2 ^ 64) < j∧j < 2 ^ 64)
theorem CMul.ok {i j:Int} (h:CMul i j):IntMulOk i j:=by
 rcases h with ⟨h1,h2⟩ | ⟨h1,h2⟩
 ·exact .of_left (intBits_le_64 h1 h2)
 ·exact .of_right (intBits_le_64 h1 h2)
theorem op_add:OpR X (binaryOp .Add) (rI0 fun i j=>.int (i + j)):=opI0 fun _ _ _ _ _ _ _ q=>add_int q
theorem op_sub:OpR X (binaryOp .Sub) (rI0 fun i j=>.int (i - j)):=opI0 fun _ _ _ _ _ _ _ q=>sub_int q
theorem op_mul:OpR X (binaryOp .Mult) (rI CMul fun i j=>.int (i * j)):=opI fun _ _ _ _ _ _ _ hc q=>mul_int q hc.ok
theorem op_fdiv:OpR X (binaryOp .FloorDiv) (rI CDiv fun i j=>.int (i / j)):=opI fun i j _ _ _ _ _ hc q=>by
 have h1:(0:Int) < j:=hc.1
 have h2:j < 1073741824:=hc.2
 exact floordiv_int (by omega) (by rw [Int.fdiv_eq_ediv_of_nonneg i (by omega)];exact q) (.inl (PyProof.noPylong_small (by omega)))
theorem op_mod:OpR X (binaryOp .Mod) (rI (fun _ j=>0 < j) fun i j=>.int (i % j)):=opI fun i j _ _ _ _ _ hc q=>by
 have h1:(0:Int) < j:=hc
 exact mod_int' (by omega) (by rw [Int.fmod_eq_emod_of_nonneg i (by omega)];exact q)
theorem unI {f:Value→Sem Value} {g:Int→Int}
  (rule:∀ (i:Int) (t:Tok) (s:Shared) (Q:Value→Shared→Prop) (E:Value→Shared→Prop),Q (.int (g i) s.toks) { s with toks:=s.toks + 1 }→wpAny (model X.prog X.w) X.A (f (.int i t)) Q E s) :
  UnR X f (rU fun i=>.int (g i)):=by
 intro pins s σ H x v Q I rx h
 obtain ⟨i,rfl,q⟩:=h
 obtain ⟨t,rfl⟩:=rx
 exact rule i t s _ _ ⟨.int (g i),H,I.tok _,⟨_,rfl⟩,q⟩
theorem un_neg:UnR X (unaryOp .USub) (rU fun i=>.int (-i)):=unI fun _ _ _ _ _ q=>neg_int q
end
noncomputable def scal:V→V→Bool
 | .non,.non=>true | .non,.int _=>true | .int _,.non=>true | .non,.bl _=>true | .bl _,.non=>true | .non,.str _=>true | .str _,.non=>true
 | .int _,.int _=>true | .bl _,.bl _=>true | .str _,.str _=>true | .byt _,.byt _=>true
 | .int _,.str _=>true | .str _,.int _=>true | .bl _,.str _=>true | .str _,.bl _=>true
 | _,_=>false
noncomputable def rEq:R2:=fun x y H Q=>scal x y = true∧Q (.bl (decide (x = y))) H
noncomputable def rNe:R2:=fun x y H Q=>scal x y = true∧Q (.bl (!decide (x = y))) H
theorem zO3 {i j:Int}:decide (V.int i = V.int j) = (i == j):=by
 rw [Bool.eq_iff_iff]
 simp
theorem dec_bl {i j:Bool}:decide (V.bl i = V.bl j) = (i == j):=by
 rw [Bool.eq_iff_iff]
 simp
theorem zO2 {i j:Str}:decide (V.str i = V.str j) = (i == j):=by
 rw [Bool.eq_iff_iff]
 simp
theorem yn1 {i j:Array UInt8}:decide (V.byt i = V.byt j) = (i.toList == j.toList):=by
 rw [Bool.eq_iff_iff]
 cases i
 cases j
 simp
section
variable {X:Cx} {a b c:Expr} {ta tb tc:TE} {pos:Pos}
theorem zj5 {pins:List (Addr×Obj)} {σ:St} {H:Hp} {s:Shared} {Q:VK} {k k':Bool} (I:Inv X pins σ H s) (q:Q (.bl k) H) (e:k = k'):EP X pins σ Q (.bool k') s:=by
 subst e
 exact ⟨.bl k,H,I,rfl,q⟩
theorem op_eq:OpR X (compareOp .Eq) rEq:=by
 intro pins s σ H x y v u Q I rx ry h
 obtain ⟨hs,q⟩:=h
 cases x with
 | non=>
  cases rx
  cases y with
  | non=>cases ry;exact PySem.EqNone.eq_none_none (zj5 I q (by simp))
  | bl j=>cases ry;exact PySem.EqNone.eq_none_bool (zj5 I q (by simp))
  | int j=>obtain ⟨t',rfl⟩:=ry;exact PySem.EqNone.eq_none_int (zj5 I q (by simp))
  | str j=>obtain ⟨t',rfl⟩:=ry;exact PySem.EqNone.eq_none_str (zj5 I q (by simp))
  | _=>exact absurd (show false = true from hs) Bool.false_ne_true
 | bl i=>
  cases rx
  cases y with
  | non=>cases ry;exact PySem.EqNone.eq_bool_none (zj5 I q (by simp))
  | bl j=>cases ry;exact eq_bool (zj5 I q dec_bl)
  | str j=>obtain ⟨t',rfl⟩:=ry;exact PySem.EqMixed.eq_bool_str (zj5 I q (by simp))
  | _=>exact absurd (show false = true from hs) Bool.false_ne_true
 | int i=>
  obtain ⟨t,rfl⟩:=rx
  cases y with
  | non=>cases ry;exact PySem.EqNone.eq_int_none (zj5 I q (by simp))
  | int j=>obtain ⟨t',rfl⟩:=ry;exact eq_int (zj5 I q zO3)
  | str j=>obtain ⟨t',rfl⟩:=ry;exact PySem.EqMixed.eq_int_str (zj5 I q (by simp))
  | _=>exact absurd (show false = true from hs) Bool.false_ne_true
 | str i=>
  obtain ⟨t,rfl⟩:=rx
  cases y with
  | non=>cases ry;exact PySem.EqNone.eq_str_none (zj5 I q (by simp))
  | bl j=>cases ry;exact PySem.EqMixed.eq_str_bool (zj5 I q (by simp))
  | int j=>obtain ⟨t',rfl⟩:=ry;exact PySem.EqMixed.eq_str_int (zj5 I q (by simp))
  | str j=>obtain ⟨t',rfl⟩:=ry;exact eq_str (zj5 I q zO2)
  | _=>exact absurd (show false = true from hs) Bool.false_ne_true
 | byt i=>
  obtain ⟨t,rfl⟩:=rx
  cases y with
  | byt j=>obtain ⟨t',rfl⟩:=ry;exact PySem.W.eq_bytes (zj5 I q yn1)
  | _=>exact absurd (show false = true from hs) Bool.false_ne_true
 | _=>cases y <;> exact absurd (show false = true from hs) Bool.false_ne_true
theorem op_ne:OpR X (compareOp .NotEq) rNe:=by
 intro pins s σ H x y v u Q I rx ry h
 obtain ⟨hs,q⟩:=h
 cases x with
 | non=>
  cases rx
  cases y with
  | non=>cases ry;exact PySem.EqNone.ne_none_none (zj5 I q (by simp))
  | bl j=>cases ry;exact PySem.EqNone.ne_none_bool (zj5 I q (by simp))
  | int j=>obtain ⟨t',rfl⟩:=ry;exact PySem.EqNone.ne_none_int (zj5 I q (by simp))
  | str j=>obtain ⟨t',rfl⟩:=ry;exact PySem.EqNone.ne_none_str (zj5 I q (by simp))
  | _=>exact absurd (show false = true from hs) Bool.false_ne_true
 | bl i=>
  cases rx
  cases y with
  | non=>cases ry;exact PySem.EqNone.ne_bool_none (zj5 I q (by simp))
  | bl j=>cases ry;exact ne_bool (zj5 I q (congrArg not dec_bl))
  | str j=>obtain ⟨t',rfl⟩:=ry;exact PySem.EqMixed.ne_bool_str (zj5 I q (by simp))
  | _=>exact absurd (show false = true from hs) Bool.false_ne_true
 | int i=>
  obtain ⟨t,rfl⟩:=rx
  cases y with
  | non=>cases ry;exact PySem.EqNone.ne_int_none (zj5 I q (by simp))
  | int j=>obtain ⟨t',rfl⟩:=ry;exact ne_int (zj5 I q (congrArg not zO3))
  | str j=>obtain ⟨t',rfl⟩:=ry;exact PySem.EqMixed.ne_int_str (zj5 I q (by simp))
  | _=>exact absurd (show false = true from hs) Bool.false_ne_true
 | str i=>
  obtain ⟨t,rfl⟩:=rx
  cases y with
  | non=>cases ry;exact PySem.EqNone.ne_str_none (zj5 I q (by simp))
  | bl j=>cases ry;exact PySem.EqMixed.ne_str_bool (zj5 I q (by simp))
  | int j=>obtain ⟨t',rfl⟩:=ry;exact PySem.EqMixed.ne_str_int (zj5 I q (by simp))
  | str j=>obtain ⟨t',rfl⟩:=ry;exact ne_str (zj5 I q (congrArg not zO2))
  | _=>exact absurd (show false = true from hs) Bool.false_ne_true
 | byt i=>
  obtain ⟨t,rfl⟩:=rx
  cases y with
  | byt j=>obtain ⟨t',rfl⟩:=ry;exact PySem.W.ne_bytes (zj5 I q (congrArg not yn1))
  | _=>exact absurd (show false = true from hs) Bool.false_ne_true
 | _=>cases y <;> exact absurd (show false = true from hs) Bool.false_ne_true
theorem op_lt:OpR X (compareOp .Lt) (rI0 fun i j=>.bl (decide (i < j))):=opB0 fun _ _ _ _ _ _ _ q=>lt_int q
theorem op_gt:OpR X (compareOp .Gt) (rI0 fun i j=>.bl (decide (j < i))):=opB0 fun _ _ _ _ _ _ _ q=>gt_int q
theorem op_in_str:OpR X (compareOp .In) (fun x y H Q=>∃ i j,x = .str i∧y = .str j∧Q (.bl (!(Builtin.Str.occurrences j i 0 j.length 1).isEmpty)) H):=by
 intro pins s σ H x y v u Q I rx ry h
 obtain ⟨i,j,rfl,rfl,q⟩:=h
 obtain ⟨t,rfl⟩:=rx
 obtain ⟨t',rfl⟩:=ry
 exact in_str (zj5 I q rfl)
theorem op_isN:OpR X (compareOp .Is) (fun x y H Q=>y = .non∧Q (.bl (decide (x = .non))) H):=by
 intro pins s σ H x y v u Q I rx ry h
 obtain ⟨rfl,q⟩:=h
 cases ry
 refine is_none_gen (zj5 I q ?_)
 cases x <;> first
  | (cases rx;rfl)
  | (obtain ⟨t,rfl⟩:=rx;rfl)
theorem op_notN:OpR X (compareOp .IsNot) (fun x y H Q=>y = .non∧Q (.bl (!decide (x = .non))) H):=by
 intro pins s σ H x y v u Q I rx ry h
 obtain ⟨rfl,q⟩:=h
 cases ry
 refine isnot_none_gen (zj5 I q ?_)
 cases x <;> first
  | (cases rx;rfl)
  | (obtain ⟨t,rfl⟩:=rx;rfl)
theorem op_notin_str:OpR X (compareOp .NotIn) (fun x y H Q=>∃ i j,x = .str i∧y = .str j∧Q (.bl (!(!(Builtin.Str.occurrences j i 0 j.length 1).isEmpty))) H):=by
 intro pins s σ H x y v u Q I rx ry h
 obtain ⟨i,j,rfl,rfl,q⟩:=h
 obtain ⟨t,rfl⟩:=rx
 obtain ⟨t',rfl⟩:=ry
 exact notIn_str (zj5 I q rfl)
theorem OpR.or {f:Value→Value→Sem Value} {r r':R2} (h:OpR X f r) (h':OpR X f r'):OpR X f (fun x y H Q=>r x y H Q∨r' x y H Q):=by
 intro pins s σ H x y v u Q I rx ry q
 rcases q with q | q
 ·exact h pins s σ H x y v u Q I rx ry q
 ·exact h' pins s σ H x y v u Q I rx ry q
theorem zj1 (b:Expr) {op:CmpOp} (h:op≠.In:=by decide) (h2:op≠.NotIn:=by decide):behindInMarks op b = false:=by
 have e1:(op == CmpOp.In) = false:=by cases op <;> first | rfl | exact absurd rfl h
 have e2:(op == CmpOp.NotIn) = false:=by cases op <;> first | rfl | exact absurd rfl h2
 cases b <;> simp [behindInMarks,e1,e2]
theorem pe_cmpR {op:CmpOp} {r:R2} (ho:OpR X (compareOp op) r) (ha:PE X a ta) (hb:PE X b tb) (hm:behindInMarks op b = false):PE X (.Compare a [op] [b] pos) (tOp r ta tb):=by
 intro pins s σ H Q I h
 exact wpAny_Compare1 (binT ha hb I h fun v u s2 x y H2 I2 rx ry q=>ho pins s2 σ H2 x y v u Q I2 rx ry q) hm
noncomputable def tTest (t:TE):TT:=fun σ H Q=>t σ H fun x H'=>∃ k,x = .bl k∧Q k H'
theorem pt_cmpR {op:CmpOp} {r:R2} (ho:OpR X (compareOp op) r) (ha:PE X a ta) (hb:PE X b tb) (hm:behindInMarks op b = false):PT X (.Compare a [op] [b] pos) (tTest (tOp r ta tb)):=by
 intro pins s σ H Q I h
 refine wpAny_isTrue_Compare1 (thn (ha pins s σ H _ I h) fun v s1 ⟨x,H1,I1,r1,q1⟩=>thn (hb pins s1 σ H1 _ I1 q1) fun u s2 ⟨y,H2,I2,r2,q2⟩=>
  thn (ho pins s2 σ H2 x y v u _ I2 r1 r2 q2) fun c s3 ⟨z,H3,I3,r3,k,e,q3⟩=>?_) hm
 subst e
 cases r3
 exact wpAny_truthy_bool ⟨H3,I3,q3⟩
noncomputable def TruV (K:PySem.W.Frag) (x:V) (H:Hp) (k:Bool):Prop:=
 match x with
 | .non=>k = false
 | .bl b=>k = b
 | .int i=>k = (i != 0)
 | .str y=>y.length≤sizeLine∧k = ((y.length:Int) != 0)
 | .byt y=>y.size≤sizeLine∧k = ((y.size:Int) != 0)
 | .ref p=>(∃ xs,SqL K H p xs∧k = !xs.isEmpty)∨(∃ xs,SqT K H p xs∧k = !xs.isEmpty)∨∃ kvs,H p = some (.dK kvs)∧k = !kvs.isEmpty
 | _=>False
theorem yd6 {κ:Type} {kvs:List (κ×V)} {vs:List (κ×Value)} (r:KV kvs vs):(!vs.isEmpty) = !kvs.isEmpty:=by
 cases r <;> rfl
theorem zI6 {xs:List V} {its:List Value} (r:Vals xs its):(!its.toArray.isEmpty) = !xs.isEmpty:=by
 cases r <;> simp
theorem zF3:(sizeLine:Nat) < 2 ^ 63:=by rw [sizeLine_eq];decide
theorem tru_ok:TruR X (fun x H Q=>∃ k,TruV X.K x H k∧Q k H):=by
 intro pins s σ H x v Q I rx h
 obtain ⟨k,e,q⟩:=h
 have hl:=zF3
 have hs:sizeLine = 16777216:=sizeLine_eq
 cases x with
 | non=>
  cases rx
  have e':k = false:=e
  subst e'
  exact truthy_none ⟨H,I,q⟩
 | bl b=>
  cases rx
  have e':k = b:=e
  subst e'
  exact wpAny_truthy_bool ⟨H,I,q⟩
 | int i=>
  obtain ⟨t,rfl⟩:=rx
  have e':k = (i != 0):=e
  subst e'
  exact PySem.P.truthy_int ⟨H,I,q⟩
 | str y=>
  obtain ⟨t,rfl⟩:=rx
  obtain ⟨hy,e'⟩:y.length≤sizeLine∧k = ((y.length:Int) != 0):=e
  subst e'
  exact PySem.P.truthy_str (by omega) ⟨H,I.tok _,q⟩
 | byt y=>
  obtain ⟨t,rfl⟩:=rx
  obtain ⟨hy,e'⟩:y.size≤sizeLine∧k = ((y.size:Int) != 0):=e
  subst e'
  exact PySem.W.truthy_bytes (by omega) ⟨H,I.tok _,q⟩
 | ref p=>
  cases rx
  have e':(∃ xs,SqL X.K H p xs∧k = !xs.isEmpty)∨(∃ xs,SqT X.K H p xs∧k = !xs.isEmpty)∨∃ kvs,H p = some (.dK kvs)∧k = !kvs.isEmpty:=e
  rcases e' with ⟨xs,hx,e'⟩ | ⟨xs,hx,e'⟩ | ⟨kvs,hx,e'⟩
  ·subst e'
   obtain ⟨its,r,pl,hz⟩:=I.list hx
   have hlen:=r.length
   exact wpAny_truthy_list pl.isList (by simp only [List.size_toArray];omega) ⟨H,I.tok _,by rw [zI6 r];exact q⟩
  ·subst e'
   obtain ⟨its,r,pl,hz⟩:=I.tuple hx
   have hlen:=r.length
   exact truthy_tuple pl (by simp only [List.size_toArray];omega) ⟨H,I.tok _,by rw [zI6 r];exact q⟩
  ·subst e'
   obtain ⟨hz,hS,vs,r,m⟩:kvs.length≤sizeLine∧(p == sysModules) = false∧∃ vs,KV kvs vs∧s.heap.DictOf (zV4 X.prog X.w) p vs:=I.hok p _ hx
   have hlen:kvs.length = vs.length:=Paired.length r
   exact wpAny_truthy_dict hS m (by omega) ⟨H,I.tok _,by rw [yd6 r];exact q⟩
 | _=>exact (show False from e).elim
theorem pt_truth (ha:PE X a ta) (he:∀ whole,isTrue a X.env whole = (do let v ← whole;standAt a.pos;holding [v] (truthy v))) :
  PT X a (fun σ H Q=>ta σ H fun x H'=>∃ k,TruV X.K x H' k∧Q k H'):=by
 intro pins s σ H Q I h
 exact isTrue_plain (thn (ha pins s σ H _ I h) fun v s1 ⟨x,H1,I1,r1,q1⟩=>tru_ok pins s1 σ H1 x v Q I1 r1 q1) (he _)
theorem op_add_str:OpR X (binaryOp .Add) (fun x y H Q=>∃ i j,x = .str i∧y = .str j∧i.length + j.length≤sizeLine∧Q (.str (i ++ j)) H):=by
 intro pins s σ H x y v u Q I rx ry h
 obtain ⟨i,j,rfl,rfl,hz,q⟩:=h
 obtain ⟨t,rfl⟩:=rx
 obtain ⟨t',rfl⟩:=ry
 exact add_str (fun t' tk=>⟨.str (i ++ j),H,I.tok _,⟨_,rfl⟩,q⟩) hz
theorem vals1 {x:V} {us:List Value} (r:Vals [x] us):∃ u,us = [u]∧RelV x u:=by
 cases r with
 | cons r1 r2=>cases r2;exact ⟨_,rfl,r1⟩
theorem vals2 {x y:V} {us:List Value} (r:Vals [x,y] us):∃ u w',us = [u,w']∧RelV x u∧RelV y w':=by
 cases r with
 | cons r1 r2=>
  cases r2 with
  | cons r3 r4=>cases r4;exact ⟨_,_,rfl,r1,r3⟩
theorem yn6 (hc:X.calm = true):CallR X (.builtin "max") (fun xs H Q=>∃ i j,xs = [.int i,.int j]∧Q (.int (if j > i then j else i)) H):=by
 intro pins s σ H xs us Q I r h
 obtain ⟨i,j,rfl,q⟩:=h
 obtain ⟨u,w',rfl,⟨t,rfl⟩,⟨t',rfl⟩⟩:=vals2 r
 refine max_two_ints (I.ok.hd hc) fun h' tk k=>⟨_,H,I.kept k,?_,q⟩
 by_cases hj:j > i
 ·rw [if_pos hj,if_pos hj];exact ⟨_,rfl⟩
 ·rw [if_neg hj,if_neg hj];exact ⟨_,rfl⟩
theorem yn5 (hc:X.calm = true):CallR X (.builtin "min") (fun xs H Q=>∃ i j,xs = [.int i,.int j]∧Q (.int (if j < i then j else i)) H):=by
 intro pins s σ H xs us Q I r h
 obtain ⟨i,j,rfl,q⟩:=h
 obtain ⟨u,w',rfl,⟨t,rfl⟩,⟨t',rfl⟩⟩:=vals2 r
 refine min_two_ints (I.ok.hd hc) fun h' tk k=>⟨_,H,I.kept k,?_,q⟩
 by_cases hj:j < i
 ·rw [if_pos hj,if_pos hj];exact ⟨_,rfl⟩
 ·rw [if_neg hj,if_neg hj];exact ⟨_,rfl⟩
end
section
variable {prog:Program} {w:World} {A:Around} {E:Value→Shared→Prop} {s:Shared} {K:PySem.W.Frag} {x dx C f:Addr} {mA:Str→Option Value} {name:Str} {v:Value}
end
section
variable {P:Program} {w:World} {H H':Hp} {h h':Heap} {a C dx:Addr} {fs fs':List (Str×V)}
end
structure Cls (K:PySem.W.Frag) (C:Addr):Prop where
 pg:PySem.W.plainGet K C Str.empty = true
 hd:PySem.W.hasDictIn K C = true
 po:PySem.W.plainOver K C = true
theorem Cls.get {K:PySem.W.Frag} {C:Addr} (c:Cls K C) (f:Str):PySem.W.plainGet K C f = true:=c.pg
section
variable {X:Cx} {pins:List (Addr×Obj)} {σ:St} {H:Hp} {s:Shared} {a C dx:Addr} {fs:List (Str×V)} {f:Str} {v:V} {A:Around} {E:Value→Shared→Prop}
theorem Inv.made (I:Inv X pins σ H s):Inv X pins σ (upd (upd H s.heap.objs.size (.own (s.heap.objs.size + 1))) (s.heap.objs.size + 1) (.ins C s.heap.objs.size []))
  { s with heap:=(s.heap.push PySem.W.emptyDict).push (PySem.W.instObj C s.heap.objs.size) }:=by
 have e1:(s.heap.push PySem.W.emptyDict).get? s.heap.objs.size = some PySem.W.emptyDict:=Heap.get?_push_size s.heap rfl
 have e2:((s.heap.push PySem.W.emptyDict).push (PySem.W.instObj C s.heap.objs.size)).get? (s.heap.objs.size + 1) = some (PySem.W.instObj C s.heap.objs.size):=by
  have:=Heap.get?_push_size (s.heap.push PySem.W.emptyDict) (o:=PySem.W.instObj C s.heap.objs.size) rfl
  rwa [Heap.size_push] at this
 have e3:(s.heap.push PySem.W.emptyDict).Ns s.heap.objs.size (fun _=>none):=⟨PySem.W.emptyDict,#[],_,e1,rfl,(fun e he=>absurd he (by simp)),fun _=>rfl⟩
 have I1:=I.laid (a:=s.heap.objs.size) (o:=.own (s.heap.objs.size + 1)) (h':=s.heap.push PySem.W.emptyDict) (t':=s.toks) (fun b u q=>Heap.get?_push_of_some _ q) (Nat.le_refl _) ⟨_,e1⟩
 refine I1.laid (a:=s.heap.objs.size + 1) (o:=.ins C s.heap.objs.size []) (t':=s.toks) (fun b u q=>Heap.get?_push_of_some _ q) (Nat.le_of_eq (Heap.size_push _ _)) ?_
 have ne:s.heap.objs.size≠s.heap.objs.size + 1:=Nat.ne_of_lt (Nat.lt_succ_self _)
 refine ⟨by rw [ze2 ne,ze6],Nat.zero_le _,ne,e2,fun _=>none,(Heap.Ns1.of_empty e3).at fun o q=>Heap.get?_push_of_some _ q,fun _=>True.intro,fun y hy=>absurd rfl hy⟩
end
section
variable {X:Cx} {o e value:Expr} {f:Str} {pos pos' tpos:Pos} {ta tv:TE}
end
section
variable {X:Cx} {pins:List (Addr×Obj)} {σ:St} {H:Hp} {s:Shared} {A:Around} {E:Value→Shared→Prop} {Q:Value→Shared→Prop} {c:Value} {b:Bool}
end
structure Room (k:Nat) (A:Around):Prop where
 hd:A.handled = none
 dp:A.depth + 3 * k + 5 < recursionLimit
 un:A.units + 16 * k + 200 < cLine
theorem Room.mono {j k:Nat} {A:Around} (r:Room k A) (h:j≤k):Room j A:=⟨r.hd,by have:=r.dp;omega,by have:=r.un;omega⟩
theorem Room.deeper {k:Nat} {A:Around} (r:Room (k + 1) A) (env:Env):Room k (A.deeper env):=
 ⟨r.hd,by have:=r.dp;show A.depth + 1 + 3 * k + 5 < _;omega,by have:=r.un;show A.units + 3 + 16 * k + 200 < _;omega⟩
theorem Room.in1 {k:Nat} {A:Around} (r:Room (k + 1) A):Room k A.in1:=
 ⟨r.hd,by have:=r.dp;show A.depth + 3 * k + 5 < _;omega,by have:=r.un;show A.units + 1 + 16 * k + 200 < _;omega⟩
theorem yd2 {A:Around} {C:Addr} {us:List Value} {kw:List (Str×Value)}:(A.under (.builtin "type.__call__" ⟨.ref C :: us,kw⟩)).depth = A.depth + 1:=by
 first | rfl | simp [Around.under,Code.weight,Code.isCreation,Code.isGuard,Code.isCaller,Code.frames,Code.isFrame,guardIds]
theorem yd1 {A:Around} {C:Addr} {us:List Value} {kw:List (Str×Value)}:(A.under (.builtin "type.__call__" ⟨.ref C :: us,kw⟩)).units = A.units + 1:=by
 first | rfl | simp [Around.under,Code.cUnits,Code.frames,Code.isFrame]
theorem Room.make {k:Nat} {A:Around} (r:Room (k + 1) A) (C:Addr) (us:List Value) (kw:List (Str×Value)):Room k (A.under (.builtin "type.__call__" ⟨.ref C :: us,kw⟩)):=
 ⟨r.hd,by have:=r.dp;rw [yd2];omega,by have:=r.un;rw [yd1];omega⟩
theorem Room.depth {k:Nat} {A:Around} (r:Room k A):A.depth < recursionLimit:=by have:=r.dp;omega
theorem Room.units {k:Nat} {A:Around} (r:Room k A):A.units + 64 < cLine:=by have:=r.un;omega
noncomputable def tNil:TA:=fun _ H Q=>Q [] H
noncomputable def tCons (ta:TE) (tr:TA):TA:=fun σ H Q=>ta σ H fun x H1=>tr σ H1 fun xs H2=>Q (x :: xs) H2
section
variable {X:Cx} {e:Expr} {es:List Expr} {te:TE} {t:TA} {pos:Pos}
theorem zY5:PA X [] tNil:=fun _ _ _ _ H Q I h=>Calls.spliced_nil ⟨[],H,I,.nil,h⟩
theorem zL6 (ha:PE X e te) (hr:PA X es t) (hs:starEach (e :: es) X.env = (false,eval e X.env) :: starEach es X.env:=by rfl):PA X (e :: es) (tCons te t):=by
 intro pos pins s σ H Q I h
 rw [hs]
 show wpAny _ _ (spliced ((false,eval e X.env) :: backTo pos (starEach es X.env))) _ _ s
 refine Calls.spliced_cons (thn (ha pins s σ H _ I h) fun u s1 z_=>?_)
 obtain ⟨x,H1,I1,r1,q1⟩:=z_
 exact thn (hr pos pins s1 σ H1 _ I1 q1) fun us s2 z_=>by obtain ⟨xs,H2,I2,r2,q2⟩:=z_;exact ⟨x :: xs,H2,I2,.cons r1 r2,q2⟩
noncomputable def tTup (t:TA):TE:=fun σ H Q=>t σ H fun xs H1=>xs.length≤sizeLine∧∀ p,H1 p = none→Q (.ref p) (upd H1 p (.tup xs))
noncomputable def tLst (t:TA):TE:=fun σ H Q=>t σ H fun xs H1=>xs.length≤sizeLine∧∀ p,H1 p = none→Q (.ref p) (upd H1 p (.lst xs))
theorem pe_tup {x1} (h:PA X es t):PE X (.Tuple es x1 pos) (tTup t):=by
 intro pins s σ H Q I hq
 refine wpAny_Tuple_spliced (thn (h pos pins s σ H _ I hq) fun us s1 ⟨xs,H1,I1,r,z,q⟩=>⟨by rw [← r.length];exact z,?_⟩)
 have hf:H1 s1.heap.objs.size = none:=I1.hok.fresh (Nat.le_refl _)
 refine ⟨.ref s1.heap.objs.size,upd H1 s1.heap.objs.size (.tup xs),I1.laid (t':=s1.toks) (fun b u e=>Heap.get?_push_of_some _ e) (Nat.le_refl _) ?_,rfl,q _ hf⟩
 exact ⟨z,us,r,⟨_,Heap.get?_push_size _ rfl,rfl,_,rfl⟩⟩
theorem pe_lst (h:PA X es t):PE X (.List es pos) (tLst t):=by
 intro pins s σ H Q I hq
 refine wpAny_List_spliced (thn (h pos pins s σ H _ I hq) fun us s1 ⟨xs,H1,I1,r,z,q⟩=>⟨by rw [← r.length];exact z,?_⟩)
 have hf:H1 s1.heap.objs.size = none:=I1.hok.fresh (Nat.le_refl _)
 refine ⟨.ref s1.heap.objs.size,upd H1 s1.heap.objs.size (.lst xs),I1.laid (t':=s1.toks) (fun b u e=>Heap.get?_push_of_some _ e) (Nat.le_refl _) ?_,rfl,q _ hf⟩
 exact ⟨z,us,0,r,Heap.get?_push_size _ rfl⟩
end
noncomputable abbrev Sp:=List V→Hp→VK→XK→Prop
noncomputable abbrev CXT:=List Env→Hp→Shared→XK→Value→Shared→Prop
structure Env0 (P:Program) (w:World) (K:PySem.W.Frag) (mg:Str→Option Value) (base:Heap) (A:Around) (outer:List Env) (s:Shared) (H:Hp):Prop where
 frames:A.frames = some outer
 mod:Mod K mg base
 bs:∀ b o,base.get? b = some o→s.heap.get? b = some o∧H b = none
 bsz:base.objs.size≤s.heap.objs.size
 funs:s.heap.FunFrames base outer
 frf:∀ b∈frs outer,H b = none
 hok:HOk P w H s.heap
 bare:AllBare s.gens
noncomputable def CE (outer:List Env) (P:Program) (w:World) (H:Hp) (s:Shared) (Q:VK) (u:Value) (s':Shared):Prop:=
 ∃ v H',s'.os = s.os∧AllBare s'.gens∧Un (frs outer) [] H H' s.heap s'.heap∧HOk P w H' s'.heap∧RelV v u∧Q v H'
noncomputable def CR (CX:CXT) (outer:List Env) (P:Program) (w:World) (H:Hp) (s:Shared) (Q:VK) (E:XK) (r:Result) (s':Shared):Prop:=
 match r with
 | .ok (.ret u)=>CE outer P w H s Q u s'
 | .ok _=>False
 | .error e=>CX outer H s E e s'
structure FnOk (P:Program) (w:World) (K:PySem.W.Frag) (mg:Str→Option Value) (base:Heap) (CX:CXT) (k:Nat) (f:Addr) (fd:FuncData) (ps:List Str) (sp:Sp):Prop where
 len:∀ vs H Q E,sp vs H Q E→vs.length = ps.length
 run:∀ (A:Around) (outer:List Env) (s:Shared) (H:Hp) (args:Args) (us:List Value) (vs:List V) (Q:VK) (E:XK),Room k A→Env0 P w K mg base A outer s H→BindsTo s fd args (ps.zip us)→Vals vs us→sp vs H Q E →
  codeAny (model P w) A (.call (.ref f) args) (CR CX outer P w H s Q E) s
theorem FnOk.mono {P:Program} {w:World} {K:PySem.W.Frag} {mg:Str→Option Value} {base:Heap} {CX:CXT} {j k:Nat} {f:Addr} {fd:FuncData} {ps:List Str} {sp:Sp} (F:FnOk P w K mg base CX j f fd ps sp) (h:j≤k) :
  FnOk P w K mg base CX k f fd ps sp:=⟨F.len,fun A outer s H args us vs Q E hr=>F.run A outer s H args us vs Q E (hr.mono h)⟩
theorem FnOk.imp {P:Program} {w:World} {K:PySem.W.Frag} {mg:Str→Option Value} {base:Heap} {CX:CXT} {k:Nat} {f:Addr} {fd:FuncData} {ps:List Str} {sp sp':Sp} (F:FnOk P w K mg base CX k f fd ps sp)
  (h:∀ vs H Q E,sp' vs H Q E→sp vs H Q E):FnOk P w K mg base CX k f fd ps sp':=
 ⟨fun vs H Q E q=>F.len vs H Q E (h _ _ _ _ q),fun A outer s H args us vs Q E hr he hb hv hs=>F.run A outer s H args us vs Q E hr he hb hv (h _ _ _ _ hs)⟩
theorem Env0.make {P:Program} {w:World} {K:PySem.W.Frag} {mg:Str→Option Value} {base:Heap} {A:Around} {outer:List Env} {s:Shared} {H:Hp} (e:Env0 P w K mg base A outer s H) (C:Addr) (us:List Value) (kw:List (Str×Value)) :
  Env0 P w K mg base (A.under (.builtin "type.__call__" ⟨.ref C :: us,kw⟩)) outer s H:=⟨by first | exact e.frames | (simpa [Around.under,Code.envs,Code.isFrame,pushEnvs] using e.frames),e.mod,e.bs,e.bsz,e.funs,e.frf,e.hok,e.bare⟩
theorem Env0.in1 {P:Program} {w:World} {K:PySem.W.Frag} {mg:Str→Option Value} {base:Heap} {A:Around} {outer:List Env} {s:Shared} {H:Hp} (e:Env0 P w K mg base A outer s H) :
  Env0 P w K mg base A.in1 outer s H:=⟨e.frames,e.mod,e.bs,e.bsz,e.funs,e.frf,e.hok,e.bare⟩
section
variable {X:Cx} {pins:List (Addr×Obj)} {σ:St} {H:Hp} {s s':Shared}
theorem Inv.env0 (I:Inv X pins σ H s):Env0 X.prog X.w X.K X.mg X.base X.A X.stack s H:=
 ⟨I.ok.frames,I.ok.mod,I.bs,Nat.le_trans I.ok.bsz I.sz,I.stack,I.stkFree,I.hok,I.bare⟩
theorem Inv.after {Q:VK} {u:Value} (I:Inv X pins σ H s) (h:CE X.stack X.prog X.w H s Q u s'):EP X pins σ Q u s':=by
 obtain ⟨v,H',os,bare,un,hok,r,q⟩:=h
 obtain ⟨hh,g,d,t,os'⟩:=s'
 obtain rfl:os' = s.os:=os
 exact ⟨v,H',I.call (h':=hh) (g':=g) (d':=d) (t':=t) (ch:=[]) un hok bare (fun b z=>absurd z (by simp)),r,q⟩
end
noncomputable def tCall (sp:Sp) (dvs:List V) (E:XK) (t:TA):TE:=fun σ H Q=>t σ H fun vs H1=>sp (vs ++ dvs) H1 Q E
noncomputable def Binds (K:PySem.W.Frag) (fd:FuncData) (ps:List Str) (ds:List Value):Prop:=
 ∀ (s:Shared) (us:List Value),K.In s.heap→(us ++ ds).length = ps.length→BindsTo s fd ⟨us,[]⟩ (ps.zip (us ++ ds))
theorem Binds.all {K:PySem.W.Frag} {fd:FuncData} {ps:List Str} (h:∀ us:List Value,us.length = ps.length→bindArgs fd ⟨us,[]⟩ = pure (ps.zip us)):Binds K fd ps []:=fun s us _ hl=>by
 rw [List.append_nil] at hl ⊢
 exact .of_eq (h us hl)
noncomputable def yo8 (CX:CXT) (X:Cx) (E:XK):Prop:=∀ (pins:List (Addr×Obj)) (σ:St) (H:Hp) (s:Shared) (e:Value) (s':Shared),Inv X pins σ H s→CX X.stack H s E e s'→X.xe e s'
section
variable {X:Cx} {CX:CXT} {k:Nat} {f C:Addr} {fd:FuncData} {ps:List Str} {sp:Sp} {dvs:List V} {ds:List Value} {E:XK} {x m:Str} {p pos apos:Pos} {e o:Expr} {es:List Expr} {ta:TE} {t:TA}
theorem run_fn {pins:List (Addr×Obj)} {σ:St} {H:Hp} {s:Shared} {Q:VK} {us:List Value} {vs:List V} (F:FnOk X.prog X.w X.K X.mg X.base CX k f fd ps sp) (hr:Room k X.A) (hb:Binds X.K fd ps ds) (hd:Vals dvs ds) (hx:yo8 CX X E)
  (I:Inv X pins σ H s) (r:Vals vs us) (h:sp (vs ++ dvs) H Q E):wpAny (model X.prog X.w) X.A (call (.ref f) us) (EP X pins σ Q) X.xe s:=by
 have r2:Vals (vs ++ dvs) (us ++ ds):=r.append hd
 have hl:(us ++ ds).length = ps.length:=by rw [← r2.length];exact F.len _ _ _ _ h
 refine wpAny_call (codeAny_mono (F.run X.A X.stack s H ⟨us,[]⟩ (us ++ ds) (vs ++ dvs) Q E hr I.env0 (hb s us I.kIn hl) r2 h) fun r s' hq=>?_)
 cases r with
 | error e=>exact hx pins σ H s e s' I hq
 | ok fl=>
  cases fl with
  | ret u=>exact I.after hq
  | next=>exact False.elim hq
  | brk=>exact False.elim hq
  | cont=>exact False.elim hq
theorem pe_call (F:FnOk X.prog X.w X.K X.mg X.base CX k f fd ps sp) (hr:Room k X.A) (hg:Gl X x) (hm:X.mg x = some (.ref f)) (hk:PySem.W.keepIn X.K (.ref f) = true) (hb:Binds X.K fd ps ds) (hd:Vals dvs ds) (hx:yo8 CX X E)
  (ha:PA X (e :: es) t) (hdb:(x == ("__debug__" : Str)) = false:=by decide) (he:starEach (e :: es) X.env = (false,eval e X.env) :: starEach es X.env:=by rfl) (hpl:(backTo pos (starEach es X.env)).any (·.1) = false:=by rfl) :
  PE X (.Call (.Name x p) (e :: es) [] pos) (tCall sp dvs E t):=by
 intro pins s σ H Q I h
 refine wpAny_Call_Name_kw (yk3 I hg hm ?_ hdb)
 refine PySem.W.callWith_K (h₀:=X.base) I.ok.mod.kin hk (thn (ha pos pins s σ H _ I h) fun us s1 ⟨vs,H1,I1,r,q⟩=>⟨I1.kIn,?_⟩) he hpl
 exact run_fn F hr hb hd hx I1 r q
end
section
variable {X:Cx} {CX:CXT} {k:Nat} {f C:Addr} {fd:FuncData} {ps ks:List Str} {sp:Sp} {E:XK} {x m:Str} {p pos apos kpos:Pos} {e o:Expr} {es:List Expr} {kws:List Keyword} {te ta:TE} {t tk:TA} {nm:Option Str}
variable {g:List Value→List Value→List Value} {gV:List V→List V→List V}
end
structure zf1 (N P:List Str) (sc:Scope):Prop where
 kind:sc.kind = .function
 co:sc.isCoroutine = false
 gen:sc.isGenerator = false
 nd:N.Nodup
 pre:N.take P.length = P
 par:∀ x∈P,sc.names.lookup x = some .local∨sc.names.lookup x = some .cell
 nofree:∀ y∈sc.names,y.2≠.free
theorem zT7 {kindOf:Str→Option NameKind} {x:Str}:∀ {binds:List (Str×Value)} {m:Str→Option Value},(∀ v,(x,v)∉binds)→bindL kindOf binds m x = m x
 | [],_,_=>rfl
 | (n,v) :: r,m,h=>by
  unfold bindL
  rw [zT7 fun w hw=>h w (List.mem_cons_of_mem _ hw)]
  split
  ·have:x≠n:=by rintro rfl;exact h v List.mem_cons_self
   simp [this]
  ·rfl
theorem zT9 {kindOf:Str→Option NameKind} {x:Str}:∀ {binds:List (Str×Value)} {m:Str→Option Value},(∀ v,(x,v)∉binds)→bindC kindOf binds m x = m x
 | [],_,_=>rfl
 | (n,v) :: r,m,h=>by
  unfold bindC
  rw [zT9 fun w hw=>h w (List.mem_cons_of_mem _ hw)]
  split
  ·rfl
  ·have:x≠n:=by rintro rfl;exact h v List.mem_cons_self
   simp [this]
theorem zT8 {kindOf:Str→Option NameKind} {x:Str} {v:Value}:∀ {P:List Str} {vs:List Value} {i:Nat} {m:Str→Option Value},P.Nodup→P[i]? = some x→vs[i]? = some v→kindOf x = some .local →
  bindL kindOf (P.zip vs) m x = some v
 | [],_,_,_,_,h,_,_=>by simp at h
 | _ :: _,[],_,_,_,_,h,_=>by simp at h
 | p :: P,w :: vs,0,m,nd,h1,h2,hk=>by
  simp at h1 h2;subst h1;subst h2
  show bindL kindOf ((p,w) :: P.zip vs) m p = _
  unfold bindL
  rw [zT7 fun v hv=>(List.nodup_cons.mp nd).1 (List.of_mem_zip hv).1,if_pos hk]
  simp
 | p :: P,w :: vs,i + 1,m,nd,h1,h2,hk=>by
  show bindL kindOf ((p,w) :: P.zip vs) m x = _
  unfold bindL
  exact zT8 (i:=i) (List.nodup_cons.mp nd).2 (by simpa using h1) (by simpa using h2) hk
theorem zU0 {kindOf:Str→Option NameKind} {x:Str} {v:Value}:∀ {P:List Str} {vs:List Value} {i:Nat} {m:Str→Option Value},P.Nodup→P[i]? = some x→vs[i]? = some v→kindOf x≠some .local →
  bindC kindOf (P.zip vs) m x = some v
 | [],_,_,_,_,h,_,_=>by simp at h
 | _ :: _,[],_,_,_,_,h,_=>by simp at h
 | p :: P,w :: vs,0,m,nd,h1,h2,hk=>by
  simp at h1 h2;subst h1;subst h2
  show bindC kindOf ((p,w) :: P.zip vs) m p = _
  unfold bindC
  rw [zT9 fun v hv=>(List.nodup_cons.mp nd).1 (List.of_mem_zip hv).1,if_neg hk]
  simp
 | p :: P,w :: vs,i + 1,m,nd,h1,h2,hk=>by
  show bindC kindOf ((p,w) :: P.zip vs) m x = _
  unfold bindC
  exact zU0 (i:=i) (List.nodup_cons.mp nd).2 (by simpa using h1) (by simpa using h2) hk
noncomputable def start (N:List Str) (vs:List V):St:=vs.map some ++ List.replicate (N.length - vs.length) none
noncomputable def cxOf (CX:CXT) (P:Program) (w:World) (K:PySem.W.Frag) (mg:Str→Option Value) (base:Heap) (N:List Str) (qual:Str) (scope:Scope) (f:Addr) (cd:Value) (A:Around) (outer:List Env) (s:Shared) (H:Hp) (E:XK):Cx where
 prog:=P
 w:=w
 K:=K
 mg:=mg
 base:=base
 A:=A.deeper (envOfC qual scope s.heap.objs.size f cd)
 N:=N
 s₀:=s
 H₀:=H
 env:=envOfC qual scope s.heap.objs.size f cd
 outer:=outer
 stack:=envOfC qual scope s.heap.objs.size f cd :: outer
 ex:=[]
 calm:=true
 fn:=fun _=>true
 pn:=[]
 xe:=fun e s'=>wpAny (model P w) (A.deeper (envOfC qual scope s.heap.objs.size f cd)) (leaving (envOfC qual scope s.heap.objs.size f cd) e) (fun _ s''=>CX outer H s E e s'') (fun e' s''=>CX outer H s E e' s'') s'
theorem yb4 {sc:Scope} {n:Nat} {x:Str} (h:sc.names.lookup x = some .cell):∃ c,(cellsFrom n sc.names []).lookup x = some c:=by
 have q:=PySem.W.cellsFrom_some sc.names n [] (.inl h)
 exact Option.isSome_iff_exists.mp q
theorem yl2 {CX:CXT} {P:Program} {w:World} {K:PySem.W.Frag} {mg:Str→Option Value} {base:Heap} {N ps:List Str} {qual:Str} {scope:Scope} {f:Addr} {cd:Value} {A:Around} {outer:List Env} {s s1:Shared} {H:Hp} {E:XK} {us:List Value} {vs:List V}
  (S:zf1 N ps scope) (hd:A.handled = none) (e0:Env0 P w K mg base A outer s H) (hl:vs.length = ps.length) (r:Vals vs us)
  (x:InCallC s s.heap.objs.size (bindL (envOfC qual scope s.heap.objs.size f cd).kindOf (ps.zip us) fun _=>none) (cellsFrom (s.heap.objs.size + 1) scope.names []) (bindC (envOfC qual scope s.heap.objs.size f cd).kindOf (ps.zip us) fun _=>none) s1) :
  Inv (cxOf CX P w K mg base N qual scope f cd A outer s H E) [] (start N vs) H s1:=by
 have hpl:ps.length≤N.length:=by have:=congrArg List.length S.pre;rw [List.length_take] at this;omega
 obtain ⟨h1,tk,rfl,hk⟩:=x.done
 have noA:∀ b:Addr,b∉(cxOf CX P w K mg base N qual scope f cd A outer s H E).ex:=fun b z=>absurd (show b∈([]:List Addr) from z) (by simp)
 refine ⟨⟨e0.mod,S.kind,rfl,rfl,Nat.le_refl _,fun y z c h1 h2=>?_,fun y hy=>?_,fun y c _ h=>?_,fun _=>hd,Around.frames_deeper e0.frames,.inr ⟨rfl,rfl⟩,fun b z=>absurd z (noA b),e0.bs,e0.bsz,fun b _ _=>noA b,fun b z=>absurd z (noA b),e0.funs,e0.frf⟩,
  rfl,e0.bare,Un.kept hk,⟨_,x.toInCall.ns,fun i y v h1 h2 h3=>?_⟩,fun y c h=>⟨_,x.cell y c h⟩,e0.hok.fresh (Nat.le_refl _),fun y c h=>?_,fun p hp=>absurd (show p∈([]:List (Addr×Obj)) from hp) (by simp),e0.hok.kept hk,?_⟩
 ·exact name_of_addr x.apart (PySem.mem_of_lookup h1) (PySem.mem_of_lookup h2)
 ·have hy:scope.names.lookup y = some .cell∨scope.names.lookup y = some .free:=hy
  rcases hy with hy | hy
  ·exact yb4 hy
  ·exact absurd rfl (S.nofree _ (PySem.mem_of_lookup hy))
 ·exact Nat.le_of_lt (x.above y c (PySem.mem_of_lookup h))
 ·have hi:i < vs.length:=by
   unfold start at h2
   by_cases hi:i < vs.length
   ·exact hi
   ·rw [List.getElem?_append_right (by simpa using hi)] at h2
    rw [List.getElem?_replicate] at h2
    split at h2 <;> cases h2
  have ha:vs[i]? = some v:=by
   unfold start at h2
   rw [List.getElem?_append_left (by simpa using hi),List.getElem?_map] at h2
   cases e:vs[i]? with
   | none=>rw [e] at h2;cases h2
   | some a=>rw [e] at h2;cases h2;rfl
  obtain ⟨u,hu,rv⟩:=r.get ha
  have hp:ps[i]? = some y:=by
   rw [← S.pre,List.getElem?_take_of_lt (by omega)];exact h1
  have ndP:ps.Nodup:=by rw [← S.pre];exact S.nd.sublist (List.take_sublist _ _)
  refine ⟨u,rv,?_⟩
  rcases S.par y (List.mem_of_getElem? hp) with k | k
  ·exact .inl ⟨k,zT8 ndP hp hu k⟩
  ·obtain ⟨c,e⟩:=yb4 (n:=s.heap.objs.size + 1) k
   refine .inr ⟨.inl k,c,e,?_⟩
   have q:=x.cell y c e
   rw [zU0 ndP hp hu (by show scope.names.lookup y≠_;rw [k];decide)] at q
   exact q
 ·exact e0.hok.fresh (Nat.le_of_lt (x.above y c (PySem.mem_of_lookup h)))
 ·unfold start
  show _ = N.length
  rw [List.length_append,List.length_map,List.length_replicate]
  omega
theorem fn_of {CX:CXT} {P:Program} {w:World} {K:PySem.W.Frag} {mg:Str→Option Value} {base:Heap} {k:Nat} {f:Addr} {name qual:Str} {params:Arguments} {body:List Stmt} {scope:Scope} {dV kV doc pm cdv ct oc:Value} {an od:Option Addr}
  {osl:Array (Option Value)} {N ps:List Str} {sp:Sp} (lk:K.lookup f = some ⟨oc,od,.func (PySem.W.fnOf name qual params body scope dV kV doc pm an cdv ct),osl⟩) (hcd:PySem.W.codeIn K cdv qual = true) (S:zf1 N ps scope)
  (len:∀ vs H Q E,sp vs H Q E→vs.length = ps.length)
  (hbody:∀ (A:Around) (outer:List Env) (s:Shared) (H:Hp) (vs:List V) (Q:VK) (E:XK),Room k (A.deeper (envOfC qual scope s.heap.objs.size f cdv))→sp vs H Q E →
   ∃ t,PSs (cxOf CX P w K mg base N qual scope f cdv A outer s H E) body t∧t { nx:=fun _ H'=>Q .non H',rt:=Q } (start N vs) H) :
  FnOk P w K mg base CX (k + 1) f (PySem.W.fnOf name qual params body scope dV kV doc pm an cdv ct) ps sp:=by
 refine ⟨len,fun A outer s H args us vs Q E hr e0 hb r hsp=>?_⟩
 have hl:=len _ _ _ _ hsp
 have KX:K.In s.heap:=e0.mod.kin.keeps fun b o e=>(e0.bs b o e).1
 have lim:s.heap.NoLimit:=e0.mod.nolimit.keeps fun b o e=>(e0.bs b o e).1
 have hkind:∀ y∈ps.zip us,scope.names.lookup y.1 = some .local∨(scope.names.lookup y.1 = some .cell∧((cellsFrom (s.heap.objs.size + 1) scope.names []).lookup y.1).isSome = true):=fun ⟨n,v⟩ hy=>by
  rcases S.par n (List.of_mem_zip hy).1 with q | q
  ·exact .inl q
  ·exact .inr ⟨q,PySem.W.cellsFrom_some _ _ _ (.inl q)⟩
 refine codeAny_call_function hr.depth (KX _ _ lk) rfl S.co S.gen rfl (PySem.W.codeRec_of KX hcd) (hb _ _ _ _ ?_)
 refine wpAny_newFunctionEnv_cells S.kind hkind fun env he s1 x=>?_
 subst he
 refine ⟨lim.keeps x.toInCall.keep,codeAny_func ?_⟩
 obtain ⟨t,ht,hq⟩:=hbody A outer s H vs Q E (hr.deeper _) hsp
 have I:Inv (cxOf CX P w K mg base N qual scope f cdv A outer s H E) [] (start N vs) H s1:=yl2 S hr.hd e0 hl r x
 refine wpAny_mono (ht [] s1 (start N vs) H _ I hq) (fun fl s' hs=>?_) fun e s' hs=>hs
 have fin:∀ {σ':St} {H':Hp} {v:V} {u:Value},Inv (cxOf CX P w K mg base N qual scope f cdv A outer s H E) [] σ' H' s'→RelV v u→Q v H'→CE outer P w H s Q u s':=
  fun {σ' H' v u} J rv q=>⟨v,H',J.os,J.bare,J.base,J.hok,rv,q⟩
 cases fl with
 | ret u=>
  obtain ⟨v,σ',H',J,rv,q⟩:=hs
  exact fin J rv q
 | next=>
  obtain ⟨σ',H',J,q⟩:=hs
  exact fin (v:=V.non) (u:=Value.none) J rfl q
 | brk=>
  obtain ⟨_,_,_,q⟩:=hs
  exact False.elim q
 | cont=>
  obtain ⟨_,_,_,q⟩:=hs
  exact False.elim q
section
variable {X:Cx} {x:Str} {p pos:Pos} {e:Expr} {es:List Expr} {t:TA} {id T:String} {r:List V→Hp→VK→Prop}
noncomputable def tCB (r:List V→Hp→VK→Prop) (t:TA):TE:=fun σ H Q=>t σ H fun vs H1=>r vs H1 Q
theorem pe_callB (hc:CallR X (.builtin id) r) (hg:Gl X x) (hm:X.mg x = none) (hv:bootBuiltins x = some (.builtin id)) (ha:PA X (e :: es) t) (hn:x ≠ "__name__" := by decide) (hdb:(x == ("__debug__" : Str)) = false:=by decide)
  (he:starEach (e :: es) X.env = (false,eval e X.env) :: starEach es X.env:=by rfl) (hpl:(backTo pos (starEach es X.env)).any (·.1) = false:=by rfl):PE X (.Call (.Name x p) (e :: es) [] pos) (tCB r t):=by
 intro pins s σ H Q I h
 refine wpAny_Call_Name_kw (zx1 I hg hm hv ?_ hn hdb)
 exact PyProof.Rows.callWith_builtin1 (thn (ha pos pins s σ H _ I h) fun us s1 ⟨vs,H1,I1,r1,q1⟩=>hc pins s1 σ H1 vs us Q I1 r1 q1) he hpl
theorem pe_callTy (hc:CallR X (.type T) r) (hg:Gl X x) (hm:X.mg x = none) (hv:bootBuiltins x = some (.type T)) (ha:PA X (e :: es) t) (hn:x ≠ "__name__" := by decide) (hdb:(x == ("__debug__" : Str)) = false:=by decide)
  (he:starEach (e :: es) X.env = (false,eval e X.env) :: starEach es X.env:=by rfl) (hpl:(backTo pos (starEach es X.env)).any (·.1) = false:=by rfl):PE X (.Call (.Name x p) (e :: es) [] pos) (tCB r t):=by
 intro pins s σ H Q I h
 refine wpAny_Call_Name_kw (zx1 I hg hm hv ?_ hn hdb)
 exact PyProof.Rows.callWith_type1 (thn (ha pos pins s σ H _ I h) fun us s1 ⟨vs,H1,I1,r1,q1⟩=>hc pins s1 σ H1 vs us Q I1 r1 q1) he hpl
end
end L2
namespace HT
open PySem PyProof.Rows
section
open PySem.SeqAt
open PySem.AutoSeq1 (wpAny_loadPart')
open PySem.MeetsSeq PySem.MeetsSeq2 PySem.MeetsSeq3
end
section
variable {prog:Program} {w:World} {A:Around} {E:Value→Shared→Prop} {s:Shared}
noncomputable def sIx (n d:Nat):Option Int→Nat
 | none=>d
 | some v=>if v < 0 then (v + (n:Int)).toNat else min v.toNat n
end
end HT
namespace L2
open PySem PySem.Spec PyProof.Rows
noncomputable abbrev TO:=St→Hp→(Option Int→Hp→Prop)→Prop
noncomputable def PO (X:Cx) (e:Option Expr) (t:TO):Prop:=
 ∀ (pins:List (Addr×Obj)) (s:Shared) (σ:St) (H:Hp) (Q:Option Int→Hp→Prop),Inv X pins σ H s→t σ H Q →
  wpAny (model X.prog X.w) X.A (evalPart e X.env) (fun u s'=>∃ o H',Inv X pins σ H' s'∧IsPart u o∧Q o H') X.xe s
noncomputable def tNoPart:TO:=fun _ H Q=>Q none H
noncomputable def tPart (t:TE):TO:=fun σ H Q=>t σ H fun x H1=>∃ i,x = .int i∧Q (some i) H1
section
variable {X:Cx} {e:Expr} {te:TE} {lo hi:Option Expr} {tl th:TO} {pos p2:Pos}
theorem po_none:PO X none tNoPart:=by
 intro pins s σ H Q I h
 rw [evalPart_none]
 exact wpAny_pure ⟨none,H,I,.none,h⟩
theorem po_some (h:PE X e te):PO X (some e) (tPart te):=by
 intro pins s σ H Q I hw
 rw [evalPart_some]
 refine thn (h pins s σ H _ I hw) fun u s1 z_=>?_
 obtain ⟨x,H1,I1,r1,q1⟩:=z_
 obtain ⟨i,rfl,q⟩:=q1
 obtain ⟨t,rfl⟩:=r1
 exact ⟨some i,H1,I1,.int i t,q⟩
noncomputable def SlR (X:Cx) (r:V→Option Int→Option Int→Hp→VK→Prop):Prop:=
 ∀ (pins:List (Addr×Obj)) (s:Shared) (σ:St) (H:Hp) (x:V) (v vl vu:Value) (lo hi:Option Int) (sl:Addr) (Q:VK),Inv X pins σ H s→RelV x v→s.heap.IsSliceOf sl vl vu .none→IsPart vl lo→IsPart vu hi→r x lo hi H Q →
  ∃ T id,typeLookup (.type T) "__getitem__" = pure (some (.builtin id))∧s.TypeIs v T∧wpAny (model X.prog X.w) X.A (getItem v (.ref sl)) (EP X pins σ Q) X.xe s
theorem SlR.or {r r':V→Option Int→Option Int→Hp→VK→Prop} (h:SlR X r) (h':SlR X r'):SlR X (fun x lo hi H Q=>r x lo hi H Q∨r' x lo hi H Q):=by
 intro pins s σ H x v vl vu lo hi sl Q I rx hs pl pu q
 rcases q with q | q
 ·exact h pins s σ H x v vl vu lo hi sl Q I rx hs pl pu q
 ·exact h' pins s σ H x v vl vu lo hi sl Q I rx hs pl pu q
noncomputable def tSl (r:V→Option Int→Option Int→Hp→VK→Prop) (te:TE) (tl th:TO):TE:=fun σ H Q=>te σ H fun x H1=>tl σ H1 fun l H2=>th σ H2 fun u H3=>r x l u H3 Q
theorem pe_slice {r:V→Option Int→Option Int→Hp→VK→Prop} (hr:SlR X r) (he:PE X e te) (hl:PO X lo tl) (hu:PO X hi th):PE X (.Subscript e (.Slice lo hi none p2) pos) (tSl r te tl th):=by
 intro pins s σ H Q I h
 refine Subscript_ (thn (he pins s σ H _ I h) fun v s1 z_=>?_)
 obtain ⟨x,H1,I1,r1,q1⟩:=z_
 refine wpAny_Slice (thn (hl pins s1 σ H1 _ I1 q1) fun vl s2 ⟨l,H2,I2,pl,q2⟩=>thn (hu pins s2 σ H2 _ I2 q2) fun vu s3 z_=>?_)
 obtain ⟨u,H3,I3,pu,q3⟩:=z_
 rw [evalPart_none]
 refine wpAny_pure ?_
 have I4:Inv X pins σ H3 { s3 with heap:=s3.heap.push { cls:=.type "slice", data:=.fields #[vl,vu,.none] } }:=I3.kept (t':=s3.toks) fun b ob q=>Heap.get?_push_of_some _ q
 obtain ⟨T,id,hT,ht,hg⟩:=hr pins { s3 with heap:=s3.heap.push { cls:=.type "slice", data:=.fields #[vl,vu,.none] } } σ H3 x v vl vu l u s3.heap.objs.size Q I4 r1 (Heap.IsSliceOf.new ..) pl pu q3
 show wpAny (model X.prog X.w) X.A (subscriptTail e (.Slice lo hi none p2) v (.ref s3.heap.objs.size)) (EP X pins σ Q) X.xe { s3 with heap:=s3.heap.push { cls:=.type "slice", data:=.fields #[vl,vu,.none] } }
 exact tail_any (ops:=[.ref s3.heap.objs.size,v]) ht hT hg (by with_unfolding_all rfl)
noncomputable def cutV (xs:List V) (lo hi:Option Int):List V:=(xs.drop (HT.sIx xs.length 0 lo)).take (HT.sIx xs.length xs.length hi - HT.sIx xs.length 0 lo)
theorem zW3 (xs:List V) (lo hi:Option Int):(cutV xs lo hi).length≤xs.length:=by
 unfold cutV
 rw [List.length_take,List.length_drop]
 omega
end
noncomputable def ixN (n:Nat) (i:Int):Option Nat:=if 0≤i then (if i < n then some i.toNat else none) else if -(n:Int)≤i then some (i + n).toNat else none
noncomputable def atI {α:Type} (xs:List α) (i:Int):Option α:=(ixN xs.length i).bind fun j=>xs[j]?
theorem yk8 {n:Nat} {i:Int} {j:Nat} (h:ixN n i = some j):seqIndex? i n = some j∧j < n∧-(n:Int)≤i∧i < n:=by
 unfold ixN at h
 by_cases h0:0≤i
 ·rw [if_pos h0] at h
  by_cases h1:i < n
  ·rw [if_pos h1] at h
   have e:i.toNat = j:=Option.some.inj h
   exact ⟨by rw [seqIndex_of h0 h1,e],by omega,by omega,h1⟩
  ·rw [if_neg h1] at h;cases h
 ·rw [if_neg h0] at h
  by_cases h1 : -(n:Int)≤i
  ·rw [if_pos h1] at h
   have e:(i + n).toNat = j:=Option.some.inj h
   exact ⟨by rw [seqIndex_neg (by omega) h1,e],by omega,h1,by omega⟩
  ·rw [if_neg h1] at h;cases h
theorem zW5 {α:Type} {xs:List α} {i:Int} {v:α} (h:atI xs i = some v):∃ j,seqIndex? i xs.length = some j∧xs[j]? = some v∧j < xs.length∧-(xs.length:Int)≤i∧i < xs.length:=by
 unfold atI at h
 cases e:ixN xs.length i with
 | none=>rw [e] at h;cases h
 | some j=>
  rw [e] at h
  obtain ⟨h1,h2,h3,h4⟩:=yk8 e
  exact ⟨j,h1,h,h2,h3,h4⟩
theorem yo4 {α:Type} {xs:List α} {j:Nat} {v:α} (h:xs[j]? = some v):atI xs (j:Int) = some v:=by
 have hj:j < xs.length:=(List.getElem?_eq_some_iff.mp h).1
 have e:ixN xs.length (j:Int) = some j:=by
  unfold ixN
  rw [if_pos (by omega),if_pos (by omega)];simp
 unfold atI;rw [e];exact h
noncomputable def zW6 (b:Expr):Prop:=∀ o i,subscripted b false o i = operate [o,i] (getItem o i)
noncomputable def IxR (X:Cx) (r:R2):Prop:=
 ∀ (value slice:Expr) (pins:List (Addr×Obj)) (s:Shared) (σ:St) (H:Hp) (x y:V) (v u:Value) (Q:VK),Inv X pins σ H s→RelV x v→RelV y u→r x y H Q →
  subscripted slice false v u = operate [v,u] (getItem v u)→wpAny (model X.prog X.w) X.A (subscriptTail value slice v u) (EP X pins σ Q) X.xe s
noncomputable def MtR (X:Cx) (id:String) (r:V→List V→Hp→VK→Prop):Prop:=
 ∀ (pins:List (Addr×Obj)) (s:Shared) (σ:St) (H:Hp) (x:V) (xs:List V) (v:Value) (us:List Value) (Q:VK),Inv X pins σ H s→RelV x v→Vals xs us→r x xs H Q →
  wpAny (model X.prog X.w) X.A (call (.builtin id) (v :: us)) (EP X pins σ Q) X.xe s
section
variable {X:Cx} {a b:Expr} {ta tb:TE} {pos:Pos}
theorem IxR.or {r r':R2} (h:IxR X r) (h':IxR X r'):IxR X (fun x y H Q=>r x y H Q∨r' x y H Q):=by
 intro value slice pins s σ H x y v u Q I rx ry q hs
 rcases q with q | q
 ·exact h value slice pins s σ H x y v u Q I rx ry q hs
 ·exact h' value slice pins s σ H x y v u Q I rx ry q hs
theorem MtR.or {id:String} {r r':V→List V→Hp→VK→Prop} (h:MtR X id r) (h':MtR X id r'):MtR X id (fun x xs H Q=>r x xs H Q∨r' x xs H Q):=by
 intro pins s σ H x xs v us Q I rx rs q
 rcases q with q | q
 ·exact h pins s σ H x xs v us Q I rx rs q
 ·exact h' pins s σ H x xs v us Q I rx rs q
theorem pe_ix {r:R2} (hr:IxR X r) (ha:PE X a ta) (hb:PE X b tb) (hs:zW6 b):PE X (.Subscript a b pos) (tOp r ta tb):=by
 intro pins s σ H Q I h
 exact Subscript_ (binT ha hb I h fun v u s2 x y H2 I2 rx ry q=>hr a b pins s2 σ H2 x y v u Q I2 rx ry q (hs _ _))
noncomputable def rIxL (K:PySem.W.Frag):R2:=fun x y H Q=>∃ p xs i v,x = .ref p∧y = .int i∧SqL K H p xs∧atI xs i = some v∧Q v H
noncomputable def rIxT (K:PySem.W.Frag):R2:=fun x y H Q=>∃ p xs i v,x = .ref p∧y = .int i∧SqT K H p xs∧atI xs i = some v∧Q v H
noncomputable def rIxS:R2:=fun x y H Q=>∃ z i c,x = .str z∧y = .int i∧z.length≤sizeLine∧atI z.cps.toList i = some c∧Q (.str ⟨#[c]⟩) H
theorem ix_list:IxR X (rIxL X.K):=by
 intro value slice pins s σ H x y v u Q I rx ry h hs
 obtain ⟨p,xs,i,z,rfl,rfl,hq,he,q⟩:=h
 cases rx
 obtain ⟨t,rfl⟩:=ry
 obtain ⟨its,r,pl,hz⟩:=I.list hq
 obtain ⟨j,h1,h2,h3,h4,h5⟩:=zW5 he
 obtain ⟨w,ew,rw'⟩:=r.get h2
 have hl:=r.length
 have hn:=zF3
 have fin:EP X pins σ Q w s:=⟨z,H,I,rw',q⟩
 by_cases h0:0≤i
 ·have hj:i.toNat = j:=by
   rw [seqIndex_of h0 h5] at h1
   exact Option.some.inj h1
  exact item_listR pl.isList h0 (by omega) (by rw [hj];simpa using ew) fin hs
 ·have hj:(i + (its.toArray.size:Int)).toNat = j:=by
   rw [seqIndex_neg (by omega) h4] at h1
   rw [List.size_toArray,← hl]
   exact Option.some.inj h1
  exact subscriptTail_builtinR (x:=w) pl.isList.typeIs slot_list_getitem.lookup
   (wpAny_getItem_list_neg (Q:=fun r s'=>r = w∧EP X pins σ Q r s') pl.isList (by omega) (by rw [List.size_toArray] <;> omega) (by omega) (by rw [hj];simpa using ew) ⟨rfl,fin⟩) hs
theorem ix_tup:IxR X (rIxT X.K):=by
 intro value slice pins s σ H x y v u Q I rx ry h hs
 obtain ⟨p,xs,i,z,rfl,rfl,hq,he,q⟩:=h
 cases rx
 obtain ⟨t,rfl⟩:=ry
 obtain ⟨its,r,pl,hz⟩:=I.tuple hq
 obtain ⟨j,h1,h2,h3,h4,h5⟩:=zW5 he
 obtain ⟨w,ew,rw'⟩:=r.get h2
 have hl:=r.length
 have hn:=zF3
 have fin:EP X pins σ Q w s:=⟨z,H,I,rw',q⟩
 exact subscriptTail_builtinR (x:=w) pl.typeIs slot_tuple_getitem.lookup
  (getItem_tuple (j:=j) (Q:=fun r s'=>r = w∧EP X pins σ Q r s') pl (by omega) (by omega) (by rw [List.size_toArray,← hl];exact h1) (by simpa using ew) ⟨rfl,fin⟩) hs
theorem ix_str:IxR X rIxS:=by
 intro value slice pins s σ H x y v u Q I rx ry h hs
 obtain ⟨z,i,c,rfl,rfl,hz,he,q⟩:=h
 obtain ⟨t,rfl⟩:=rx
 obtain ⟨t',rfl⟩:=ry
 obtain ⟨j,h1,h2,h3,h4,h5⟩:=zW5 he
 have hl:z.cps.toList.length = z.length:=by simp [Str.length]
 rw [hl] at h1 h4 h5
 have hn:=zF3
 exact tail_any (typeIs_str s z t) slot_str_getitem.lookup (getItem_str (c:=c) (by
  have e1:decide (i < -(2 ^ 63:Int)) = false:=decide_eq_false (by omega)
  have e2:decide (i ≥ 2 ^ 63) = false:=decide_eq_false (by omega)
  rw [e1,e2,Bool.or_false]) (by rw [h1];simpa using h2) ⟨.str ⟨#[c]⟩,H,I.tok _,⟨_,rfl⟩,q⟩) hs
noncomputable def rIx (K:PySem.W.Frag):R2:=fun x y H Q=>rIxL K x y H Q∨rIxT K x y H Q∨rIxS x y H Q
theorem ix_seq:IxR X (rIx X.K):=ix_list.or (ix_tup.or ix_str)
theorem yd0 (its:List Value) (n j:Nat) (u:Value):Obj.mapSeq (·.setIfInBounds j u) { cls:=.type "list", data:=.seq its.toArray n } = { cls:=.type "list", data:=.seq (its.set j u).toArray n }:=by
 simp [Obj.mapSeq]
theorem Inv.lst {pins:List (Addr×Obj)} {σ:St} {H:Hp} {s:Shared} {p:Addr} {xs:List V} (I:Inv X pins σ H s) (h:H p = some (.lst xs)) :
  ∃ (its:List Value) (n:Nat),Vals xs its∧s.heap.get? p = some { cls:=.type "list", data:=.seq its.toArray n }∧xs.length≤sizeLine:=by
 obtain ⟨z,its,n,r,e⟩:=I.hok p _ h
 exact ⟨its,n,r,e,z⟩
theorem Inv.lstUpd {pins:List (Addr×Obj)} {σ:St} {H:Hp} {s:Shared} {p:Addr} {xs ys:List V} {its its':List Value} {n n':Nat} {f:Obj→Obj} (I:Inv X pins σ H s) (h:H p = some (.lst xs))
  (ho:s.heap.get? p = some { cls:=.type "list", data:=.seq its.toArray n }) (hf:f { cls:=.type "list", data:=.seq its.toArray n } = { cls:=.type "list", data:=.seq its'.toArray n' }) (r:Vals ys its') (hz:ys.length≤sizeLine) (t:Nat) :
  Inv X pins σ (upd H p (.lst ys)) { s with heap:=s.heap.update p f,toks:=t }:=by
 have e:(s.heap.update p f).get? p = some { cls:=.type "list", data:=.seq its'.toArray n' }:=by
  rw [Heap.get?_update_self f ho (by rw [hf] <;> rfl),hf]
 refine I.write (x:=p) (e:=p) (by rw [h];trivial) (.inl rfl) (fun b u hb q=>(Heap.get?_update_other _ _ (Ne.symm hb)).trans q) ⟨_,e⟩ ?_
 exact ⟨hz,its',n',r,e⟩
noncomputable def rSetL:V→V→V→Hp→(Hp→Prop)→Prop:=fun o i v H Q=>∃ p xs k j,o = .ref p∧i = .int k∧H p = some (.lst xs)∧ixN xs.length k = some j∧Q (upd H p (.lst (xs.set j v)))
theorem set_list:PSet X rSetL:=by
 intro pins s σ H o i v ov iv u Q I ro ri rv h
 obtain ⟨p,xs,k,j,rfl,rfl,hp,hj,q⟩:=h
 cases ro
 obtain ⟨t,rfl⟩:=ri
 obtain ⟨its,n,r,ho,hz⟩:=I.lst hp
 obtain ⟨h1,h2,h3,h4⟩:=yk8 hj
 have hl:=r.length
 have hn:=zF3
 have I':Inv X pins σ (upd H p (.lst (xs.set j v))) { s with heap:=s.heap.update p (Obj.mapSeq (·.setIfInBounds j u)) }:=
  I.lstUpd hp ho (yd0 its n j u) (r.set rv j) (by rw [List.length_set];exact hz) s.toks
 by_cases h0:0≤k
 ·have hk:k.toNat = j:=by
   rw [seqIndex_of h0 h4] at h1
   exact Option.some.inj h1
  exact PySem.W.ki_setAt ho h0 (by omega) (by rw [List.size_toArray,← hl];exact h4) (by rw [hk];exact ⟨_,I',q⟩)
 ·have hk:(k + (its.toArray.size:Int)).toNat = j:=by
   rw [seqIndex_neg (by omega) h3] at h1
   rw [List.size_toArray,← hl]
   exact Option.some.inj h1
  exact PySem.W.ki_setBack ho (by omega) (by rw [List.size_toArray,← hl];exact h3) (by omega) (by rw [hk];exact ⟨_,I',q⟩)
theorem zP6 (lo hi:Option Int) (n:Nat):(sliceBounds lo hi none n).1 = ((HT.sIx n 0 lo:Nat):Int)∧(sliceBounds lo hi none n).2.1 = ((HT.sIx n n hi:Nat):Int)∧(sliceBounds lo hi none n).2.2 = 1:=by
 refine ⟨?_,?_,rfl⟩
 ·cases lo with
  | none=>simp [sliceBounds,HT.sIx]
  | some i=>
   simp only [sliceBounds,HT.sIx,Option.getD_none,show (1:Int) > 0 by decide,if_true]
   by_cases h:i < 0
   ·simp only [h,if_true] <;> omega
   ·simp only [h,if_false] <;> omega
 ·cases hi with
  | none=>simp [sliceBounds,HT.sIx]
  | some i=>
   simp only [sliceBounds,HT.sIx,Option.getD_none,show (1:Int) > 0 by decide,if_true]
   by_cases h:i < 0
   ·simp only [h,if_true] <;> omega
   ·simp only [h,if_false] <;> omega
theorem zK1 (its:List Value) (lo hi:Option Int):slicePick its.toArray lo hi none = ((its.drop (HT.sIx its.length 0 lo)).take (HT.sIx its.length its.length hi - HT.sIx its.length 0 lo)).toArray:=by
 obtain ⟨h1,h2,h3⟩:=zP6 lo hi its.toArray.size
 unfold slicePick
 rw [h1,h2,h3]
 simp only [sliceRange_one,pick_run,List.size_toArray] <;> rfl
noncomputable def rSlL (K:PySem.W.Frag):V→Option Int→Option Int→Hp→VK→Prop:=fun x lo hi H Q=>∃ a xs,x = .ref a∧SqL K H a xs∧∀ p,H p = none→Q (.ref p) (upd H p (.lst (cutV xs lo hi)))
theorem sl_list:SlR X (rSlL X.K):=by
 intro pins s σ H x v vl vu lo hi sl Q I rx hs pl pu h
 obtain ⟨a,xs,rfl,hx,q⟩:=h
 cases rx
 obtain ⟨its,r,ht,hz⟩:=I.list hx
 have hlen:=r.length
 refine ⟨"list", _,slot_list_getitem.lookup,ht.isList.typeIs,?_⟩
 refine wpAny_getItem_list_slice ht.isList hs pl pu .none (by simp) ?_ (by rw [List.size_toArray] <;> omega)
 rw [zK1,← hlen]
 refine ⟨.ref s.heap.objs.size,_,I.laid (t':=s.toks) (o:=.lst (cutV xs lo hi)) (fun b ob q=>Heap.get?_push_of_some _ q) (Nat.le_refl _) ?_,rfl,q _ (I.hok.fresh (Nat.le_refl _))⟩
 exact ⟨Nat.le_trans (zW3 xs lo hi) hz,_,0,(r.drop (HT.sIx xs.length 0 lo)).take (HT.sIx xs.length xs.length hi - HT.sIx xs.length 0 lo),Heap.get?_push_size _ rfl⟩
theorem call_len_seq:CallR X (.builtin "len") (fun xs H Q=>∃ p ys,xs = [.ref p]∧(SqL X.K H p ys∨SqT X.K H p ys)∧Q (.int ys.length) H):=by
 intro pins s σ H xs us Q I r h
 obtain ⟨p,ys,rfl,hq,q⟩:=h
 obtain ⟨u,rfl,rx⟩:=vals1 r
 cases rx
 have hn:=zF3
 rcases hq with hq | hq
 ·obtain ⟨its,r',pl,hz⟩:=I.list hq
  have hlen:=r'.length
  exact Calls.call_len_list pl.isList (by simp only [List.size_toArray] <;> omega) ⟨.int ys.length,H,I.tok _,⟨s.toks + 1,by rw [List.size_toArray,hlen]⟩,q⟩
 ·obtain ⟨its,r',pl,hz⟩:=I.tuple hq
  have hlen:=r'.length
  exact len_tuple pl (by simp only [List.size_toArray] <;> omega) ⟨.int ys.length,H,I.tok _,⟨s.toks + 1,by rw [List.size_toArray,hlen]⟩,q⟩
theorem zT5:CallR X (.builtin "len") (fun xs H Q=>∃ z,xs = [.str z]∧z.length≤sizeLine∧Q (.int z.length) H):=by
 intro pins s σ H xs us Q I r h
 obtain ⟨z,rfl,hz,q⟩:=h
 obtain ⟨u,rfl,t,rfl⟩:=vals1 r
 have hn:=zF3
 exact len_str (by omega) ⟨.int z.length,H,I.tok _,⟨_,rfl⟩,q⟩
theorem CallR.or {f:Value} {r r':List V→Hp→VK→Prop} (h:CallR X f r) (h':CallR X f r'):CallR X f (fun xs H Q=>r xs H Q∨r' xs H Q):=by
 intro pins s σ H xs us Q I rs q
 rcases q with q | q
 ·exact h pins s σ H xs us Q I rs q
 ·exact h' pins s σ H xs us Q I rs q
noncomputable def tyV (K:PySem.W.Frag) (T:String) (x:V) (H:Hp):Prop:=match x with
 | .str _=>T = "str"
 | .int _=>T = "int"
 | .ref p=>(T = "list" ∧ ∃ xs,SqL K H p xs)∨(T = "tuple" ∧ ∃ o,K.lookup p = some o∧o.cls = .type "tuple" ∧ o.dict = none) ∨
   (T = "dict" ∧ ((∃ kvs,H p = some (.dK kvs))∨∃ kvs,H p = some (.dT kvs)))∨(T = "set" ∧ ∃ S n,H p = some (.set S n))
 | _=>False
theorem tyV_is {pins:List (Addr×Obj)} {σ:St} {H:Hp} {s:Shared} {T:String} {x:V} {v:Value} (I:Inv X pins σ H s) (r:RelV x v) (ty:tyV X.K T x H) :
  s.TypeIs v T∧∀ a,v = .ref a→∃ ob,s.heap.get? a = some ob∧ob.dict = none:=by
 cases x with
 | str z=>
  obtain ⟨t,rfl⟩:=r
  cases (show T = "str" from ty)
  exact ⟨typeIs_str s z t,fun _ e=>nomatch e⟩
 | int i=>
  obtain ⟨t,rfl⟩:=r
  cases (show T = "int" from ty)
  exact ⟨typeIs_int s i t,fun _ e=>nomatch e⟩
 | ref p=>
  cases r
  rcases ty with ⟨rfl,xs,hq⟩ | ⟨rfl,o,hk,hc,hd⟩ | ⟨rfl,hk⟩ | ⟨rfl,S,n,hk⟩
  ·obtain ⟨its,_,pl,_⟩:=I.list hq
   refine ⟨pl.isList.typeIs,fun a e=>?_⟩
   cases e
   obtain ⟨o,n,e,c,hd,_⟩:=pl
   exact ⟨o,e,hd⟩
  ·refine ⟨⟨o,I.kIn p o hk,hc⟩,fun a e=>?_⟩
   cases e
   exact ⟨o,I.kIn _ o hk,hd⟩
  ·have z:∃ o,s.heap.get? p = some o∧o.ExactDict:=by
    rcases hk with ⟨kvs,hk⟩ | ⟨kvs,hk⟩
    ·obtain ⟨_,_,_,_,o,_,_,e,ex,_⟩:=I.hok p _ hk
     exact ⟨o,e,ex⟩
    ·obtain ⟨_,_,_,_,o,_,_,e,ex,_⟩:=I.hok p _ hk
     exact ⟨o,e,ex⟩
   obtain ⟨o,e,ex⟩:=z
   refine ⟨⟨o,e,ex.1⟩,fun a e2=>?_⟩
   cases e2
   exact ⟨o,e,ex.2.1⟩
  ·obtain ⟨o,_,_,_,e,ex,_⟩:=I.hok p _ hk
   refine ⟨⟨o,e,ex.1⟩,fun a e2=>?_⟩
   cases e2
   exact ⟨o,e,ex.2.1⟩
 | _=>exact False.elim ty
noncomputable def tBM0 (K:PySem.W.Frag) (T:String) (r:V→List V→Hp→VK→Prop) (to:TE):TE:=fun σ H Q=>to σ H fun x H1=>tyV K T x H1∧r x [] H1 Q
noncomputable def tBM (K:PySem.W.Frag) (T:String) (r:V→List V→Hp→VK→Prop) (to:TE) (t:TA):TE:=fun σ H Q=>to σ H fun x H1=>tyV K T x H1∧t σ H1 fun xs H2=>r x xs H2 Q
variable {o e:Expr} {es:List Expr} {to:TE} {t:TA} {name:Str} {apos cpos:Pos} {T id:String} {r:V→List V→Hp→VK→Prop}
theorem pe_bm0 (pa:PlainAttrs T) (slot:Slot T name id) (hty:typeOf (.builtin id) = pure (.type "method_descriptor")) (hm:MtR X id r) (ho:PE X o to)
  (hbase:attributeBase o name X.env (eval o X.env) = eval o X.env:=by rfl) (hline:(apos.endLine == cpos.line) = true:=by rfl):PE X (.Call (.Attribute o name apos) [] [] cpos) (tBM0 X.K T r to):=by
 intro pins s σ H Q I h
 refine wpAny_Call_method0_late hbase hline (thn (ho pins s σ H _ I h) fun v s1 z_=>?_)
 obtain ⟨x,H1,I1,r1,ty,q1⟩:=z_
 obtain ⟨h1,h2⟩:=tyV_is I1 r1 ty
 exact ⟨T,id,pa,slot,hty,h1,h2,Calls.callWith_builtin rfl (PySem.evalArgs_none (hm pins s1 σ H1 x [] v [] Q I1 r1 .nil q1))⟩
theorem pe_bm (pa:PlainAttrs T) (slot:Slot T name id) (hty:typeOf (.builtin id) = pure (.type "method_descriptor")) (hm:MtR X id r) (ho:PE X o to) (ha:PA X (e :: es) t)
  (hbase:attributeBase o name X.env (eval o X.env) = eval o X.env:=by rfl)
  (hfew:((backTo cpos (starEach (e :: es) X.env)).all (fun x=>!x.1) && (backToKw cpos (keywordEach [] X.env)).all (fun x=>x.1.isSome)
   && decide ((e :: es).length + ([]:List Keyword).length + (if ([]:List Keyword).isEmpty then 0 else 1) < 30)) = true:=by rfl)
  (hline:(apos.endLine == cpos.line) = true:=by rfl) (hs:starEach (e :: es) X.env = (false,eval e X.env) :: starEach es X.env:=by rfl) (hplain:(backTo cpos (starEach es X.env)).any (·.1) = false:=by rfl) :
  PE X (.Call (.Attribute o name apos) (e :: es) [] cpos) (tBM X.K T r to t):=by
 intro pins s σ H Q I h
 refine wpAny_Call_method_late hbase hfew hline rfl (thn (ho pins s σ H _ I h) fun v s1 z_=>?_)
 obtain ⟨x,H1,I1,r1,ty,q1⟩:=z_
 obtain ⟨h1,h2⟩:=tyV_is I1 r1 ty
 refine ⟨T,id,pa,slot,hty,h1,h2,?_⟩
 have hA:=ha cpos pins s1 σ H1 _ I1 q1
 rw [hs] at hA ⊢
 refine Calls.callWith_builtin (by show (false || (backTo cpos (starEach es X.env)).any (·.1)) = false;rw [hplain] <;> rfl) (Calls.evalArgs_plain ?_)
 exact thn hA fun us s2 z_=>by obtain ⟨vs,H2,I2,r2,q2⟩:=z_;exact hm pins s2 σ H2 x vs v us Q I2 r1 r2 q2
end
noncomputable def MtM (X:Cx) (id:String) (r:V→List V→Hp→VK→Prop):Prop:=
 ∀ (pins:List (Addr×Obj)) (s:Shared) (σ:St) (H:Hp) (x:V) (xs:List V) (v:Value) (us:List Value) (Q:VK),Inv X pins σ H s→RelV x v→Vals xs us→r x xs H Q →
  wpAny (model X.prog X.w) X.A (call (.builtin id) (v :: us)) (EP X pins σ Q) X.xe s
theorem Vals.one {x:V} {us:List Value} (h:Vals [x] us):∃ u,us = [u]∧RelV x u:=by
 cases h with
 | cons r h=>cases h;exact ⟨_,rfl,r⟩
theorem Vals.two {x y:V} {us:List Value} (h:Vals [x,y] us):∃ u v,us = [u,v]∧RelV x u∧RelV y v:=by
 cases h with
 | cons r h=>cases h with
  | cons q h=>cases h;exact ⟨_,_,rfl,r,q⟩
theorem Vals.zero:∀ {us:List Value},Vals [] us→us = []
 | _,.nil=>rfl
theorem Vals.dropLast {xs:List V} {us:List Value} (h:Vals xs us):Vals xs.dropLast us.dropLast:=by
 induction h with
 | nil=>exact .nil
 | cons r t ih=>
  cases t with
  | nil=>exact .nil
  | cons q t'=>exact .cons r ih
theorem Vals.eraseIdx:∀ {xs:List V} {us:List Value} (i:Nat),Vals xs us→Vals (xs.eraseIdx i) (us.eraseIdx i)
 | _,_,_,.nil=>.nil
 | _,_,0,.cons _ t=>t
 | _,_,i + 1,.cons r t=>.cons r (Vals.eraseIdx i t)
theorem Vals.reverse {xs:List V} {us:List Value} (h:Vals xs us):Vals xs.reverse us.reverse:=by
 induction h with
 | nil=>exact .nil
 | cons r t ih=>rw [List.reverse_cons,List.reverse_cons];exact Vals.append ih (.cons r .nil)
theorem Vals.rep {xs:List V} {us:List Value} (h:Vals xs us):∀ k:Nat,Vals (List.replicate k xs).flatten (List.replicate k us).flatten
 | 0=>.nil
 | k + 1=>by
  rw [List.replicate_succ,List.replicate_succ,List.flatten_cons,List.flatten_cons]
  exact Vals.append h (Vals.rep h k)
theorem zT1 (its:List Value):∀ (k:Nat) (acc:List Value),
  List.foldl (fun x1 x2=>x1 ++ x2) acc.toArray (List.replicate k its.toArray) = (acc ++ (List.replicate k its).flatten).toArray
 | 0,acc=>by simp
 | k + 1,acc=>by
  have e:acc.toArray ++ its.toArray = (acc ++ its).toArray:=by simp
  have e2:(acc ++ its) ++ (List.replicate k its).flatten = acc ++ (List.replicate (k + 1) its).flatten:=by
   rw [List.replicate_succ,List.flatten_cons,List.append_assoc]
  rw [← e2,← zT1 its k (acc ++ its),← e,List.replicate_succ,List.foldl_cons]
section
variable {X:Cx} {pins:List (Addr×Obj)} {σ:St} {H:Hp} {s:Shared} {l b:Addr} {xs ys zs:List V}
theorem Inv.lset {its its':List Value} {n:Nat} {f:Array Value→Array Value} {t':Nat} (I:Inv X pins σ H s) (hH:H l = some (.lst xs))
  (e:s.heap.get? l = some { cls:=.type "list", data:=.seq its.toArray n }) (hf:f its.toArray = its'.toArray) (hv:Vals ys its') (hz:ys.length≤sizeLine) :
  Inv X pins σ (upd H l (.lst ys)) { s with heap:=s.heap.update l (Obj.mapSeq f),toks:=t' }:=by
 have q:=PySem.IsL.update e f
 rw [hf] at q
 refine I.write (x:=l) (e:=l) (by rw [hH];exact trivial) (.inl rfl) (fun b' u hb hu=>(Heap.get?_update_other s.heap (Obj.mapSeq f) (Ne.symm hb)).trans hu) ⟨_,q⟩ ?_
 exact ⟨hz,its',_,hv,q⟩
theorem Inv.lnew {its:List Value} {t':Nat} (I:Inv X pins σ H s) (hv:Vals ys its) (hz:ys.length≤sizeLine) :
  Inv X pins σ (upd H s.heap.objs.size (.lst ys)) { s with heap:=s.heap.push { cls:=.type "list", data:=.seq its.toArray },toks:=t' }:=
 I.laid (fun _ _ q=>Heap.get?_push_of_some _ q) (Nat.le_refl _) ⟨hz,its,0,hv,Heap.get?_push_size _ rfl⟩
theorem Inv.fresh (I:Inv X pins σ H s):H s.heap.objs.size = none:=I.hok.fresh (Nat.le_refl _)
theorem Inv.lstM (I:Inv X pins σ H s) (hH:H l = some (.lst xs)):xs.length≤sizeLine∧∃ (its:List Value) (n:Nat),Vals xs its∧xs.length = its.length∧s.heap.get? l = some { cls:=.type "list", data:=.seq its.toArray n }:=by
 obtain ⟨z,its,n,r,e⟩:=I.hok l _ hH
 exact ⟨z,its,n,r,r.length,e⟩
theorem zY9 {n:Nat} (h:n≤sizeLine):Builtin.List.listTooLong n = false:=by
 unfold Builtin.List.listTooLong
 exact decide_eq_false (by omega)
end
section
variable {X:Cx}
noncomputable def rAppend:V→List V→Hp→VK→Prop:=fun x vs H Q=>∃ l xs y,x = .ref l∧vs = [y]∧H l = some (.lst xs)∧xs.length < sizeLine∧Q .non (upd H l (.lst (xs ++ [y])))
theorem zR3:MtM X "list.append" rAppend:=by
 intro pins s σ H x vs v us Q I rx rv h
 obtain ⟨l,xs,y,rfl,rfl,hH,hz,q⟩:=h
 cases rx
 obtain ⟨u,rfl,ru⟩:=rv.one
 obtain ⟨z,its,n,r,hl,e⟩:=I.lstM hH
 refine call_meets F.slot_list_append ⟨_,e,rfl⟩ F.entry_list_append (F.args_list_append_2 _ _) (PySem.list_append l its.toArray n u (by rw [List.size_toArray];omega)) ⟨e,?_⟩
 refine ⟨.non,_,I.lset (its':=its ++ [u]) hH e (by simp) (r.append (.cons ru .nil)) ?_,rfl,q⟩
 rw [List.length_append,List.length_singleton]
 omega
noncomputable def rExtend:V→List V→Hp→VK→Prop:=fun x vs H Q=>∃ l b xs zs,x = .ref l∧vs = [.ref b]∧H l = some (.lst xs)∧H b = some (.lst zs)∧xs.length + zs.length≤sizeLine∧Q .non (upd H l (.lst (xs ++ zs)))
theorem yj1:MtM X "list.extend" rExtend:=by
 intro pins s σ H x vs v us Q I rx rv h
 obtain ⟨l,b,xs,zs,rfl,rfl,hH,hB,hz,q⟩:=h
 cases rx
 obtain ⟨u,rfl,ru⟩:=rv.one
 cases ru
 obtain ⟨z,its,n,r,hl,e⟩:=I.lstM hH
 obtain ⟨z2,its2,n2,r2,hl2,e2⟩:=I.lstM hB
 have hsz:its.toArray.size + its2.toArray.size≤sizeLine:=by rw [List.size_toArray,List.size_toArray];omega
 have hlong:¬ (!its.toArray.isEmpty && Builtin.List.listTooLong (its.toArray.size + its2.toArray.size)) = true:=by
  rw [zY9 hsz,Bool.and_false]
  exact Bool.false_ne_true
 refine call_meets F.slot_list_extend ⟨_,e,rfl⟩ F.entry_list_extend (F.args_list_extend_2 _ _)
  (AutoSeq1.list_extend_list_list_0 l its.toArray n b its2.toArray n2 hlong (by rw [List.size_toArray];omega) (by omega)) ⟨e,e2,?_⟩
 refine ⟨.non,_,I.lset (its':=its ++ its2) hH e (by simp) (r.append r2) ?_,rfl,q⟩
 rw [List.length_append]
 omega
noncomputable def rCat:R2:=fun x y H Q=>∃ l b xs zs,x = .ref l∧y = .ref b∧H l = some (.lst xs)∧H b = some (.lst zs)∧xs.length + zs.length≤sizeLine∧∀ p,H p = none→Q (.ref p) (upd H p (.lst (xs ++ zs)))
theorem op_cat:OpR X (binaryOp .Add) rCat:=by
 intro pins s σ H x y v u Q I rx ry h
 obtain ⟨l,b,xs,zs,rfl,rfl,hH,hB,hz,q⟩:=h
 cases rx
 cases ry
 obtain ⟨z,its,n,r,hl,e⟩:=I.lstM hH
 obtain ⟨z2,its2,n2,r2,hl2,e2⟩:=I.lstM hB
 refine PySem.P.add_list e e2 ?_ (by rw [List.size_toArray,List.size_toArray];omega)
 have ea:its.toArray ++ its2.toArray = (its ++ its2).toArray:=by simp
 rw [ea]
 exact ⟨.ref _,_,I.lnew (t':=s.toks) (r.append r2) (by rw [List.length_append];omega),rfl,q _ I.fresh⟩
noncomputable def rRep:R2:=fun x y H Q=>∃ l k xs,x = .ref l∧y = .int k∧H l = some (.lst xs)∧-(2 ^ 63)≤k∧k < 2 ^ 63∧xs.length * k.toNat≤sizeLine ∧
 ∀ p,H p = none→Q (.ref p) (upd H p (.lst (List.replicate k.toNat xs).flatten))
theorem yk2 {α:Type} (xs:List α) (k:Nat):(List.replicate k xs).flatten.length = k * xs.length:=by
 induction k with
 | zero=>simp
 | succ k ih=>rw [List.replicate_succ,List.flatten_cons,List.length_append,ih,Nat.succ_mul,Nat.add_comm]
theorem op_rep:OpR X (binaryOp .Mult) rRep:=by
 intro pins s σ H x y v u Q I rx ry h
 obtain ⟨l,k,xs,rfl,rfl,hH,h1,h2,hz,q⟩:=h
 cases rx
 obtain ⟨t,rfl⟩:=ry
 obtain ⟨z,its,n,r,hl,e⟩:=I.lstM hH
 have hlen:its.toArray.size * k.toNat≤sizeLine:=by rw [List.size_toArray,← hl];exact hz
 have hcap:¬ its.toArray.size * k.toNat > (2 ^ 63 - 1) / 8:=by
  have:(sizeLine:Nat)≤(2 ^ 63 - 1) / 8:=by decide
  omega
 have hfit:¬ (!Builtin.List.listFitsIndex k) = true:=by
  rw [fitsIndex_both h1 h2]
  exact Bool.false_ne_true
 have hlong:¬ Builtin.List.listTooLong (its.toArray.size * k.toNat) = true:=by
  rw [zY9 hlen]
  exact Bool.false_ne_true
 have hnew:List.foldl (fun x1 x2=>x1 ++ x2) #[] (List.replicate (if its.toArray.isEmpty = true then 0 else k.toNat) its.toArray) = (List.replicate k.toNat its).flatten.toArray:=by
  have f0:∀ m:Nat,List.foldl (fun x1 x2=>x1 ++ x2) #[] (List.replicate m its.toArray) = (List.replicate m its).flatten.toArray:=fun m=>by
   have:=zT1 its m []
   rw [List.nil_append] at this
   exact this
  rw [f0]
  cases its with
  | nil=>simp
  | cons a r'=>rw [if_neg (by simp)]
 refine wpAny_binaryOp_repeat_ref (T := "list") (U := "int") (by decide) ⟨_,e,rfl⟩ (fun s'=>typeIs_int s' k t) noFill_list_mul F.fills_int_mul F.slot_int_rmul repeat_list F.slot_int_index.lookup
  (call_meets F.slot_int_rmul (typeIs_int s k t) F.entry_int_rmul (F.args_int_rmul_2 _ _) (int___rmul___int_list k t l its.toArray n)
   ⟨e,rfl,⟨_,e,rfl⟩,call_meets F.slot_list_mul ⟨_,e,rfl⟩ F.entry_list_mul (F.args_list_mul_2 _ _) (AutoListH.list___mul___list_int_3 l its.toArray n k t hfit hcap hlong) ⟨e,?_⟩⟩)
 rw [hnew]
 exact ⟨.ref _,_,I.lnew (t':=s.toks) (r.rep k.toNat) (by rw [yk2,Nat.mul_comm];exact hz),rfl,q _ I.fresh⟩
end
section
variable {prog:Program} {w:World} {A:Around} {E:Value→Shared→Prop} {s:Shared}
end
section
variable {X:Cx}
end
end L2
namespace Att
open PySem PySem.W PySem.Calls PyProof.Rows
theorem zF7 {P:Params} {h:Heap}:∀ (ns:List Int) (vs:List Value),WellAll P h vs (ns.map WData.int)→IntsAre vs ns:=by
 intro ns
 induction ns with
 | nil=>
  intro vs w
  rw [List.map_nil] at w
  cases w
  exact .nil
 | cons n ns ih=>
  intro vs w
  rw [List.map_cons] at w
  cases w with
  | cons a b=>
   cases a
   exact .cons _ _ (ih _ b)
theorem yf6 {l:OpenLaw} {n:Nat} (hn:l.most = some n) {P:Params} {h:Heap} {args:List WData} {vals:List Value}
  (hpre:l.row.toRowW.claim.pre args = true) (hwl:WellAll P h vals args) :
  ∃ a vs ns,vals = [Value.ref a]∧args = [WData.list (ns.map WData.int)]∧h.get? a = some { cls:=.type "list", data:=.seq vs.toArray }∧IntsAre vs ns∧ns.length≤n:=by
 have hsh:WShape.hasAll [] args [.list .int] = true:=(pre_splitW hpre).1
 have hc:l.pre.holds [] { args:=args } = true:=(pre_splitW hpre).2
 obtain ⟨d,r,rfl,h1,h2⟩:=hasAllW_cons hsh
 obtain rfl:=hasAllW_nil h2
 obtain ⟨xs,rfl,h3⟩:=hasW_list h1
 obtain ⟨ns,rfl⟩:=items_int h3
 have hlen:ns.length≤n:=by
  unfold OpenLaw.pre at hc
  have h4:(WTm.not (.lt (.lit (.int (n:Int))) (.len (.arg 0)))).holds [] { args:=[.list (ns.map .int)] } = true:=by
   have h4:=(holds_andW hc).1
   rw [hn] at h4
   exact h4
  have h5:=condW_of h4 (w_not (w_lt w_lit (w_len_list (w_arg rfl))))
  rw [List.length_map] at h5
  refine Nat.le_of_not_lt fun q=>?_
  have q':(n:Int) < ((ns.length:Nat):Int):=by omega
  first
   | (rw [decide_eq_true q'] at h5;exact absurd h5 (by decide))
   | (simp at h5;omega)
 cases hwl with
 | cons w1 w2=>
  cases w2
  cases w1 with
  | list ho hall=>exact ⟨_,_,ns,rfl,rfl,ho,zF7 ns _ hall,hlen⟩
theorem yg2 (l:OpenLaw) (args:List WData):l.row.toRowW.claim.post args (.bool true) args = true:=
 postW_of (r:=l.row.toRowW) (X:=(true == true))
  (show WShape.has [] (.bool true) .bool = true by first | rfl | decide | simp [WShape.has,WShape.arms,WShape.armsAll])
  (show (WTm.eq .res (.lit (.bool true))).value [] { args:=args,res:=some (.bool true),after:=args } = some (.bool (true == true)) from w_eq_bool (w_res rfl) w_lit) rfl
theorem attach_call {l:OpenLaw} {n:Nat} {q:Program} {loose:List Str} {XP:(Str→Option Value)→Heap→Prop} {YP:World→Heap→Prop} {d:DefRec}
  (hn:l.most = some n) (hdf:d.params.defaults = [])
  (call:∀ (w:World) (s₀ s₁:Shared) (mg mb:Str→Option Value) (fa:Addr) (o:Obj) (pm cd doc:Value) (a:Addr) (vs:List Value) (ns:List Int),
   Ground q loose [] XP w s₀ mg mb s₁.heap→YP w s₁.heap →
   s₁.heap.get? fa = some o→o.data = .func (docDef d.name d.params d.body d.scope pm cd doc)→s₁.heap.CodeRec cd d.name→mg d.name = some (.ref fa) →
   s₁.heap.get? a = some { cls:=.type "list", data:=.seq vs.toArray }→IntsAre vs ns→ns.length≤n→s₁.gens = #[] →
   codeAny (model l.prog w) callerA (.call (.ref fa) ⟨[.ref a],[]⟩) (fun r s'=>r = .ok (.ret (.bool true))∧OldK s₁.heap s'.heap∧s'.os = s₁.os∧AllBare s'.gens) s₁) :
  WalkO q loose XP YP l.row.toRowW d [] (fun f vs=>PySem.call f vs):=by
 intro w s₀ s₁ mg mb G Y fa o pm cd doc dV kV ho hd hcd hD hmg hg args vals as hpre hlay hrd hwl hlo
 obtain rfl:dV = .none:=Dflts.none hD hdf
 obtain rfl:kV = .none:=Dflts.noKw hD
 obtain ⟨a,vs,ns,rfl,rfl,hobj,hints,hlen⟩:=yf6 hn hpre hwl
 refine enter_call (codeAny_mono (call w s₀ s₁ mg mb fa o pm cd doc a vs ns G Y ho (fd_plain hd) hcd hmg hobj hints hlen hg) fun r s' hq=>?_)
 obtain ⟨rfl,h2,h3,h4⟩:=hq
 exact ⟨.inl ⟨.bool true,.bool true,[],rfl,fun _=>rfl,.bool true,yg2 l _,fun _=>⟨List.Pairwise.nil,fun _ hm=>(nomatch hm)⟩⟩,h2,h3,h4⟩
section
variable {prog:Program} {w:World} {A:Around} {E:Value→Shared→Prop} {s:Shared} {K:Frag}
noncomputable def ledger (h:Heap) (L d:Addr):List (Addr×Obj):=(List.range h.objs.size).filterMap fun a=>if a = L∨a = d then none else (h.get? a).map fun o=>(a,o)
end
end Att
namespace L2
open PySem PySem.Spec PyProof.Rows
theorem zD5:∀ {vs:List Value} {ns:List Int},IntsAre vs ns→Vals (ns.map V.int) vs
 | _,_,.nil=>.nil
 | _,_,.cons n t h=>.cons ⟨t,rfl⟩ (zD5 h)
noncomputable def Only (H:Hp):Prop:=∀ b,H b = none∨∃ o xs,H b = some (.frz o (.lst xs))
theorem law_call {P:Program} {w:World} {K:PySem.W.Frag} {mg mb:Str→Option Value} {CX:CXT} {k:Nat} {fa a:Addr} {fd:FuncData} {x:Str} {sp:Sp} {s₁:Shared} {vs:List Value} {ns:List Int}
  (KX:K.In s₁.heap) (hns:s₁.heap.Ns mainGlobals mg) (hb:s₁.heap.Ns builtinsNs mb) (hbb:∀ x:Str,x ≠ "__name__" → mb x = bootBuiltins x) (hlim:s₁.heap.NoLimit) (hg:s₁.gens = #[])
  (ha:s₁.heap.get? a = some { cls:=.type "list", data:=.seq vs.toArray }) (hi:IntsAre vs ns) (hl:ns.length≤sizeLine) (hr:Room k callerA)
  (F:∀ base:Heap,K.In base→base.Ns mainGlobals mg→FnOk P w K mg base CX k fa fd [x] sp) (hbind:∀ (s:Shared) (u:Value),BindsTo s fd ⟨[u],[]⟩ [(x,u)])
  (hsp:∀ H:Hp,Only H→SqL K H a (ns.map V.int)→sp [.ref a] H (fun v _=>v = .bl true) fun _ _ _=>False)
  (hCX:∀ H e s',CX [] H s₁ (fun _ _ _=>False) e s'→False) :
  codeAny (model P w) callerA (.call (.ref fa) ⟨[.ref a],[]⟩) (fun r s'=>r = .ok (.ret (.bool true))∧OldK s₁.heap s'.heap∧s'.os = s₁.os∧AllBare s'.gens) s₁:=by
 have rv:=zD5 hi
 have lenV:=hi.length
 have core:∀ H:Hp,Only H→SqL K H a (ns.map V.int)→HOk P w H s₁.heap→(∀ b,H b≠none→b = a)→(H a≠none→K.lookup a = none) →
   codeAny (model P w) callerA (.call (.ref fa) ⟨[.ref a],[]⟩) (fun r s'=>r = .ok (.ret (.bool true))∧OldK s₁.heap s'.heap∧s'.os = s₁.os∧AllBare s'.gens) s₁:=by
  intro H hO hS hok hA hK
  have base_of:∀ {b:Addr} {o:Obj},s₁.heap.get? b = some o→H b = none→(hidT s₁.heap H).get? b = some o:=fun e n=>ya6 e n
  have noA:∀ {b:Addr} {o:Obj} {es:Array DictEntry} {ep:Nat},s₁.heap.get? b = some o→o.data = .dict es ep→H b = none:=fun {b o es ep} e d=>by
   cases q:H b with
   | none=>rfl
   | some u=>
    have e':b = a:=hA b (by rw [q];simp)
    subst e'
    rw [ha] at e;cases e
    have d':Data.seq vs.toArray _ = Data.dict es ep:=d
    cases d'
  have nsK:∀ {b:Addr} {m:Str→Option Value},s₁.heap.Ns b m→(hidT s₁.heap H).Ns b m:=fun {b m} ⟨o,es,ep,e,d,r⟩=>⟨o,es,ep,base_of e (noA e d),d,r⟩
  have hKb:K.In (hidT s₁.heap H):=fun b o e=>base_of (KX b o e) (by
   cases q:H b with
   | none=>rfl
   | some u=>
    have e':b = a:=hA b (by rw [q];simp)
    subst e'
    rw [hK (by rw [q];simp)] at e;cases e)
  have hM:Mod K mg (hidT s₁.heap H):=⟨hKb,nsK hns,⟨mb,nsK hb,hbb⟩,let ⟨mc,h1,h2⟩:=hlim;⟨mc,nsK h1,h2⟩⟩
  have e0:Env0 P w K mg (hidT s₁.heap H) callerA [] s₁ H:=⟨rfl,hM,fun b o e=>yi5 e,Nat.le_of_eq (zS9 _ _),trivial,fun b hb=>absurd (show b∈([]:List Addr) from hb) (by simp),hok,.of_eq hg⟩
  refine codeAny_mono ((F _ hKb (nsK hns)).run callerA [] s₁ H ⟨[.ref a],[]⟩ [.ref a] [.ref a] _ _ hr e0 (hbind s₁ (.ref a)) (.cons rfl .nil) (hsp H hO hS)) fun r s' h=>?_
  cases r with
  | error e=>exact (hCX H e s' h).elim
  | ok fl=>
   cases fl with
   | next=>exact False.elim h
   | brk=>exact False.elim h
   | cont=>exact False.elim h
   | ret u=>
    obtain ⟨v,H',os,bare,un,hok',r',q⟩:=h
    have q':v = .bl true:=q
    subst q'
    obtain rfl:u = Value.bool true:=r'
    refine ⟨rfl,OldK.of_keep fun b o e=>?_,os,bare⟩
    cases q:H b with
    | none=>exact un.keep b o e q (by intro z;exact absurd (show b∈([]:List Addr) from z) (by simp)) (by simp)
    | some u=>
     rcases hO b with z | ⟨ob,xs,z⟩
     ·rw [q] at z;cases z
     ·have z2:=un.frzs b ob _ z
      obtain ⟨e1,_⟩:=hok b _ z
      obtain ⟨e2,_⟩:=hok' b _ z2
      rw [e] at e1;cases e1
      exact e2
 cases hk:K.lookup a with
 | some o=>
  have e:=KX a o hk
  rw [ha] at e
  cases e
  refine core (fun _=>none) (fun _=>.inl rfl) (.inr ⟨_,vs.toArray,_,hk,rfl,rfl,rfl,by rw [List.size_toArray,lenV];exact hl,by simpa using rv⟩) (fun b u z=>by have z':(none:Option HO) = some u:=z;cases z') (fun b z=>absurd rfl z) fun z=>absurd rfl z
 | none=>
  refine core (fun b=>if b = a then some (.frz { cls:=.type "list", data:=.seq vs.toArray } (.lst (ns.map V.int))) else none) (fun b=>?_) (.inl (.inr ⟨{ cls:=.type "list", data:=.seq vs.toArray },if_pos rfl⟩)) (fun b u z=>?_) (fun b z=>?_) fun _=>hk
  ·by_cases hb:b = a
   ·exact .inr ⟨_,_,if_pos hb⟩
   ·exact .inl (if_neg hb)
  ·by_cases hb:b = a
   ·have z':=(if_pos hb).symm.trans z
    cases z'
    subst hb
    exact ⟨ha,by rw [List.length_map];exact hl,vs,_,rv,ha⟩
   ·have z':=(if_neg hb).symm.trans z
    cases z'
  ·by_cases hb:b = a
   ·exact hb
   ·exact absurd (if_neg hb) z
noncomputable abbrev KOf {K:PySem.W.Frag} {h:Heap} (_:K.In h):PySem.W.Frag:=K
theorem walk_of {l:PySem.W.OpenLaw} {n k:Nat} {q:Program} {loose:List Str} {XP:(Str→Option Value)→Heap→Prop} {YP:World→Heap→Prop} {d:DefRec} {K:Params→PySem.W.Frag} {CX:World→CXT} {sp:World→Sp} {x:Str}
  (hn:l.most = some n) (hn2:n≤sizeLine) (hdf:d.params.defaults = []) (hr:Room k callerA)
  (hY:∀ (w:World) (h:Heap),YP w h→(K w.params).In h)
  (F:∀ (w:World) (mg:Str→Option Value) (fa:Addr) (h:Heap),(K w.params).In h→h.Ns mainGlobals mg→mg d.name = some (.ref fa) →
   ∃ fd:FuncData,(∀ (s:Shared) (u:Value),BindsTo s fd ⟨[u],[]⟩ [(x,u)]) ∧
    ∀ base:Heap,(K w.params).In base→base.Ns mainGlobals mg→FnOk l.prog w (K w.params) mg base (CX w) k fa fd [x] (sp w))
  (hsp:∀ (w:World) (H:Hp) (a:Addr) (ns:List Int),ns.length≤n→Only H→SqL (K w.params) H a (ns.map V.int)→sp w [.ref a] H (fun v _=>v = .bl true) fun _ _ _=>False)
  (hCX:∀ (w:World) (H:Hp) (s:Shared) (e:Value) (s':Shared),CX w [] H s (fun _ _ _=>False) e s'→False) :
  PySem.W.WalkO q loose XP YP l.row.toRowW d [] (fun f vs=>PySem.call f vs):=by
 refine Att.attach_call hn hdf fun w s₀ s₁ mg mb fa o pm cd doc a vs ns G Y ho hd hcd hmg hobj hints hlen hg=>?_
 have KX:=hY w _ Y
 obtain ⟨fd,hb,hF⟩:=F w mg fa _ KX G.T.g hmg
 exact law_call KX G.T.g G.T.b G.T.builtins G.T.nolimit hg hobj hints (Nat.le_trans hlen hn2) hr hF hb (fun H hO hS=>hsp w H a ns hlen hO hS) fun H e s'=>hCX w H s₁ e s'
noncomputable def ze7 (s:Stmt):Arguments:=match s with
 | .FunctionDef _ a _ _ _ _ _ _ _ _=>a
 | _=>{ posonlyargs:=[],args:=[],vararg:=none,kwonlyargs:=[],kw_defaults:=[],kwarg:=none,defaults:=[] }
noncomputable def zd8 (s:Stmt):List Stmt:=match s with
 | .FunctionDef _ _ b _ _ _ _ _ _ _=>b
 | _=>[]
noncomputable def za7 (s:Stmt):Scope:=match s with
 | .FunctionDef _ _ _ _ _ _ sc _ _ _=>sc
 | _=>{ kind:=.function,names:=[],isGenerator:=false,isCoroutine:=false }
noncomputable abbrev CX0:CXT:=fun _ _ _ _ _ _=>False
noncomputable abbrev E0:XK:=fun _ _ _=>False
theorem pass0 {X:Cx}:yo8 CX0 X E0:=fun _ _ _ _ _ _ _ h=>h.elim
structure Fun (K:PySem.W.Frag) (x qual:Str) (st:Stmt) (f:Addr) (fd:FuncData):Prop where
 ex:∃ (oc:Value) (od:Option Addr) (kV doc pm:Value) (an:Option Addr) (cdv ct:Value) (osl:Array (Option Value)),
  fd = PySem.W.fnOf x qual (ze7 st) (zd8 st) (za7 st) .none kV doc pm an cdv ct∧K.lookup f = some ⟨oc,od,.func fd,osl⟩∧PySem.W.codeIn K cdv qual = true
 kp:PySem.W.keepIn K (.ref f) = true
section
variable {P:Program} {w:World} {K:PySem.W.Frag} {mg:Str→Option Value} {base:Heap}
theorem Fun.ok {x qual:Str} {st:Stmt} {f:Addr} {fd:FuncData} {N ps:List Str} {k:Nat} {sp:Sp} (F:Fun K x qual st f fd) (S:zf1 N ps (za7 st)) (len:∀ vs H Q E,sp vs H Q E→vs.length = ps.length)
  (hbody:∀ (cdv:Value) (A:Around) (outer:List Env) (s:Shared) (H:Hp) (vs:List V) (Q:VK) (E:XK),Room k (A.deeper (envOfC qual (za7 st) s.heap.objs.size f cdv))→sp vs H Q E →
   ∃ t,PSs (cxOf CX0 P w K mg base N qual (za7 st) f cdv A outer s H E).nox (zd8 st) t∧t { nx:=fun _ H'=>Q .non H',rt:=Q } (start N vs) H):FnOk P w K mg base CX0 (k + 1) f fd ps sp:=by
 obtain ⟨oc,od,kV,doc,pm,an,cdv,ct,osl,rfl,lk,hcd⟩:=F.ex
 refine fn_of lk hcd S len fun A outer s H vs Q E hr hsp=>?_
 obtain ⟨t,h,q⟩:=hbody cdv A outer s H vs Q E hr hsp
 exact ⟨t,h.nox,q⟩
theorem Fun.binds {x qual:Str} {st:Stmt} {f:Addr} {fd:FuncData} {ps:List Str} (F:Fun K x qual st f fd)
  (h:∀ (kV doc pm:Value) (an:Option Addr) (cdv ct:Value) (us:List Value),us.length = ps.length→bindArgs (PySem.W.fnOf x qual (ze7 st) (zd8 st) (za7 st) .none kV doc pm an cdv ct) ⟨us,[]⟩ = pure (ps.zip us)):Binds K fd ps []:=by
 obtain ⟨oc,od,kV,doc,pm,an,cdv,ct,osl,rfl,lk,hcd⟩:=F.ex
 exact .all (h kV doc pm an cdv ct)
theorem zj9 {x qual:Str} {st:Stmt} {f:Addr} {oc:Value} {od an:Option Addr} {osl:Array (Option Value)} {kV doc pm cdv ct:Value} (l:K.lookup f = some ⟨oc,od,.func (PySem.W.fnOf x qual (ze7 st) (zd8 st) (za7 st) .none kV doc pm an cdv ct),osl⟩)
  (c:PySem.W.codeIn K cdv qual = true) (k:PySem.W.keepIn K (.ref f) = true):Fun K x qual st f (PySem.W.fnOf x qual (ze7 st) (zd8 st) (za7 st) .none kV doc pm an cdv ct):=⟨⟨oc,od,kV,doc,pm,an,cdv,ct,osl,rfl,l,c⟩,k⟩
end
theorem zm8 {n:Nat} (h:n≤1000):n < sizeLine:=Nat.lt_of_le_of_lt h (by decide)
section
variable {X:Cx}
theorem pv (i:Nat) {x:Str} {pos:Pos} (hN:X.N[i]? = some x:=by rfl) (hv:Vis X.env.scope x:=by first | exact Or.inl rfl | exact Or.inr (Or.inl rfl) | exact Or.inr (Or.inr rfl)) (hd:(x == ("__debug__" : Str)) = false:=by decide)
  (hcd:(x == ("__classdict__" : Str)) = false:=by decide):PE X (.Name x pos) (tVar i):=pe_var hN hv hd hcd
end
noncomputable def Same (H H':Hp):Prop:=∀ b o,H b = some o→H' b = some o
theorem Same.refl (H:Hp):Same H H:=fun _ _ h=>h
theorem Same.trans {H H1 H2:Hp} (a:Same H H1) (b:Same H1 H2):Same H H2:=fun c o h=>b c o (a c o h)
theorem Same.free {H H':Hp} (e:Same H H') {l:Addr} (h:H' l = Option.none):H l = Option.none:=by
 cases q:H l with
 | none=>rfl
 | some o=>
  rw [e l o q] at h
  cases h
theorem Same.seq {K:PySem.W.Frag} {H H':Hp} {a:Addr} {xs:List V} (e:Same H H') (h:SqL K H a xs):SqL K H' a xs:=by
 rcases h with (h | ⟨o,h⟩) | h
 ·exact .inl (.inl (e _ _ h))
 ·exact .inl (.inr ⟨o,e _ _ h⟩)
 ·exact .inr h
end L2
set_option Elab.async false
set_option linter.all false
set_option maxRecDepth 100000
namespace FD
open PySem PySem.Spec PyProof.Rows L2
noncomputable abbrev St:=L2.St
inductive D where
 | non | bl (b:Bool) | int (i:Int) | str (x:Str) | lst (xs:List D) | tup (xs:List D) | scr (ns:List Int) | raw (v:V) | exc (c:Str)
inductive Rs (α:Type) where
 | ok (a:α) | ex (c:Str) | no
noncomputable def Rs.bind {α β:Type} (r:Rs α) (k:α→Rs β):Rs β:=match r with
 | .ok a=>k a
 | .ex c=>.ex c
 | .no=>.no
@[simp] theorem Rs.bind_ok {α β:Type} (a:α) (k:α→Rs β):(Rs.ok a).bind k = k a:=rfl
noncomputable def excIs (K:PySem.W.Frag) (a:Addr) (c:Str):Heap→Prop:=fun h=>∃ oe cls vs,h.get? a = some oe∧oe.cls = cls∧oe.dict = none∧oe.data = .fields vs∧PySem.W.nsIn K mainGlobals c = some (some cls)
section
variable (K:PySem.W.Frag)
mutual
noncomputable def Rep (F:Hp):D→V→Prop
 | .non,v=>v = .non
 | .bl b,v=>v = .bl b
 | .int i,v=>v = .int i
 | .str x,v=>v = .str x
 | .lst ds,v=>∃ a vs,v = .ref a∧F a = some (.lst vs)∧Reps F ds vs
 | .scr ns,v=>∃ a,v = .ref a∧SqL K F a (ns.map V.int)
 | .tup ds,v=>∃ a vs,v = .ref a∧SqT K F a vs∧Reps F ds vs
 | .raw u,v=>v = u
 | .exc c,v=>∃ a,v = .ref a∧F a = some (.ext (excIs K a c))
noncomputable def Reps (F:Hp):List D→List V→Prop
 | [],vs=>vs = []
 | d :: ds,vs=>∃ v r,vs = v :: r∧Rep F d v∧Reps F ds r
end
end
theorem Same.refl (H:Hp):Same H H:=fun _ _ h=>h
theorem Same.seqT {K:PySem.W.Frag} {H H':Hp} {a:Addr} {xs:List V} (e:Same H H') (h:SqT K H a xs):SqT K H' a xs:=by
 rcases h with (h | ⟨o,h⟩) | h
 ·exact .inl (.inl (e _ _ h))
 ·exact .inl (.inr ⟨o,e _ _ h⟩)
 ·exact .inr h
section
variable {K:PySem.W.Frag} {F F':Hp}
mutual
theorem Rep.mono (h:Same F F'):∀ {d:D} {v:V},Rep K F d v→Rep K F' d v
 | .non,_,r=>by simpa only [Rep] using r
 | .bl _,_,r=>by simpa only [Rep] using r
 | .int _,_,r=>by simpa only [Rep] using r
 | .str _,_,r=>by simpa only [Rep] using r
 | .raw _,_,r=>by simpa only [Rep] using r
 | .exc c,v,r=>by
  simp only [Rep] at r ⊢
  obtain ⟨a,e,q⟩:=r
  exact ⟨a,e,h _ _ q⟩
 | .lst ds,v,r=>by
  simp only [Rep] at r ⊢
  obtain ⟨a,vs,e,q,t⟩:=r
  exact ⟨a,vs,e,h _ _ q,Reps.mono h t⟩
 | .scr ns,v,r=>by
  simp only [Rep] at r ⊢
  obtain ⟨a,e,q⟩:=r
  exact ⟨a,e,h.seq q⟩
 | .tup ds,v,r=>by
  simp only [Rep] at r ⊢
  obtain ⟨a,vs,e,q,t⟩:=r
  exact ⟨a,vs,e,Same.seqT h q,Reps.mono h t⟩
theorem Reps.mono (h:Same F F'):∀ {ds:List D} {vs:List V},Reps K F ds vs→Reps K F' ds vs
 | [],_,r=>by simpa only [Reps] using r
 | d :: ds,vs,r=>by
  simp only [Reps] at r ⊢
  obtain ⟨v,r',e,q,t⟩:=r
  exact ⟨v,r',e,Rep.mono h q,Reps.mono h t⟩
end
theorem Reps.length:∀ {ds:List D} {vs:List V},Reps K F ds vs→ds.length = vs.length
 | [],_,r=>by simp only [Reps] at r;subst r;rfl
 | d :: ds,_,r=>by
  simp only [Reps] at r
  obtain ⟨v,r',rfl,_,t⟩:=r
  simp [Reps.length t]
theorem Reps.get:∀ {ds:List D} {vs:List V} {i:Nat} {d:D},Reps K F ds vs→ds[i]? = some d→∃ v,vs[i]? = some v∧Rep K F d v
 | [],_,_,_,_,e=>by simp at e
 | d :: ds,_,0,_,r,e=>by
  simp only [Reps] at r
  obtain ⟨v,r',rfl,q,t⟩:=r
  simp at e;subst e
  exact ⟨v,rfl,q⟩
 | d :: ds,_,i + 1,_,r,e=>by
  simp only [Reps] at r
  obtain ⟨v,r',rfl,q,t⟩:=r
  obtain ⟨w,h1,h2⟩:=Reps.get (i:=i) t (by simpa using e)
  exact ⟨w,by simpa using h1,h2⟩
theorem Reps.nil:Reps K F [] []:=by simp only [Reps]
theorem Reps.cons {d:D} {v:V} {ds:List D} {vs:List V} (h:Rep K F d v) (t:Reps K F ds vs):Reps K F (d :: ds) (v :: vs):=by
 simp only [Reps];exact ⟨v,vs,rfl,h,t⟩
theorem Reps.append:∀ {ds es:List D} {vs ws:List V},Reps K F ds vs→Reps K F es ws→Reps K F (ds ++ es) (vs ++ ws)
 | [],_,_,_,r,t=>by simp only [Reps] at r;subst r;exact t
 | d :: ds,es,_,ws,r,t=>by
  simp only [Reps] at r
  obtain ⟨v,r',rfl,q,u⟩:=r
  exact Reps.cons q (Reps.append u t)
theorem Reps.take:∀ {ds:List D} {vs:List V} (n:Nat),Reps K F ds vs→Reps K F (ds.take n) (vs.take n)
 | _,_,0,_=>by simp only [List.take_zero];exact Reps.nil
 | [],_,n + 1,r=>by simp only [Reps] at r;subst r;simp only [List.take_nil];exact Reps.nil
 | d :: ds,_,n + 1,r=>by
  simp only [Reps] at r
  obtain ⟨v,r',rfl,q,u⟩:=r
  exact Reps.cons q (Reps.take n u)
theorem Reps.drop:∀ {ds:List D} {vs:List V} (n:Nat),Reps K F ds vs→Reps K F (ds.drop n) (vs.drop n)
 | _,_,0,r=>r
 | [],_,n + 1,r=>by simp only [Reps] at r;subst r;simp only [List.drop_nil];exact Reps.nil
 | d :: ds,_,n + 1,r=>by
  simp only [Reps] at r
  obtain ⟨v,r',rfl,q,u⟩:=r
  exact Reps.drop n u
theorem Reps.reverse:∀ {ds:List D} {vs:List V},Reps K F ds vs→Reps K F ds.reverse vs.reverse
 | [],_,r=>by simp only [Reps] at r;subst r;exact Reps.nil
 | d :: ds,_,r=>by
  simp only [Reps] at r
  obtain ⟨v,r',rfl,q,u⟩:=r
  rw [List.reverse_cons,List.reverse_cons]
  exact Reps.append (Reps.reverse u) (Reps.cons q Reps.nil)
theorem Reps.set {d:D} {v:V} (h:Rep K F d v):∀ {ds:List D} {vs:List V} (i:Nat),Reps K F ds vs→Reps K F (ds.set i d) (vs.set i v)
 | [],_,_,r=>by simp only [Reps] at r;subst r;exact Reps.nil
 | e :: ds,_,0,r=>by
  simp only [Reps] at r
  obtain ⟨w,r',rfl,q,u⟩:=r
  exact Reps.cons h u
 | e :: ds,_,i + 1,r=>by
  simp only [Reps] at r
  obtain ⟨w,r',rfl,q,u⟩:=r
  exact Reps.cons q (Reps.set h i u)
theorem Reps.one {d:D} {vs:List V} (h:Reps K F [d] vs):∃ v,vs = [v]∧Rep K F d v:=by
 simp only [Reps] at h
 obtain ⟨v,r,e,q,e2⟩:=h
 subst e2;exact ⟨v,e,q⟩
theorem Reps.two {d e:D} {vs:List V} (h:Reps K F [d,e] vs):∃ v w,vs = [v,w]∧Rep K F d v∧Rep K F e w:=by
 simp only [Reps] at h
 obtain ⟨v,r,e1,q,w,r2,e2,q2,e3⟩:=h
 subst e3;subst e2;exact ⟨v,w,e1,q,q2⟩
theorem Reps.rep {ds:List D} {vs:List V} (h:Reps K F ds vs):∀ k:Nat,Reps K F (List.replicate k ds).flatten (List.replicate k vs).flatten
 | 0=>Reps.nil
 | k + 1=>by
  rw [List.replicate_succ,List.replicate_succ,List.flatten_cons,List.flatten_cons]
  exact Reps.append h (Reps.rep h k)
theorem Reps.ints:∀ (ns:List Int),Reps K F (ns.map D.int) (ns.map V.int)
 | []=>Reps.nil
 | n :: r=>Reps.cons (by simp only [Rep]) (Reps.ints r)
end
class Tabs where
 rows:List (Addr×Nat×Nat×Str)
 own:Str→Str→Bool
noncomputable def zT4 (c:Addr) (q:Str):Heap→Prop:=fun h=>h.CodeRec (.ref c) q
noncomputable def TOk (F H:Hp) (r:Addr×Nat×Nat×Str):Prop:=F r.1 = none∧(H r.1 = some (.tbl #[])∨∃ c,H r.1 = some (.tbl #[rawInt r.2.1,rawInt r.2.2.1,.ref c])∧H c = some (.ext (zT4 c r.2.2.2)))
variable [Tabs]
noncomputable def OwnOk (H:Hp):Prop:=∀ d a,H d = some (.own a)→∃ C dx vs,H a = some (.ins C dx vs)
noncomputable def TbT (F H:Hp):Prop:=(∀ r∈Tabs.rows,TOk F H r)∧OwnOk H
omit [Tabs] in
theorem TOk.step {F H F' H':Hp} {r:Addr×Nat×Nat×Str} (t:TOk F H r) (nw:∀ a o,F' a = some o→F a = some o∨H a = none) (k:∀ a o,H a = some o→(∀ vs,o≠.lst vs)→H' a = some o):TOk F' H' r:=by
 have hn:∀ ps,H r.1 = some (.tbl ps)→F' r.1 = none:=fun ps e=>by
  cases q:F' r.1 with
  | none=>rfl
  | some o=>
   rcases nw _ _ q with z | z
   ·rw [t.1] at z;cases z
   ·rw [e] at z;cases z
 rcases t.2 with e | ⟨c,e,e2⟩
 ·exact ⟨hn _ e,.inl (k _ _ e fun _ z=>nomatch z)⟩
 ·exact ⟨hn _ e,.inr ⟨c,k _ _ e (fun _ z=>nomatch z),k _ _ e2 fun _ z=>nomatch z⟩⟩
theorem TbT.step {F H F' H':Hp} (t:TbT F H) (nw:∀ a o,F' a = some o→F a = some o∨H a = none) (k:∀ a o,H a = some o→(∀ vs,o≠.lst vs)→H' a = some o) (no:∀ d a,H' d = some (.own a)→H d = some (.own a)):TbT F' H':=⟨fun r hr=>(t.1 r hr).step nw k,fun d a e=>by
 obtain ⟨C,dx,vs,h⟩:=t.2 d a (no d a e)
 exact ⟨C,dx,vs,k _ _ h fun _ z=>nomatch z⟩⟩
theorem TbT.freeze {F H:Hp} {a:Addr} {vs:List V} {o:HO} (t:TbT F H) (e:H a = some (.lst vs)):TbT (upd F a o) H:=⟨fun r hr=>by
 obtain ⟨t1,t2⟩:=t.1 r hr
 have:r.1≠a:=fun z=>by
  rw [z,e] at t2
  rcases t2 with q | ⟨c,q,_⟩ <;> cases q
 exact ⟨by rw [ze2 this];exact t1,t2⟩,t.2⟩
noncomputable def Kp:HO→Option HO→Prop
 | .tbl _,r=>∃ ps,r = some (.tbl ps)
 | o,r=>r = some o
noncomputable def Hh (H H':Hp):Prop:=∀ b o,H b = some o→Kp o (H' b)
omit [Tabs] in
theorem Kp.of {o:HO} {r:Option HO} (h:r = some o):Kp o r:=by cases o <;> first | exact h | exact ⟨_,h⟩
omit [Tabs] in
theorem Kp.some {o:HO} {r:Option HO} (h:Kp o r):r≠none:=by
 cases o <;> first | (obtain ⟨_,h⟩:=h;rw [h];simp) | (have h:r = _:=h;rw [h];simp)
omit [Tabs] in
theorem Hh.of {H H':Hp} (h:Same H H'):Hh H H':=fun b o e=>.of (h b o e)
omit [Tabs] in
theorem Hh.refl (H:Hp):Hh H H:=.of (Same.refl H)
omit [Tabs] in
theorem Hh.trans {H H1 H2:Hp} (a:Hh H H1) (b:Hh H1 H2):Hh H H2:=fun c o e=>by
 have k:=a c o e
 cases o <;> first | exact b c _ k | (obtain ⟨ps,q⟩:=k;show ∃ ps,H2 c = some (.tbl ps);exact b c _ q)
omit [Tabs] in
theorem zt6 {F H:Hp} (h:Hh F H) {a:Addr} (e:H a = none):F a = none:=by
 cases q:F a with
 | none=>rfl
 | some o=>exact absurd e (h a o q).some
structure Ext (F H F' H':Hp):Prop where
 ff:Same F F'
 hh:Hh H H'
 fh:Same F' H'
 nw:∀ a o,F' a = some o→F a = some o∨H a = none
 tt:TbT F H→TbT F' H'
theorem Ext.refl {F H:Hp} (h:Same F H):Ext F H F H:=⟨Same.refl F,Hh.refl H,h,fun _ _ e=>.inl e,id⟩
theorem Ext.trans {F H F1 H1 F2 H2:Hp} (a:Ext F H F1 H1) (b:Ext F1 H1 F2 H2):Ext F H F2 H2:=
 ⟨a.ff.trans b.ff,a.hh.trans b.hh,b.fh,fun c o e=>by
  rcases b.nw c o e with q | q
  ·exact a.nw c o q
  ·exact .inr (zt6 a.hh q),fun t=>b.tt (a.tt t)⟩
omit [Tabs] in
theorem zh1 {F H:Hp} (h:Same F H) {a:Addr} (e:H a = none):F a = none:=by
 cases q:F a with
 | none=>rfl
 | some o=>rw [h a o q] at e;cases e
omit [Tabs] in
theorem zk0 {H:Hp} {p:Addr} {o:HO} (h:H p = none):Same H (upd H p o):=fun b u q=>by rw [ze2 (zg4 q h)];exact q
omit [Tabs] in
theorem yf7 {F H:Hp} {p:Addr} {o:HO} (h:Same F H) (hp:H p = none):Same (upd F p o) (upd H p o):=fun b u q=>by
 by_cases hb:b = p
 ·subst hb;rw [ze6] at q ⊢;exact q
 ·rw [ze2 hb] at q ⊢;exact h b u q
theorem Ext.same {F H F' H':Hp} (ff:Same F F') (hh:Same H H') (fh:Same F' H') (nw:∀ a o,F' a = some o→F a = some o∨H a = none) (no:∀ d a,H' d = some (.own a)→H d = some (.own a)):Ext F H F' H':=⟨ff,.of hh,fh,nw,fun t=>t.step nw (fun a o e _=>hh a o e) no⟩
omit [Tabs] in
theorem zI1 {H:Hp} {p:Addr} {o:HO} (ho:∀ a,o≠.own a):∀ d a,upd H p o d = some (.own a)→H d = some (.own a):=fun d a e=>by
 by_cases h:d = p
 ·subst h;rw [ze6] at e;cases e;exact absurd rfl (ho a)
 ·rw [ze2 h] at e;exact e
theorem Ext.new {F H:Hp} {p:Addr} {o:HO} (h:Same F H) (hp:H p = none) (ho:∀ a,o≠.own a:=by intro _ h;cases h):Ext F H (upd F p o) (upd H p o):=
 .same (zk0 (zh1 h hp)) (zk0 hp) (yf7 h hp) (fun a u e=>by
  by_cases hb:a = p
  ·subst hb;exact .inr hp
  ·rw [ze2 hb] at e;exact .inl e) (zI1 ho)
theorem Ext.open {F H:Hp} {p:Addr} {o:HO} (h:Same F H) (hp:H p = none) (ho:∀ a,o≠.own a:=by intro _ h;cases h):Ext F H F (upd H p o):=
 .same (Same.refl F) (zk0 hp) (h.trans (zk0 hp)) (fun a u e=>.inl e) (zI1 ho)
inductive Sl where
 | val (d:D)
 | own (ds:List D)
 | obj (n:Nat) (c:Str) (fs:List (Str×D))
 | obr (c:Str) (fs:List (Str×D))
noncomputable abbrev DS:=List (Option Sl)
noncomputable def OwnF (K:PySem.W.Frag) (F H:Hp) (d:D) (v:V):Prop:=∃ ds l ws,d = .lst ds∧v = .ref l∧H l = some (.lst ws)∧F l = none∧Reps K F ds ws
noncomputable def Fld1 (K:PySem.W.Frag) (F H:Hp) (c f:Str) (d:D) (v:V):Prop:=if Tabs.own c f = true then OwnF K F H d v else Rep K F d v
noncomputable def Flds (K:PySem.W.Frag) (F H:Hp) (c:Str):List (Str×D)→List (Str×V)→Prop
 | [],[]=>True
 | (f,d) :: r,(g,v) :: s=>f = g∧Fld1 K F H c f d v∧Flds K F H c r s
 | _,_=>False
noncomputable def ownL (c:Str):List (Str×V)→List Addr
 | []=>[]
 | (f,v) :: r=>if Tabs.own c f = true then (match v with
  | .ref l=>l :: ownL c r
  | _=>ownL c r) else ownL c r
noncomputable def Lof (H:Hp) (c:Str) (a:Addr):List Addr:=match H a with
 | some (.ins _ _ vs)=>ownL c vs
 | _=>[]
theorem Lof.ins {H:Hp} {c:Str} {a C dx:Addr} {vs:List (Str×V)} (h:H a = some (.ins C dx vs)):Lof H c a = ownL c vs:=by unfold Lof;rw [h]
theorem Flds.own {K:PySem.W.Frag} {F H:Hp} {c:Str} {l:Addr}:∀ {fs:List (Str×D)} {vs:List (Str×V)},Flds K F H c fs vs→l∈ownL c vs→F l = none∧∃ ws,H l = some (.lst ws)
 | [],[],_,h=>by cases h
 | (f,d) :: r,(g,v) :: s,q,h=>by
  obtain ⟨rfl,q2,q3⟩:=q
  unfold ownL at h
  unfold Fld1 at q2
  by_cases z:Tabs.own c f = true
  ·rw [if_pos z] at h q2
   obtain ⟨ds,l',ws,e1,rfl,e3,e4,e5⟩:=q2
   rcases List.mem_cons.mp h with rfl | h
   ·exact ⟨e4,ws,e3⟩
   ·exact Flds.own q3 h
  ·rw [if_neg z] at h
   exact Flds.own q3 h
 | [],_ :: _,q,_=>q.elim
 | _ :: _,[],q,_=>q.elim
theorem Flds.keep {K:PySem.W.Frag} {F H F' H':Hp} {c:Str} (hf:Same F F'):∀ {fs:List (Str×D)} {vs:List (Str×V)},Flds K F H c fs vs→(∀ l ws,l∈ownL c vs→H l = some (.lst ws)→F l = none→H' l = some (.lst ws)∧F' l = none)→Flds K F' H' c fs vs
 | [],[],_,_=>trivial
 | (f,d) :: r,(g,v) :: s,q,k=>by
  obtain ⟨rfl,q2,q3⟩:=q
  refine ⟨rfl,?_,Flds.keep hf q3 fun l ws hl=>k l ws ?_⟩
  ·unfold Fld1 at q2 ⊢
   by_cases z:Tabs.own c f = true
   ·rw [if_pos z] at q2 ⊢
    obtain ⟨ds,l,ws,e1,rfl,e3,e4,e5⟩:=q2
    obtain ⟨k1,k2⟩:=k l ws (by unfold ownL;rw [if_pos z];exact List.mem_cons_self) e3 e4
    exact ⟨ds,l,ws,e1,rfl,k1,k2,e5.mono hf⟩
   ·rw [if_neg z] at q2 ⊢;exact q2.mono hf
  ·unfold ownL
   by_cases z:Tabs.own c f = true
   ·rw [if_pos z]
    cases v with
    | ref l'=>exact List.mem_cons_of_mem _ hl
    | _=>exact hl
   ·rw [if_neg z];exact hl
 | [],_ :: _,q,_=>q.elim
 | _ :: _,[],q,_=>q.elim
noncomputable def ObAt (K:PySem.W.Frag) (F H:Hp) (c:Str) (fs:List (Str×D)) (a:Addr):Prop:=∃ C dx vs,H a = some (.ins C dx vs)∧F a = none∧PySem.W.nsIn K mainGlobals c = some (some (.ref C))∧Flds K F H c fs vs∧H dx = some (.own a)∧(ownL c vs).Nodup
noncomputable def ObS (s:Option (Option Sl)) (c:Str):Prop:=(∃ n fs,s = some (some (.obj n c fs)))∨∃ fs,s = some (some (.obr c fs))
structure ObsOk (K:PySem.W.Frag) (F:Hp) (τ:DS) (σ:St) (H:Hp):Prop where
 at_:∀ (i n:Nat) (c:Str) (fs:List (Str×D)),τ[i]? = some (some (.obj n c fs))→∃ a,σ[i]? = some (some (.ref a))∧ObAt K F H c fs a
 dis:∀ (i j n:Nat) (c c':Str) (fs:List (Str×D)) (a:Addr),i≠j→τ[i]? = some (some (.obj n c fs))→ObS τ[j]? c'→σ[i]? = some (some (.ref a))→σ[j]? = some (some (.ref a))→False
 rd:∀ (i:Nat) (c:Str) (fs:List (Str×D)),τ[i]? = some (some (.obr c fs))→∃ a C dx vs,σ[i]? = some (some (.ref a))∧H a = some (.ins C dx vs)∧PySem.W.nsIn K mainGlobals c = some (some (.ref C))∧Flds K F H c fs vs
 ll:∀ (i j n:Nat) (c c':Str) (fs:List (Str×D)) (a a' l:Addr),i≠j→τ[i]? = some (some (.obj n c fs))→ObS τ[j]? c'→σ[i]? = some (some (.ref a))→σ[j]? = some (some (.ref a'))→l∈Lof H c a→l∈Lof H c' a'→False
 lo:∀ (i j:Nat) (c:Str) (ds:List D) (a l:Addr),ObS τ[i]? c→τ[j]? = some (some (.own ds))→σ[i]? = some (some (.ref a))→σ[j]? = some (some (.ref l))→l∈Lof H c a→False
noncomputable def isOb:Option Sl→Bool
 | some (.obj _ _ _)=>true
 | some (.obr _ _)=>true
 | _=>false
noncomputable def noObj (τ:DS):Prop:=∀ (i:Nat) s,τ[i]? = some s→isOb s = false
omit [Tabs] in
theorem noObj.obs {τ:DS} (n:noObj τ) {i:Nat} {c:Str} (h:ObS τ[i]? c):False:=by
 rcases h with ⟨m,fs,h⟩ | ⟨fs,h⟩
 ·have:=n i _ h;cases this
 ·have:=n i _ h;cases this
theorem ObsOk.none {K:PySem.W.Frag} {F H:Hp} {τ:DS} {σ:St} (n:noObj τ):ObsOk K F τ σ H:=
 ⟨fun i m c fs h=>(by have:=n i _ h;cases this),fun i j m c c' fs a _ h=>(by have:=n i _ h;cases this),fun i c fs h=>(by have:=n i _ h;cases this),fun i j m c c' fs a a' l _ h=>(by have:=n i _ h;cases this),fun i j c ds a l h=>(n.obs h).elim⟩
theorem ObsOk.get {K:PySem.W.Frag} {F H:Hp} {τ:DS} {σ:St} {i:Nat} {c:Str} (o:ObsOk K F τ σ H) (h:ObS τ[i]? c):∃ a C dx vs fs,σ[i]? = some (some (.ref a))∧H a = some (.ins C dx vs)∧Flds K F H c fs vs:=by
 rcases h with ⟨m,fs,h⟩ | ⟨fs,h⟩
 ·obtain ⟨a,h1,C,dx,vs,h2,_,_,h5,_⟩:=o.at_ i m c fs h
  exact ⟨a,C,dx,vs,fs,h1,h2,h5⟩
 ·obtain ⟨a,C,dx,vs,h1,h2,_,h5⟩:=o.rd i c fs h
  exact ⟨a,C,dx,vs,fs,h1,h2,h5⟩
theorem ObsOk.keep {K:PySem.W.Frag} {F H F' H':Hp} {τ:DS} {σ:St} (o:ObsOk K F τ σ H) (hf:Same F F') (hi:∀ a C dx vs,H a = some (.ins C dx vs)→H' a = some (.ins C dx vs)) (hn:∀ a C dx vs,H a = some (.ins C dx vs)→F a = Option.none→F' a = Option.none) (hd:∀ d a,H d = some (.own a)→H' d = some (.own a))
  (hl:∀ (i:Nat) (c:Str) (a l:Addr) (ws:List V),ObS τ[i]? c→σ[i]? = some (some (.ref a))→l∈Lof H c a→H l = some (.lst ws)→F l = Option.none→H' l = some (.lst ws)∧F' l = Option.none):ObsOk K F' τ σ H':=by
 have lof:∀ {i:Nat} {c:Str} {a:Addr},ObS τ[i]? c→σ[i]? = some (some (.ref a))→Lof H' c a = Lof H c a:=fun {i c a} h e=>by
  obtain ⟨a',C,dx,vs,fs,h1,h2,_⟩:=o.get h
  rw [e] at h1;cases h1
  rw [Lof.ins h2,Lof.ins (hi _ _ _ _ h2)]
 refine ⟨fun i m c fs h=>?_,o.dis,fun i c fs h=>?_,fun i j m c c' fs a a' l hij h1 h2 h3 h4 h5 h6=>?_,fun i j c ds a l h1 h2 h3 h4 h5=>?_⟩
 ·obtain ⟨a,h1,C,dx,vs,h2,h3,h4,h5,h6,h7⟩:=o.at_ i m c fs h
  exact ⟨a,h1,C,dx,vs,hi _ _ _ _ h2,hn _ _ _ _ h2 h3,h4,h5.keep hf fun l ws q=>hl i c a l ws (.inl ⟨m,fs,h⟩) h1 (by rw [Lof.ins h2];exact q),hd _ _ h6,h7⟩
 ·obtain ⟨a,C,dx,vs,h1,h2,h4,h5⟩:=o.rd i c fs h
  exact ⟨a,C,dx,vs,h1,hi _ _ _ _ h2,h4,h5.keep hf fun l ws q=>hl i c a l ws (.inr ⟨fs,h⟩) h1 (by rw [Lof.ins h2];exact q)⟩
 ·rw [lof (.inl ⟨m,fs,h1⟩) h3] at h5
  rw [lof h2 h4] at h6
  exact o.ll i j m c c' fs a a' l hij h1 h2 h3 h4 h5 h6
 ·rw [lof h1 h3] at h5
  exact o.lo i j c ds a l h1 h2 h3 h4 h5
theorem ObsOk.ext {K:PySem.W.Frag} {F H F' H':Hp} {τ:DS} {σ:St} (o:ObsOk K F τ σ H) (x:Ext F H F' H'):ObsOk K F' τ σ H':=by
 have nF:∀ {a:Addr} {u:HO},H a = some u→F a = Option.none→F' a = Option.none:=fun {a u} h h3=>by
  cases q:F' a with
  | none=>rfl
  | some w=>
   rcases x.nw a w q with z | z
   ·rw [h3] at z;cases z
   ·rw [h] at z;cases z
 exact o.keep x.ff (fun a C dx vs h=>x.hh _ _ h) (fun a C dx vs h=>nF h) (fun d a h=>x.hh _ _ h) fun i c a l ws _ _ _ h h3=>⟨x.hh _ _ h,nF h h3⟩
theorem ObsOk.updL {K:PySem.W.Frag} {F H:Hp} {τ:DS} {σ:St} {p:Addr} {u:HO} (o:ObsOk K F τ σ H) (hl:H p = .none∨∃ vs,H p = some (.lst vs)) (hp:∀ (i:Nat) (c:Str) (a:Addr),ObS τ[i]? c→σ[i]? = some (some (.ref a))→p∉Lof H c a):ObsOk K F τ σ (upd H p u):=by
 have ne:∀ {a:Addr} {w:HO},H a = some w→(∀ vs,w≠.lst vs)→a≠p:=fun {a w} h n z=>by
  subst z
  rcases hl with z | ⟨ws,z⟩
  ·rw [z] at h;cases h
  ·rw [z] at h;cases h;exact n _ rfl
 refine o.keep (Same.refl F) (fun a C dx vs h=>?_) (fun a C dx vs _ h=>h) (fun d a h=>?_) fun i c a l ws h1 h2 h3 h4 h5=>⟨?_,h5⟩
 ·rw [ze2 (ne h fun _ z=>nomatch z)];exact h
 ·rw [ze2 (ne h fun _ z=>nomatch z)];exact h
 ·have:l≠p:=fun z=>by subst z;exact hp i c a h1 h2 h3
  rw [ze2 this];exact h4
omit [Tabs] in
theorem zl5 {τ:DS} {i j:Nat} {s u:Option Sl} (hs:isOb s = false) (hu:isOb u = true) (h:(τ.set i s)[j]? = some u):i≠j∧τ[j]? = some u:=by
 by_cases hij:i = j
 ·subst hij
  rw [List.getElem?_set] at h
  simp only [if_true] at h
  split at h
  ·cases h;rw [hs] at hu;cases hu
  ·cases h
 ·rw [List.getElem?_set_ne hij] at h;exact ⟨hij,h⟩
omit [Tabs] in
theorem zA2 {τ:DS} {i j:Nat} {s:Option Sl} {c:Str} (hs:isOb s = false) (h:ObS (τ.set i s)[j]? c):i≠j∧ObS τ[j]? c:=by
 rcases h with ⟨n,fs,h⟩ | ⟨fs,h⟩
 ·obtain ⟨a,b⟩:=zl5 hs rfl h;exact ⟨a,.inl ⟨n,fs,b⟩⟩
 ·obtain ⟨a,b⟩:=zl5 hs rfl h;exact ⟨a,.inr ⟨fs,b⟩⟩
theorem ObsOk.put {K:PySem.W.Frag} {F H:Hp} {τ:DS} {σ:St} {i:Nat} {s:Option Sl} {v:Option V} (o:ObsOk K F τ σ H) (hs:isOb s = false) (hw:∀ ds l,s = some (.own ds)→v = some (.ref l)→∀ (j:Nat) (c:Str) (a:Addr),ObS τ[j]? c→σ[j]? = some (some (.ref a))→l∉Lof H c a):ObsOk K F (τ.set i s) (σ.set i v) H:=
 ⟨fun j m c fs h=>by
  obtain ⟨n,h⟩:=zl5 hs rfl h
  rw [List.getElem?_set_ne n];exact o.at_ j m c fs h,
  fun j k m c c' fs a hjk h1 h2 h3 h4=>by
   obtain ⟨n1,h1⟩:=zl5 hs rfl h1
   obtain ⟨n2,h2⟩:=zA2 hs h2
   rw [List.getElem?_set_ne n1] at h3
   rw [List.getElem?_set_ne n2] at h4
   exact o.dis j k m c c' fs a hjk h1 h2 h3 h4,
  fun j c fs h=>by
   obtain ⟨n,h⟩:=zl5 hs rfl h
   rw [List.getElem?_set_ne n];exact o.rd j c fs h,
  fun j k m c c' fs a a' l hjk h1 h2 h3 h4=>by
   obtain ⟨n1,h1⟩:=zl5 hs rfl h1
   obtain ⟨n2,h2⟩:=zA2 hs h2
   rw [List.getElem?_set_ne n1] at h3
   rw [List.getElem?_set_ne n2] at h4
   exact o.ll j k m c c' fs a a' l hjk h1 h2 h3 h4,
  fun j k c ds a l h1 h2 h3 h4 h5=>by
   obtain ⟨n1,g1⟩:=zA2 hs h1
   rw [List.getElem?_set_ne n1] at h3
   by_cases e:i = k
   ·subst e
    rw [List.getElem?_set] at h2 h4
    simp only [if_true] at h2 h4
    split at h2
    ·split at h4
     ·exact hw ds l (by simpa using h2) (by simpa using h4) j c a g1 h3 h5
     ·cases h4
    ·cases h2
   ·rw [List.getElem?_set_ne e] at h2 h4
    exact o.lo j k c ds a l g1 h2 h3 h4 h5⟩
theorem ObsOk.putS {K:PySem.W.Frag} {F H:Hp} {τ:DS} {σ:St} {i:Nat} {ds es:List D} (o:ObsOk K F τ σ H) (hi:τ[i]? = some (some (.own ds))):ObsOk K F (τ.set i (some (.own es))) σ H:=
 ⟨fun j m c fs h=>o.at_ j m c fs (zl5 (s:=some (.own es)) rfl rfl h).2,fun j k m c c' fs a hjk h1 h2=>o.dis j k m c c' fs a hjk (zl5 (s:=some (.own es)) rfl rfl h1).2 (zA2 (s:=some (.own es)) rfl h2).2,fun j c fs h=>o.rd j c fs (zl5 (s:=some (.own es)) rfl rfl h).2,
  fun j k m c c' fs a a' l hjk h1 h2=>o.ll j k m c c' fs a a' l hjk (zl5 (s:=some (.own es)) rfl rfl h1).2 (zA2 (s:=some (.own es)) rfl h2).2,fun j k c ds' a l h1 h2 h3 h4 h5=>by
   have h1:=(zA2 (s:=some (.own es)) rfl h1).2
   by_cases e:i = k
   ·subst e;exact o.lo j i c ds a l h1 hi h3 h4 h5
   ·rw [List.getElem?_set_ne e] at h2;exact o.lo j k c ds' a l h1 h2 h3 h4 h5⟩
theorem ObsOk.fresh {K:PySem.W.Frag} {F H:Hp} {τ:DS} {σ:St} {p:Addr} (o:ObsOk K F τ σ H) (hp:H p = .none):∀ (i:Nat) (c:Str) (a:Addr),ObS τ[i]? c→σ[i]? = some (some (.ref a))→p∉Lof H c a:=fun i c a h e hl=>by
 obtain ⟨a',C,dx,vs,fs,h1,h2,h3⟩:=o.get h
 rw [e] at h1;cases h1
 rw [Lof.ins h2] at hl
 obtain ⟨_,ws,q⟩:=h3.own hl
 rw [hp] at q;cases q
theorem ObsOk.lof {K:PySem.W.Frag} {F H:Hp} {τ:DS} {σ:St} {i:Nat} {c:Str} {a p:Addr} {u:HO} (o:ObsOk K F τ σ H) (h1:ObS τ[i]? c) (h2:σ[i]? = some (some (.ref a))) (hl:H p = .none∨∃ vs,H p = some (.lst vs)):Lof (upd H p u) c a = Lof H c a:=by
 obtain ⟨a',C,dx,vs,fs,h3,h4,_⟩:=o.get h1
 rw [h2] at h3;cases h3
 have:a≠p:=fun z=>by
  subst z
  rcases hl with z | ⟨ws,z⟩
  ·rw [z] at h4;cases h4
  ·rw [z] at h4;cases h4
 rw [Lof.ins h4,Lof.ins (show upd H p u a = some (.ins C dx vs) by rw [ze2 this];exact h4)]
structure RV (K:PySem.W.Frag) (F:Hp) (τ:DS) (σ:St) (H:Hp):Prop where
 fh:Same F H
 len:τ.length = σ.length
 val:∀ (i:Nat) (d:D),τ[i]? = some (some (.val d))→∃ v,σ[i]? = some (some v)∧Rep K F d v
 own:∀ (i:Nat) (ds:List D),τ[i]? = some (some (.own ds))→∃ a vs,σ[i]? = some (some (.ref a))∧H a = some (.lst vs)∧F a = none∧Reps K F ds vs
 dis:∀ (i j:Nat) (ds es:List D) (a:Addr),i≠j→τ[i]? = some (some (.own ds))→τ[j]? = some (some (.own es))→σ[i]? = some (some (.ref a))→σ[j]? = some (some (.ref a))→False
 tt:TbT F H
 ob:ObsOk K F τ σ H
theorem RV.ext {K:PySem.W.Frag} {F H F' H':Hp} {τ:DS} {σ:St} (R:RV K F τ σ H) (x:Ext F H F' H'):RV K F' τ σ H':=
 ⟨x.fh,R.len,fun i d e=>by
  obtain ⟨v,h1,h2⟩:=R.val i d e
  exact ⟨v,h1,h2.mono x.ff⟩,
  fun i ds e=>by
   obtain ⟨a,vs,h1,h2,h3,h4⟩:=R.own i ds e
   refine ⟨a,vs,h1,x.hh _ _ h2,?_,h4.mono x.ff⟩
   cases q:F' a with
   | none=>rfl
   | some o=>
    rcases x.nw a o q with z | z
    ·rw [h3] at z;cases z
    ·rw [h2] at z;exact absurd z (by simp),
  R.dis,x.tt R.tt,R.ob.ext x⟩
structure RS (K:PySem.W.Frag) (B Z F:Hp) (τ:DS) (σ:St) (H:Hp):Prop where
 rv:RV K F τ σ H
 bh:Hh B H
 zf:Same Z F
 nb:∀ a o,F a = some o→Z a = some o∨B a = none
 ob:∀ (i:Nat) (ds:List D) (a:Addr),τ[i]? = some (some (.own ds))→σ[i]? = some (some (.ref a))→B a = none
 oo:∀ (i n:Nat) (c:Str) (fs:List (Str×D)) (a:Addr),τ[i]? = some (some (.obj n c fs))→σ[i]? = some (some (.ref a))→B a = none∧∀ l∈Lof H c a,B l = none
 sf:∀ (a0 dx:Addr),B dx = some (.own a0)→B a0 = none→∀ (i n:Nat) (c:Str) (fs:List (Str×D)),τ[i]? = some (some (.obj (n + 1) c fs))→σ[i]? = some (some (.ref a0))
 ro:∀ (i:Nat) (c:Str) (fs:List (Str×D)) (a:Addr),τ[i]? = some (some (.obr c fs))→σ[i]? = some (some (.ref a))→∃ C dx vs,B a = some (.ins C dx vs)∧∀ l∈ownL c vs,∃ ws,B l = some (.lst ws)
theorem RS.ext {K:PySem.W.Frag} {B Z F H F' H':Hp} {τ:DS} {σ:St} (R:RS K B Z F τ σ H) (x:Ext F H F' H'):RS K B Z F' τ σ H':=
 ⟨R.rv.ext x,R.bh.trans x.hh,R.zf.trans x.ff,fun a o e=>by
  rcases x.nw a o e with q | q
  ·exact R.nb a o q
  ·exact .inr (zt6 R.bh q),R.ob,fun i n c fs a h1 h2=>by
  obtain ⟨q1,q2⟩:=R.oo i n c fs a h1 h2
  refine ⟨q1,fun l hl=>q2 l ?_⟩
  obtain ⟨a',h3,C,dx,vs,h4,_⟩:=R.rv.ob.at_ i n c fs h1
  rw [h2] at h3;cases h3
  rw [Lof.ins h4]
  rw [Lof.ins (x.hh _ _ h4:H' a = some (.ins C dx vs))] at hl
  exact hl,R.sf,R.ro⟩
theorem RS.out {K:PySem.W.Frag} {B Z F H:Hp} {τ:DS} {σ:St} (R:RS K B Z F τ σ H):Ext Z B F H:=⟨R.zf,R.bh,R.rv.fh,R.nb,fun _=>R.rv.tt⟩
noncomputable def Xob (X:Cx) (c:Str):Prop:=∀ e s',X.xe e s'
noncomputable def Ok (X:Cx) {α:Type} (r:Rs α) (P:α→Prop):Prop:=match r with
 | .ok a=>P a
 | .ex c=>Xob X c
 | .no=>False
theorem Ok.bind {X:Cx} {α β:Type} {r:Rs α} {k:α→Rs β} {P:β→Prop} (h:Ok X (r.bind k) P):Ok X r fun a=>Ok X (k a) P:=by
 cases r <;> exact h
theorem Ok.imp {X:Cx} {α:Type} {r:Rs α} {P Q:α→Prop} (h:Ok X r P) (f:∀ a,P a→Q a):Ok X r Q:=by
 cases r with
 | ok a=>exact f a h
 | ex c=>exact h
 | no=>exact h
noncomputable abbrev FE:=DS→Rs D
noncomputable abbrev FA:=DS→Rs (List D)
noncomputable abbrev FT:=DS→Rs Bool
noncomputable def Ev (K:PySem.W.Frag) (F H:Hp) (Q:VK) (d:D):Prop:=∀ v F' H',Ext F H F' H'→Rep K F' d v→Q v H'
noncomputable def Evs (K:PySem.W.Frag) (F H:Hp) (Q:List V→Hp→Prop) (ds:List D):Prop:=∀ vs F' H',Ext F H F' H'→Reps K F' ds vs→Q vs H'
noncomputable def Evb (F H:Hp) (Q:Bool→Hp→Prop) (b:Bool):Prop:=∀ F' H',Ext F H F' H'→Q b H'
theorem Ev.ext {K:PySem.W.Frag} {F H F1 H1:Hp} {Q:VK} {d:D} (h:Ev K F H Q d) (x:Ext F H F1 H1):Ev K F1 H1 Q d:=fun v F' H' y r=>h v F' H' (x.trans y) r
theorem Evs.ext {K:PySem.W.Frag} {F H F1 H1:Hp} {Q:List V→Hp→Prop} {d:List D} (h:Evs K F H Q d) (x:Ext F H F1 H1):Evs K F1 H1 Q d:=fun v F' H' y r=>h v F' H' (x.trans y) r
theorem Evb.ext {F H F1 H1:Hp} {Q:Bool→Hp→Prop} {d:Bool} (h:Evb F H Q d) (x:Ext F H F1 H1):Evb F1 H1 Q d:=fun F' H' y=>h F' H' (x.trans y)
noncomputable def tE (X:Cx) (f:FE):TE:=fun σ H Q=>∃ F τ,RV X.K F τ σ H∧Ok X (f τ) (Ev X.K F H Q)
noncomputable def tAs (X:Cx) (f:FA):TA:=fun σ H Q=>∃ F τ,RV X.K F τ σ H∧Ok X (f τ) (Evs X.K F H Q)
noncomputable def tTs (X:Cx) (f:FT):TT:=fun σ H Q=>∃ F τ,RV X.K F τ σ H∧Ok X (f τ) (Evb F H Q)
noncomputable def PDE (X:Cx) (e:Expr) (f:FE):Prop:=PE X e (tE X f)
noncomputable def PDA (X:Cx) (e:List Expr) (f:FA):Prop:=PA X e (tAs X f)
noncomputable def PDT (X:Cx) (e:Expr) (f:FT):Prop:=PT X e (tTs X f)
noncomputable def PDW (X:Cx) (e:Expr) (f:FT):Prop:=PW X e (tTs X f)
theorem _root_.L2.PE.imp {X:Cx} {e:Expr} {t t':TE} (h:PE X e t) (f:∀ σ H Q,t' σ H Q→t σ H Q):PE X e t':=fun pins s σ H Q I q=>h pins s σ H Q I (f _ _ _ q)
theorem _root_.L2.PT.imp {X:Cx} {e:Expr} {t t':TT} (h:PT X e t) (f:∀ σ H Q,t' σ H Q→t σ H Q):PT X e t':=fun pins s σ H Q I q=>h pins s σ H Q I (f _ _ _ q)
theorem _root_.L2.PW.imp {X:Cx} {e:Expr} {t t':TT} (h:PW X e t) (f:∀ σ H Q,t' σ H Q→t σ H Q):PW X e t':=fun w pins s σ H Q I q=>h w pins s σ H Q I (f _ _ _ q)
theorem _root_.L2.PA.imp {X:Cx} {e:List Expr} {t t':TA} (h:PA X e t) (f:∀ σ H Q,t' σ H Q→t σ H Q):PA X e t':=fun p pins s σ H Q I q=>h p pins s σ H Q I (f _ _ _ q)
theorem _root_.L2.PS.imp {X:Cx} {e:Stmt} {t t':TS} (h:PS X e t) (f:∀ E σ H,t' E σ H→t E σ H):PS X e t':=fun pins s σ H Q I q=>h pins s σ H Q I (f _ _ _ q)
theorem _root_.L2.PSs.imp {X:Cx} {e:List Stmt} {t t':TS} (h:PSs X e t) (f:∀ E σ H,t' E σ H→t E σ H):PSs X e t':=fun pins s σ H Q I q=>h pins s σ H Q I (f _ _ _ q)
theorem tE.of {X:Cx} {f:FE} {F H:Hp} {τ:DS} {σ:St} {Q:VK} {G:D→Prop} (R:RV X.K F τ σ H) (h:Ok X (f τ) G)
  (k:∀ d v F1 H1,G d→Ext F H F1 H1→RV X.K F1 τ σ H1→Rep X.K F1 d v→Q v H1):tE X f σ H Q:=
 ⟨F,τ,R,h.imp fun d g v F1 H1 x r=>k d v F1 H1 g x (R.ext x) r⟩
theorem tAs.of {X:Cx} {f:FA} {F H:Hp} {τ:DS} {σ:St} {Q:List V→Hp→Prop} {G:List D→Prop} (R:RV X.K F τ σ H) (h:Ok X (f τ) G)
  (k:∀ d v F1 H1,G d→Ext F H F1 H1→RV X.K F1 τ σ H1→Reps X.K F1 d v→Q v H1):tAs X f σ H Q:=
 ⟨F,τ,R,h.imp fun d g v F1 H1 x r=>k d v F1 H1 g x (R.ext x) r⟩
theorem tTs.of {X:Cx} {f:FT} {F H:Hp} {τ:DS} {σ:St} {Q:Bool→Hp→Prop} {G:Bool→Prop} (R:RV X.K F τ σ H) (h:Ok X (f τ) G)
  (k:∀ b F1 H1,G b→Ext F H F1 H1→RV X.K F1 τ σ H1→Q b H1):tTs X f σ H Q:=
 ⟨F,τ,R,h.imp fun d g F1 H1 x=>k d F1 H1 g x (R.ext x)⟩
noncomputable def eVar (i:Nat):FE:=fun τ=>match τ[i]? with
 | some (some (.val d))=>.ok d
 | _=>.no
section
variable {X:Cx} {pos:Pos}
theorem za0 {i:Nat} {x:Str} (h:PE X (.Name x pos) (tVar i)):PDE X (.Name x pos) (eVar i):=h.imp fun σ H Q z_=>by
 obtain ⟨F,τ,R,q⟩:=z_
 unfold eVar at q
 cases e:τ[i]? with
 | none=>rw [e] at q;exact q.elim
 | some o=>
  cases o with
  | none=>rw [e] at q;exact q.elim
  | some sl=>
   cases sl with
   | own ds=>rw [e] at q;exact q.elim
   | obj n c fs=>rw [e] at q;exact q.elim
   | obr c fs=>rw [e] at q;exact q.elim
   | val d=>
    rw [e] at q
    obtain ⟨v,h1,h2⟩:=R.val i d e
    exact ⟨v,h1,q v F H (Ext.refl R.fh) h2⟩
noncomputable def eC (d:D):FE:=fun _=>.ok d
theorem pde_c {e:Expr} {v:V} {d:D} (h:PE X e (tC v)) (r:∀ F,Rep X.K F d v):PDE X e (eC d):=h.imp fun σ H Q z_=>by obtain ⟨F,τ,R,q⟩:=z_;exact q v F H (Ext.refl R.fh) (r F)
theorem za6 {i j}:PDE X (.Constant (.int i) j pos) (eC (.int i)):=pde_c pe_int fun _=>by simp only [Rep]
theorem pde_bl {i j}:PDE X (.Constant (.bool i) j pos) (eC (.bl i)):=pde_c pe_bl fun _=>by simp only [Rep]
theorem zp9 {j}:PDE X (.Constant .none j pos) (eC .non):=pde_c pe_non fun _=>by simp only [Rep]
theorem zn8 {i j}:PDE X (.Constant (.str i) j pos) (eC (.str i)):=pde_c pe_str fun _=>by simp only [Rep]
end
noncomputable def OpD (X:Cx) (g:Value→Value→Sem Value) (op:D→D→Rs D):Prop:=∃ r:R2,OpR X g r ∧
 ∀ F H x y dx dy Q,Same F H→Rep X.K F dx x→Rep X.K F dy y→Ok X (op dx dy) (Ev X.K F H Q)→r x y H Q
noncomputable def eOp (op:D→D→Rs D) (fa fb:FE):FE:=fun τ=>(fa τ).bind fun x=>(fb τ).bind fun y=>op x y
section
variable {X:Cx} {pos:Pos} {a b c:Expr} {fa fb fc:FE}
theorem op_of {r:R2} {op:D→D→Rs D} (hl:∀ F H x y dx dy Q,Same F H→Rep X.K F dx x→Rep X.K F dy y→Ok X (op dx dy) (Ev X.K F H Q)→r x y H Q)
  (σ:St) (H:Hp) (Q:VK) (h:tE X (eOp op fa fb) σ H Q):tOp r (tE X fa) (tE X fb) σ H Q:=by
 obtain ⟨F,τ,R,h⟩:=h
 refine tE.of R h.bind fun x u F1 H1 g x1 R1 r1=>?_
 refine tE.of R1 g.bind fun y v F2 H2 g2 x2 R2 r2=>?_
 exact hl F2 H2 u v x y Q R2.fh (r1.mono x2.ff) r2 (g2.imp fun d e=>e.ext (x1.trans x2))
theorem zb3 {o:Operator} {op:D→D→Rs D} (ho:OpD X (binaryOp o) op) (ha:PDE X a fa) (hb:PDE X b fb):PDE X (.BinOp a o b pos) (eOp op fa fb):=by
 obtain ⟨r,h1,h2⟩:=ho
 exact (pe_op h1 ha hb).imp (op_of h2)
theorem zq0 {o:CmpOp} {op:D→D→Rs D} (ho:OpD X (compareOp o) op) (ha:PDE X a fa) (hb:PDE X b fb) (hm:behindInMarks o b = false):PDE X (.Compare a [o] [b] pos) (eOp op fa fb):=by
 obtain ⟨r,h1,h2⟩:=ho
 exact (pe_cmpR h1 ha hb hm).imp (op_of h2)
noncomputable def tB (f:FE):FT:=fun τ=>(f τ).bind fun d=>match d with
 | .bl b=>.ok b
 | _=>.no
theorem test_of {t:FE} {u:TE} (hi:∀ σ H Q,tE X t σ H Q→u σ H Q) (σ:St) (H:Hp) (Q:Bool→Hp→Prop) (h:tTs X (tB t) σ H Q):tTest u σ H Q:=by
 obtain ⟨F,τ,R,h⟩:=h
 refine hi σ H _ (tE.of R h.bind fun d v F1 H1 g x R1 r=>?_)
 cases d with
 | bl k=>simp only [Rep] at r;exact ⟨k,r,g F1 H1 x⟩
 | _=>exact g.elim
theorem zh2 {o:CmpOp} {op:D→D→Rs D} (ho:OpD X (compareOp o) op) (ha:PDE X a fa) (hb:PDE X b fb) (hm:behindInMarks o b = false):PDT X (.Compare a [o] [b] pos) (tB (eOp op fa fb)):=by
 obtain ⟨r,h1,h2⟩:=ho
 exact (pt_cmpR h1 ha hb hm).imp (test_of (op_of h2))
noncomputable def truD:D→Rs Bool
 | .non=>.ok false
 | .bl b=>.ok b
 | .int i=>.ok (i != 0)
 | .str x=>if x.length≤sizeLine then .ok ((x.length:Int) != 0) else .no
 | .lst ds=>.ok (!ds.isEmpty)
 | .tup ds=>.ok (!ds.isEmpty)
 | .scr ns=>.ok (!ns.isEmpty)
 | .raw _=>.no
 | .exc _=>.no
theorem zB6 {K:PySem.W.Frag} {F:Hp} {ds:List D} {vs:List V} (h:Reps K F ds vs):ds.isEmpty = vs.isEmpty:=by
 have:=h.length
 cases ds <;> cases vs <;> simp_all
theorem ye7 {F H:Hp} {d:D} {v:V} {Q:Bool→Hp→Prop} (fh:Same F H) (r:Rep X.K F d v) (h:Ok X (truD d) (fun b=>Q b H)):∃ k,TruV X.K v H k∧Q k H:=by
 cases d with
 | non=>simp only [Rep] at r;subst r;exact ⟨_,rfl,h⟩
 | bl b=>simp only [Rep] at r;subst r;exact ⟨_,rfl,h⟩
 | int i=>simp only [Rep] at r;subst r;exact ⟨_,rfl,h⟩
 | str x=>
  simp only [Rep] at r;subst r
  simp only [truD] at h
  by_cases z:x.length≤sizeLine
  ·rw [if_pos z] at h;exact ⟨_,⟨z,rfl⟩,h⟩
  ·rw [if_neg z] at h;exact h.elim
 | lst ds=>
  simp only [Rep] at r;obtain ⟨a,vs,rfl,e,q⟩:=r
  refine ⟨!vs.isEmpty,.inl ⟨vs,SqL.of (fh _ _ e),rfl⟩,?_⟩
  rw [← zB6 q];exact h
 | tup ds=>
  simp only [Rep] at r;obtain ⟨a,vs,rfl,e,q⟩:=r
  refine ⟨!vs.isEmpty,.inr (.inl ⟨vs,Same.seqT fh e,rfl⟩),?_⟩
  rw [← zB6 q];exact h
 | scr ns=>
  simp only [Rep] at r;obtain ⟨a,rfl,e⟩:=r
  refine ⟨!(ns.map V.int).isEmpty,.inl ⟨_,fh.seq e,rfl⟩,?_⟩
  have e2:(ns.map V.int).isEmpty = ns.isEmpty:=by cases ns <;> rfl
  rw [e2];exact h
 | raw u=>exact h.elim
 | exc c=>exact h.elim
noncomputable def tTru (f:FE):FT:=fun τ=>(f τ).bind truD
theorem zu9 (ha:PDE X a fa) (he:∀ whole,isTrue a X.env whole = (do let v ← whole;standAt a.pos;holding [v] (truthy v)):=by intro _;rfl):PDT X a (tTru fa):=
 (pt_truth ha he).imp fun σ H Q z_=>by obtain ⟨F,τ,R,h⟩:=z_;exact tE.of R h.bind fun d v F1 H1 g x R1 r=>ye7 R1.fh r (g.imp fun b e=>e F1 H1 x)
noncomputable def tAndD (f g:FT):FT:=fun τ=>(f τ).bind fun b=>if b = true then g τ else .ok false
noncomputable def tOrD (f g:FT):FT:=fun τ=>(f τ).bind fun b=>if b = true then .ok true else g τ
noncomputable def tNotD (f:FT):FT:=fun τ=>(f τ).bind fun b=>.ok (!b)
variable {ga gb:FT} {rest:List Expr}
theorem zL0 (ha:PDT X a ga):PDW X (.BoolOp .And [a] pos) ga:=pw_and1 ha
theorem zE2 (ha:PDT X a ga):PDW X (.BoolOp .Or [a] pos) ga:=pw_or1 ha
theorem zU8 (ha:PDT X a ga) (hb:PDW X (.BoolOp .And (b :: rest) pos) gb):PDW X (.BoolOp .And (a :: b :: rest) pos) (tAndD ga gb):=
 PW.imp (pw_and ha hb) fun σ H Q ⟨F,τ,R,h⟩=>tTs.of R h.bind fun k F1 H1 g x R1=>by
  cases k with
  | true=>rw [if_pos rfl];rw [if_pos rfl] at g;exact ⟨F1,τ,R1,g.imp fun d e=>e.ext x⟩
  | false=>rw [if_neg (by simp)];rw [if_neg (by simp)] at g;exact g F1 H1 x
theorem zQ4 (ha:PDT X a ga) (hb:PDW X (.BoolOp .Or (b :: rest) pos) gb):PDW X (.BoolOp .Or (a :: b :: rest) pos) (tOrD ga gb):=
 PW.imp (pw_or ha hb) fun σ H Q ⟨F,τ,R,h⟩=>tTs.of R h.bind fun k F1 H1 g x R1=>by
  cases k with
  | false=>rw [if_neg (by simp)];rw [if_neg (by simp)] at g;exact ⟨F1,τ,R1,g.imp fun d e=>e.ext x⟩
  | true=>rw [if_pos rfl];rw [if_pos rfl] at g;exact g F1 H1 x
theorem pdt_w {e:Expr} (h:PDW X e ga):PDT X e ga:=PW.pt h
theorem zU9 (ha:PDT X a ga):PDT X (.UnaryOp .Not a pos) (tNotD ga):=
 PT.imp (pt_not ha) fun σ H Q z_=>by obtain ⟨F,τ,R,h⟩:=z_;exact tTs.of R h.bind fun k F1 H1 g x R1=>g F1 H1 x
noncomputable def eIf (g:FT) (fa fb:FE):FE:=fun τ=>(g τ).bind fun b=>if b = true then fa τ else fb τ
theorem pde_if (hc:PDT X c ga) (ha:PDE X a fa) (hb:PDE X b fb):PDE X (.IfExp c a b pos) (eIf ga fa fb):=
 PE.imp (pe_ifExp hc ha hb) fun σ H Q ⟨F,τ,R,h⟩=>tTs.of R h.bind fun k F1 H1 g x R1=>by
  cases k with
  | true=>rw [if_pos rfl];rw [if_pos rfl] at g;exact ⟨F1,τ,R1,g.imp fun d e=>e.ext x⟩
  | false=>rw [if_neg (by simp)];rw [if_neg (by simp)] at g;exact ⟨F1,τ,R1,g.imp fun d e=>e.ext x⟩
noncomputable def eAnd (fa fb:FE):FE:=fun τ=>(fa τ).bind fun x=>(truD x).bind fun b=>if b = true then fb τ else .ok x
noncomputable def eOr (fa fb:FE):FE:=fun τ=>(fa τ).bind fun x=>(truD x).bind fun b=>if b = true then .ok x else fb τ
noncomputable def eNot (fa:FE):FE:=fun τ=>(fa τ).bind fun x=>(truD x).bind fun b=>.ok (.bl (!b))
theorem zx5 {op} (h:PDE X a fa):PDE X (.BoolOp op [a] pos) fa:=pe_one h
theorem zL5 (ha:PDE X a fa) (hb:PDE X (.BoolOp .And (b :: rest) pos) fb):PDE X (.BoolOp .And (a :: b :: rest) pos) (eAnd fa fb):=by
 rintro pins s σ H Q I ⟨F,τ,R,h⟩
 refine BoolOp_and (thn (ha pins s σ H _ I (tE.of R h.bind fun d v F1 H1 g x R1 r=>(⟨d,F1,g,x,R1,r⟩:∃ d F1,Ok X ((truD d).bind fun b=>if b = true then fb τ else .ok d) (Ev X.K F H Q)∧Ext F H F1 H1∧RV X.K F1 τ σ H1∧Rep X.K F1 d v))) fun v s1 z_=>?_)
 obtain ⟨x,H1,I1,r1,d,F1,g,x1,R1,r⟩:=z_
 refine thn (tru_ok pins s1 σ H1 x v (fun b H2=>H2 = H1∧Ok X (if b = true then fb τ else .ok d) (Ev X.K F H Q)) I1 r1 (ye7 (Q:=fun b H2=>H2 = H1∧Ok X (if b = true then fb τ else .ok d) (Ev X.K F H Q)) R1.fh r (g.bind.imp fun b e=>⟨rfl,e⟩))) fun k s2 z_=>?_
 obtain ⟨H2,I2,e2,q⟩:=z_
 subst e2
 cases k with
 | true=>rw [if_pos rfl] at q ⊢;exact hb pins s2 σ _ Q I2 ⟨F1,τ,R1,q.imp fun d e=>e.ext x1⟩
 | false=>rw [if_neg (by simp)] at q ⊢;exact ⟨x,_,I2,r1,q x F1 _ x1 r⟩
theorem yh5 (ha:PDE X a fa) (hb:PDE X (.BoolOp .Or (b :: rest) pos) fb):PDE X (.BoolOp .Or (a :: b :: rest) pos) (eOr fa fb):=by
 rintro pins s σ H Q I ⟨F,τ,R,h⟩
 refine BoolOp_or (thn (ha pins s σ H _ I (tE.of R h.bind fun d v F1 H1 g x R1 r=>(⟨d,F1,g,x,R1,r⟩:∃ d F1,Ok X ((truD d).bind fun b=>if b = true then .ok d else fb τ) (Ev X.K F H Q)∧Ext F H F1 H1∧RV X.K F1 τ σ H1∧Rep X.K F1 d v))) fun v s1 z_=>?_)
 obtain ⟨x,H1,I1,r1,d,F1,g,x1,R1,r⟩:=z_
 refine thn (tru_ok pins s1 σ H1 x v (fun b H2=>H2 = H1∧Ok X (if b = true then .ok d else fb τ) (Ev X.K F H Q)) I1 r1 (ye7 (Q:=fun b H2=>H2 = H1∧Ok X (if b = true then .ok d else fb τ) (Ev X.K F H Q)) R1.fh r (g.bind.imp fun b e=>⟨rfl,e⟩))) fun k s2 z_=>?_
 obtain ⟨H2,I2,e2,q⟩:=z_
 subst e2
 cases k with
 | false=>rw [if_neg (by simp)] at q ⊢;exact hb pins s2 σ _ Q I2 ⟨F1,τ,R1,q.imp fun d e=>e.ext x1⟩
 | true=>rw [if_pos rfl] at q ⊢;exact ⟨x,_,I2,r1,q x F1 _ x1 r⟩
end
section
variable {X:Cx} {pos:Pos} {e:Expr} {es:List Expr} {fe:FE} {fs:FA}
noncomputable def aNil:FA:=fun _=>.ok []
noncomputable def aCons (f:FE) (g:FA):FA:=fun τ=>(f τ).bind fun x=>(g τ).bind fun r=>.ok (x :: r)
theorem za4:PDA X [] aNil:=PA.imp zY5 fun σ H Q z_=>by obtain ⟨F,τ,R,h⟩:=z_;exact h [] F H (Ext.refl R.fh) Reps.nil
theorem za1 (ha:PDE X e fe) (hr:PDA X es fs) (hs:starEach (e :: es) X.env = (false,eval e X.env) :: starEach es X.env:=by rfl):PDA X (e :: es) (aCons fe fs):=
 PA.imp (zL6 ha hr hs) fun σ H Q ⟨F,τ,R,h⟩=>tE.of R h.bind fun x v F1 H1 g x1 R1 r1=>tAs.of R1 g.bind fun ys vs F2 H2 g2 x2 R2 r2=>
  g2 (v :: vs) F2 H2 (x1.trans x2) (Reps.cons (r1.mono x2.ff) r2)
noncomputable def eTup (f:FA):FE:=fun τ=>(f τ).bind fun ds=>if ds.length≤sizeLine then .ok (.tup ds) else .no
noncomputable def eLst (f:FA):FE:=fun τ=>(f τ).bind fun ds=>if ds.length≤sizeLine then .ok (.lst ds) else .no
theorem zl6 {X:Cx} {α:Type} {c:Prop} [Decidable c] {a:α} {P:α→Prop} (h:Ok X (if c then .ok a else .no) P):c∧P a:=by
 by_cases z:c
 ·rw [if_pos z] at h;exact ⟨z,h⟩
 ·rw [if_neg z] at h;exact h.elim
theorem zr4 {x1} (h:PDA X es fs):PDE X (.Tuple es x1 pos) (eTup fs):=
 PE.imp (pe_tup h) fun σ H Q ⟨F,τ,R,hq⟩=>tAs.of R hq.bind fun ds vs F1 H1 g x R1 r=>by
  obtain ⟨z,g⟩:=zl6 g
  refine ⟨by rw [← r.length];exact z,fun p hp=>g (.ref p) _ _ (x.trans (Ext.new R1.fh hp)) ?_⟩
  simp only [Rep]
  exact ⟨p,vs,rfl,SqT.of ze6,r.mono (zk0 (zh1 R1.fh hp))⟩
theorem zs3 (h:PDA X es fs):PDE X (.List es pos) (eLst fs):=
 PE.imp (pe_lst h) fun σ H Q ⟨F,τ,R,hq⟩=>tAs.of R hq.bind fun ds vs F1 H1 g x R1 r=>by
  obtain ⟨z,g⟩:=zl6 g
  refine ⟨by rw [← r.length];exact z,fun p hp=>g (.ref p) _ _ (x.trans (Ext.new R1.fh hp)) ?_⟩
  simp only [Rep]
  exact ⟨p,vs,rfl,ze6,r.mono (zk0 (zh1 R1.fh hp))⟩
end
inductive Fl where
 | nx (τ:DS) | rt (d:D) | bk (τ:DS) | ct (τ:DS) | ex (c:Str) | no
 | rs (c:Str) (τ:DS)
 | ro (d:D) (τ:DS)
 | rb (i:Nat) (τ:DS)
noncomputable def Nw (X:Cx) (H:Hp) (b:Addr):Prop:=H b = none∧X.s₀.heap.get? b = none∧∀ p∈X.pn,p.1≠b
noncomputable def ExcAt (X:Cx) (H:Hp) (h:Heap) (a:Addr) (cls:Value):Prop:=Nw X H a∧∃ oe vs,h.get? a = some oe∧oe.cls = cls∧oe.dict = none∧oe.data = .fields vs ∧
 (vs[1]? = some .none∨∃ T oT ts,vs[1]? = some (.ref T)∧Nw X H T∧T≠a∧h.get? T = some oT∧oT.data = .fields ts∧ts[3]? = some .none)∧vs[2]? = some .none
noncomputable def XA (X:Cx) (c:Str) (σ:St) (H:Hp):Prop:=∀ s a cls,PySem.W.nsIn X.K mainGlobals c = some (some cls)→Inv X [] σ H s→ExcAt X H s.heap a cls→X.xe (.ref a) s
noncomputable abbrev FS:=DS→Fl
noncomputable def Post (X:Cx) (B Z F:Hp) (E:Ends):Fl→Prop
 | .nx τ=>∀ σ F' H',Same F F'→RS X.K B Z F' τ σ H'→E.nx σ H'
 | .bk τ=>∀ σ F' H',Same F F'→RS X.K B Z F' τ σ H'→E.bk σ H'
 | .ct τ=>∀ σ F' H',Same F F'→RS X.K B Z F' τ σ H'→E.ct σ H'
 | .rt d=>∀ v F' H',Ext Z B F' H'→Rep X.K F' d v→E.rt v H'
 | .ex c=>Xob X c
 | .no=>False
 | .rs c τ=>∀ σ F' H',Same F F'→RS X.K B Z F' τ σ H'→XA X c σ H'
 | .ro d τ=>∀ v σ F' H',Same F F'→RS X.K B Z F' τ σ H'→Rep X.K F' d v→E.rt v H'
 | .rb i τ=>∀ v σ F' H',Same F F'→RS X.K B Z F' τ σ H'→σ[i]? = some (some v)→E.rt v H'
theorem Post.same {X:Cx} {B Z F F1:Hp} {E:Ends} {r:Fl} (h:Post X B Z F E r) (f:Same F F1):Post X B Z F1 E r:=by
 cases r with
 | nx τ=>exact fun σ F' H' g R=>h σ F' H' (f.trans g) R
 | bk τ=>exact fun σ F' H' g R=>h σ F' H' (f.trans g) R
 | ct τ=>exact fun σ F' H' g R=>h σ F' H' (f.trans g) R
 | rt d=>exact h
 | ex c=>exact h
 | no=>exact h
 | rs c τ=>exact fun σ F' H' g R=>h σ F' H' (f.trans g) R
 | ro d τ=>exact fun v σ F' H' g R r=>h v σ F' H' (f.trans g) R r
 | rb i τ=>exact fun v σ F' H' g R r=>h v σ F' H' (f.trans g) R r
noncomputable def tS (X:Cx) (f:FS):TS:=fun E σ H=>∃ B Z F τ,RS X.K B Z F τ σ H∧Post X B Z F E (f τ)
noncomputable def PDS (X:Cx) (st:Stmt) (f:FS):Prop:=PS X st (tS X f)
noncomputable def PDSs (X:Cx) (st:List Stmt) (f:FS):Prop:=PSs X st (tS X f)
noncomputable def Fl.of {α:Type} (r:Rs α) (k:α→Fl):Fl:=match r with
 | .ok a=>k a
 | .ex c=>.ex c
 | .no=>.no
@[simp] theorem Fl.of_ok {α:Type} (a:α) (k:α→Fl):Fl.of (.ok a) k = k a:=rfl
theorem Post.of {X:Cx} {B Z F:Hp} {E:Ends} {α:Type} {r:Rs α} {k:α→Fl} (h:Post X B Z F E (Fl.of r k)):Ok X r fun a=>Post X B Z F E (k a):=by
 cases r <;> exact h
section
variable {X:Cx} {pos:Pos} {e:Expr} {es:List Expr} {fe:FE} {fs:FA} {st:Stmt} {rest:List Stmt} {f g:FS} {c:Expr} {gc:FT}
noncomputable def sNext:FS:=fun τ=>.nx τ
noncomputable def sSeq (f g:FS):FS:=fun τ=>match f τ with
 | .nx τ'=>g τ'
 | r=>r
theorem zh9:PDSs X [] sNext:=PSs.imp pss_nil fun E σ H z_=>by obtain ⟨B,Z,F,τ,R,h⟩:=z_;exact h σ F H (Same.refl F) R
theorem zb0 (h:PDS X st f):PDSs X [st] f:=pss_one h
theorem za5 (h1:PDS X st f) (h2:PDSs X rest g):PDSs X (st :: rest) (sSeq f g):=
 PSs.imp (pss_cons h1 h2) fun E σ H z_=>by
  obtain ⟨B,Z,F,τ,R,h⟩:=z_
  refine ⟨B,Z,F,τ,R,?_⟩
  unfold sSeq at h
  cases q:f τ with
  | nx τ'=>rw [q] at h;exact fun σ' F' H' ff R'=>⟨B,Z,F',τ',R',Post.same h ff⟩
  | rt d=>rw [q] at h;exact h
  | bk d=>rw [q] at h;exact h
  | ct d=>rw [q] at h;exact h
  | ex d=>rw [q] at h;exact h
  | no=>rw [q] at h;exact h
  | rs c d=>rw [q] at h;exact h
  | ro c d=>rw [q] at h;exact h
  | rb c d=>rw [q] at h;exact h
noncomputable def sRet (fe:FE):FS:=fun τ=>Fl.of (fe τ) fun d=>.rt d
theorem tE.at {B Z F H:Hp} {τ:DS} {σ:St} {Q:VK} {G:D→Prop} (R:RS X.K B Z F τ σ H) (h:Ok X (fe τ) G)
  (k:∀ d v F1 H1,G d→Ext F H F1 H1→RS X.K B Z F1 τ σ H1→Rep X.K F1 d v→Q v H1):tE X fe σ H Q:=
 tE.of R.rv h fun d v F1 H1 g x _ r=>k d v F1 H1 g x (R.ext x) r
theorem ze4 (he:PDE X e fe):PDS X (.Return (some e) pos) (sRet fe):=
 PS.imp (ps_ret he) fun E σ H z_=>by obtain ⟨B,Z,F,τ,R,h⟩:=z_;exact tE.at R h.of fun d v F1 H1 g x R1 r=>g v F1 H1 R1.out r
noncomputable def sIf (gc:FT) (f g:FS):FS:=fun τ=>Fl.of (gc τ) fun b=>if b = true then f τ else g τ
theorem zm6 {a b:List Stmt} (hc:PDT X c gc) (ha:PDSs X a f) (hb:PDSs X b g):PDS X (.If c a b pos) (sIf gc f g):=
 PS.imp (ps_if hc ha hb) fun E σ H ⟨B,Z,F,τ,R,h⟩=>tTs.of R.rv h.of fun k F1 H1 q x _=>by
  cases k with
  | true=>rw [if_pos rfl] at q ⊢;exact ⟨B,Z,F1,τ,R.ext x,q.same x.ff⟩
  | false=>rw [if_neg (by simp)] at q ⊢;exact ⟨B,Z,F1,τ,R.ext x,q.same x.ff⟩
theorem RV.set {K:PySem.W.Frag} {F H:Hp} {τ:DS} {σ:St} {i:Nat} {d:D} {v:V} (R:RV K F τ σ H) (r:Rep K F d v):RV K F (τ.set i (some (.val d))) (σ.set i (some v)) H:=by
 refine ⟨R.fh,by simp [R.len],fun j e h=>?_,fun j es h=>?_,fun j k ds es a hjk h1 h2 h3 h4=>?_,?_,?_⟩
 ·by_cases hij:i = j
  ·subst hij
   have hlt:i < τ.length:=by
    rcases Nat.lt_or_ge i τ.length with z | z
    ·exact z
    ·rw [List.getElem?_eq_none_iff.mpr (by simpa using z)] at h;cases h
   rw [List.getElem?_set_self hlt] at h
   cases h
   exact ⟨v,by rw [List.getElem?_set_self (by rw [← R.len];exact hlt)],r⟩
  ·rw [List.getElem?_set_ne hij] at h ⊢
   exact R.val j e h
 ·by_cases hij:i = j
  ·subst hij
   rw [List.getElem?_set] at h
   simp only [if_true] at h
   split at h <;> cases h
  ·rw [List.getElem?_set_ne hij] at h ⊢
   exact R.own j es h
 ·have n1:i≠j:=fun z=>by
   subst z
   rw [List.getElem?_set] at h1
   simp only [if_true] at h1
   split at h1 <;> cases h1
  have n2:i≠k:=fun z=>by
   subst z
   rw [List.getElem?_set] at h2
   simp only [if_true] at h2
   split at h2 <;> cases h2
  rw [List.getElem?_set_ne n1] at h1 h3
  rw [List.getElem?_set_ne n2] at h2 h4
  exact R.dis j k ds es a hjk h1 h2 h3 h4
 ·exact R.tt
 ·exact R.ob.put rfl fun _ _ z=>by cases z
theorem RS.set {K:PySem.W.Frag} {B Z F H:Hp} {τ:DS} {σ:St} {i:Nat} {d:D} {v:V} (R:RS K B Z F τ σ H) (r:Rep K F d v):RS K B Z F (τ.set i (some (.val d))) (σ.set i (some v)) H:=
 ⟨R.rv.set r,R.bh,R.zf,R.nb,fun j ds a h1 h2=>by
  have n1:i≠j:=fun z=>by
   subst z
   rw [List.getElem?_set] at h1
   simp only [if_true] at h1
   split at h1 <;> cases h1
  rw [List.getElem?_set_ne n1] at h1 h2
  exact R.ob j ds a h1 h2,fun j m c fs a h1 h2=>by
  obtain ⟨n,h1⟩:=zl5 (s:=some (.val d)) rfl rfl h1
  rw [List.getElem?_set_ne n] at h2
  exact R.oo j m c fs a h1 h2,fun a0 dx b1 b2 j m c fs h=>by
  obtain ⟨n,h⟩:=zl5 (s:=some (.val d)) rfl rfl h
  rw [List.getElem?_set_ne n]
  exact R.sf a0 dx b1 b2 j m c fs h,fun j c fs a h1 h2=>by
  obtain ⟨n,h1⟩:=zl5 (s:=some (.val d)) rfl rfl h1
  rw [List.getElem?_set_ne n] at h2
  exact R.ro j c fs a h1 h2⟩
noncomputable def sSet (i:Nat) (fe:FE):FS:=fun τ=>Fl.of (fe τ) fun d=>.nx (τ.set i (some (.val d)))
theorem zc2 {i:Nat} {x:Str} {pos':Pos} (hN:X.N.Nodup) (hi:X.N[i]? = some x) (hx:Loc X.env.scope x) (he:PDE X e fe) (hs:swapsWith e (some (.Name x pos')) pos.line X.env = pure false:=by rfl) (hf:X.fn x = true∨X.env.scope.names.lookup x = some .local:=by first | exact .inl rfl | exact .inr rfl | assumption) :
  PDS X (.Assign [.Name x pos'] e pos) (sSet i fe):=
 PS.imp (ps_set hN hi hx he hs hf) fun E σ H z_=>by obtain ⟨B,Z,F,τ,R,h⟩:=z_;exact tE.at R h.of fun d v F1 H1 g x R1 r=>g _ F1 H1 x.ff (R1.set r)
noncomputable def tFr (X:Cx) (f:FA):TE:=fun σ H Q=>∃ F τ,RV X.K F τ σ H∧Ok X (f τ) fun ds=>∀ p vs F' H',Ext F H F' H'→H' p = none→Reps X.K F' ds vs→Q (.ref p) (upd H' p (.lst vs))
noncomputable def PDF (X:Cx) (e:Expr) (f:FA):Prop:=PE X e (tFr X f)
theorem zE4 (h:PDA X es fs):PDF X (.List es pos) (fun τ=>(fs τ).bind fun ds=>if ds.length≤sizeLine then .ok ds else .no):=
 PE.imp (pe_lst h) fun σ H Q ⟨F,τ,R,hq⟩=>tAs.of R hq.bind fun ds vs F1 H1 g x R1 r=>by
  obtain ⟨z,g⟩:=zl6 g
  exact ⟨by rw [← r.length];exact z,fun p hp=>g p vs F1 H1 x hp r⟩
theorem zs9 {ff:FA} (h:PDF X e ff):PDE X e (fun τ=>(ff τ).bind fun ds=>.ok (.lst ds)):=
 PE.imp h fun σ H Q ⟨F,τ,R,hq⟩=>⟨F,τ,R,hq.bind.imp fun ds g p vs F1 H1 x hp r=>by
  refine g (.ref p) _ _ (x.trans (Ext.new x.fh hp)) ?_
  simp only [Rep]
  exact ⟨p,vs,rfl,ze6,r.mono (zk0 (zh1 x.fh hp))⟩⟩
noncomputable def sSetO (i:Nat) (ff:FA):FS:=fun τ=>Fl.of (ff τ) fun ds=>.nx (τ.set i (some (.own ds)))
theorem RV.setO {K:PySem.W.Frag} {F H:Hp} {τ:DS} {σ:St} {i:Nat} {p:Addr} {ds:List D} {vs:List V} (R:RV K F τ σ H) (hp:H p = none) (r:Reps K F ds vs):RV K F (τ.set i (some (.own ds))) (σ.set i (some (.ref p))) (upd H p (.lst vs)):=by
 have nofr:=zh1 R.fh hp
 have hlt:∀ {o:Sl},(τ.set i (some (.own ds)))[i]? = some (some o)→i < τ.length:=fun {o} h=>by
  rcases Nat.lt_or_ge i τ.length with z | z
  ·exact z
  ·rw [List.getElem?_eq_none_iff.mpr (by simpa using z)] at h;cases h
 refine ⟨R.fh.trans (zk0 hp),by simp [R.len],fun j e h=>?_,fun j es h=>?_,fun j k es es' a hjk h1 h2 h3 h4=>?_,?_,?_⟩
 ·by_cases hij:i = j
  ·subst hij
   rw [List.getElem?_set_self (hlt h)] at h;cases h
  ·rw [List.getElem?_set_ne hij] at h ⊢
   exact R.val j e h
 ·by_cases hij:i = j
  ·subst hij
   have l:=hlt h
   rw [List.getElem?_set_self l] at h
   cases h
   exact ⟨p,vs,by rw [List.getElem?_set_self (by rw [← R.len];exact l)],ze6,nofr,r⟩
  ·rw [List.getElem?_set_ne hij] at h ⊢
   obtain ⟨a,ws,q1,q2,q3,q4⟩:=R.own j es h
   exact ⟨a,ws,q1,by rw [ze2 (zg4 q2 hp)];exact q2,q3,q4⟩
 ·by_cases n1:i = j
  ·subst n1
   rw [List.getElem?_set_ne hjk] at h2 h4
   obtain ⟨a',ws,q1,q2,q3,q4⟩:=R.own k es' h2
   rw [q1] at h4;cases h4
   have l:=hlt h1
   rw [List.getElem?_set_self (by rw [← R.len];exact l)] at h3
   cases h3
   rw [hp] at q2;cases q2
  ·by_cases n2:i = k
   ·subst n2
    rw [List.getElem?_set_ne (Ne.symm hjk)] at h1 h3
    obtain ⟨a',ws,q1,q2,q3,q4⟩:=R.own j es h1
    rw [q1] at h3;cases h3
    have l:=hlt h2
    rw [List.getElem?_set_self (by rw [← R.len];exact l)] at h4
    cases h4
    rw [hp] at q2;cases q2
   ·rw [List.getElem?_set_ne n1] at h1 h3
    rw [List.getElem?_set_ne n2] at h2 h4
    exact R.dis j k es es' a hjk h1 h2 h3 h4
 ·exact R.tt.step (fun _ _ e=>.inl e) (fun b o e _=>by rw [ze2 (zg4 e hp)];exact e) (zI1 fun _ z=>nomatch z)
 ·have o1:ObsOk K F (τ.set i (some (.own ds))) (σ.set i (some (.ref p))) H:=R.ob.put rfl fun _ l _ z=>by
   cases z;exact R.ob.fresh hp
  exact o1.updL (.inl hp) (o1.fresh hp)
theorem RS.setO {K:PySem.W.Frag} {B Z F H:Hp} {τ:DS} {σ:St} {i:Nat} {p:Addr} {ds:List D} {vs:List V} (R:RS K B Z F τ σ H) (hp:H p = none) (r:Reps K F ds vs):RS K B Z F (τ.set i (some (.own ds))) (σ.set i (some (.ref p))) (upd H p (.lst vs)):=
 ⟨R.rv.setO hp r,R.bh.trans (.of (zk0 hp)),R.zf,R.nb,fun j es a h1 h2=>by
  by_cases n1:i = j
  ·subst n1
   have l:i < τ.length:=by
    rcases Nat.lt_or_ge i τ.length with z | z
    ·exact z
    ·rw [List.getElem?_eq_none_iff.mpr (by simpa using z)] at h1;cases h1
   rw [List.getElem?_set_self (by rw [← R.rv.len];exact l)] at h2
   cases h2
   exact zt6 R.bh hp
  ·rw [List.getElem?_set_ne n1] at h1 h2
   exact R.ob j es a h1 h2,fun j m c fs a h1 h2=>by
  obtain ⟨n,h1⟩:=zl5 (s:=some (.own ds)) rfl rfl h1
  rw [List.getElem?_set_ne n] at h2
  rw [R.rv.ob.lof (.inl ⟨m,fs,h1⟩) h2 (.inl hp)]
  exact R.oo j m c fs a h1 h2,fun a0 dx b1 b2 j m c fs h=>by
  obtain ⟨n,h⟩:=zl5 (s:=some (.own ds)) rfl rfl h
  rw [List.getElem?_set_ne n]
  exact R.sf a0 dx b1 b2 j m c fs h,fun j c fs a h1 h2=>by
  obtain ⟨n,h1⟩:=zl5 (s:=some (.own ds)) rfl rfl h1
  rw [List.getElem?_set_ne n] at h2
  exact R.ro j c fs a h1 h2⟩
theorem zy8 {i:Nat} {x:Str} {pos':Pos} {ff:FA} (hN:X.N.Nodup) (hi:X.N[i]? = some x) (hx:Loc X.env.scope x) (he:PDF X e ff) (hs:swapsWith e (some (.Name x pos')) pos.line X.env = pure false:=by rfl) (hf:X.fn x = true∨X.env.scope.names.lookup x = some .local:=by first | exact .inl rfl | exact .inr rfl | assumption) :
  PDS X (.Assign [.Name x pos'] e pos) (sSetO i ff):=
 PS.imp (ps_set hN hi hx he hs hf) fun E σ H z_=>by obtain ⟨B,Z,F,τ,R,h⟩:=z_;exact ⟨F,τ,R.rv,h.of.imp fun ds g p vs F1 H1 x hp r=>g _ F1 _ x.ff ((R.ext x).setO hp r)⟩
theorem RV.own_upd {K:PySem.W.Frag} {F H:Hp} {τ:DS} {σ:St} {i:Nat} {p:Addr} {ds es:List D} {ws:List V} (R:RV K F τ σ H) (h:τ[i]? = some (some (.own ds))) (hp:σ[i]? = some (some (.ref p))) (r:Reps K F es ws) :
  RV K F (τ.set i (some (.own es))) σ (upd H p (.lst ws)):=by
 obtain ⟨a,vs,q1,q2,q3,q4⟩:=R.own i ds h
 rw [q1] at hp;cases hp
 have l:i < τ.length:=(List.getElem?_eq_some_iff.mp h).1
 refine ⟨fun b o e=>?_,by simp [R.len],fun j e h'=>?_,fun j es' h'=>?_,fun j k e1 e2 b hjk h1 h2 h3 h4=>?_,?_,?_⟩
 ·have n:b≠p:=fun z=>by subst z;rw [q3] at e;cases e
  rw [ze2 n];exact R.fh b o e
 ·by_cases hij:i = j
  ·subst hij;rw [List.getElem?_set_self l] at h';cases h'
  ·rw [List.getElem?_set_ne hij] at h';exact R.val j e h'
 ·by_cases hij:i = j
  ·subst hij
   rw [List.getElem?_set_self l] at h';cases h'
   exact ⟨p,ws,q1,ze6,q3,r⟩
  ·rw [List.getElem?_set_ne hij] at h'
   obtain ⟨a',vs',z1,z2,z3,z4⟩:=R.own j es' h'
   have n:a'≠p:=fun z=>by subst z;exact R.dis i j ds es' a' hij h h' q1 z1
   exact ⟨a',vs',z1,by rw [ze2 n];exact z2,z3,z4⟩
 ·have:∀ {m:Nat} {e:List D},(τ.set i (some (.own es)))[m]? = some (some (.own e))→∃ e',τ[m]? = some (some (.own e')):=fun {m e} z=>by
   by_cases him:i = m
   ·subst him;exact ⟨ds,h⟩
   ·rw [List.getElem?_set_ne him] at z;exact ⟨e,z⟩
  obtain ⟨x1,y1⟩:=this h1
  obtain ⟨x2,y2⟩:=this h2
  exact R.dis j k x1 x2 b hjk y1 y2 h3 h4
 ·exact R.tt.step (fun _ _ e=>.inl e) (fun b o e n=>by
   have:b≠p:=fun z=>by subst z;rw [q2] at e;cases e;exact n _ rfl
   rw [ze2 this];exact e) (zI1 fun _ z=>nomatch z)
 ·exact (R.ob.updL (.inr ⟨vs,q2⟩) fun j c a g1 g2 hl=>R.ob.lo j i c ds a p g1 h g2 q1 hl).putS h
theorem RS.own_upd {K:PySem.W.Frag} {B Z F H:Hp} {τ:DS} {σ:St} {i:Nat} {p:Addr} {ds es:List D} {ws:List V} (R:RS K B Z F τ σ H) (h:τ[i]? = some (some (.own ds))) (hp:σ[i]? = some (some (.ref p))) (r:Reps K F es ws) :
  RS K B Z F (τ.set i (some (.own es))) σ (upd H p (.lst ws)):=by
 have hb:=R.ob i ds p h hp
 refine ⟨R.rv.own_upd h hp r,fun b o e=>?_,R.zf,R.nb,fun j e a h1 h2=>?_,fun j m c fs a h1 h2=>?_,fun a0 dx b1 b2 j m c fs h=>R.sf a0 dx b1 b2 j m c fs (zl5 (s:=some (.own es)) rfl rfl h).2,fun j c fs a h1 h2=>R.ro j c fs a (zl5 (s:=some (.own es)) rfl rfl h1).2 h2⟩
 ·have n:b≠p:=fun z=>by subst z;rw [hb] at e;cases e
  rw [ze2 n];exact R.bh b o e
 ·by_cases him:i = j
  ·subst him;exact R.ob i ds a h h2
  ·rw [List.getElem?_set_ne him] at h1;exact R.ob j e a h1 h2
 ·have h1:=(zl5 (s:=some (.own es)) rfl rfl h1).2
  obtain ⟨p',vs,q1,q2,_⟩:=R.rv.own i ds h
  rw [q1] at hp;cases hp
  rw [R.rv.ob.lof (.inl ⟨m,fs,h1⟩) h2 (.inr ⟨vs,q2⟩)]
  exact R.oo j m c fs a h1 h2
noncomputable def ownAt (τ:DS) (i:Nat):Rs (List D):=match τ[i]? with
 | some (some (.own ds))=>.ok ds
 | _=>.no
theorem zw1 {τ:DS} {i:Nat} {P:List D→Prop} (h:Ok X (ownAt τ i) P):∃ ds,τ[i]? = some (some (.own ds))∧P ds:=by
 unfold ownAt at h
 cases q:τ[i]? with
 | none=>rw [q] at h;exact h.elim
 | some o=>
  cases o with
  | none=>rw [q] at h;exact h.elim
  | some sl=>
   cases sl with
   | val d=>rw [q] at h;exact h.elim
   | obj n c fs=>rw [q] at h;exact h.elim
   | obr c fs=>rw [q] at h;exact h.elim
   | own ds=>rw [q] at h;exact ⟨ds,rfl,h⟩
noncomputable def sApp (i:Nat) (fe:FE):FS:=fun τ=>Fl.of (ownAt τ i) fun ds=>Fl.of (fe τ) fun d=>if ds.length < sizeLine then .nx (τ.set i (some (.own (ds ++ [d])))) else .no
theorem zL2 {i:Nat} {x:Str} {p1 apos cpos:Pos} (hx:PE X (.Name x p1) (tVar i)) (he:PDE X e fe)
  (hfew:((backTo cpos (starEach [e] X.env)).all (fun x=>!x.1) && (backToKw cpos (keywordEach [] X.env)).all (fun x=>x.1.isSome)
   && decide ([e].length + ([]:List Keyword).length + (if ([]:List Keyword).isEmpty then 0 else 1) < 30)) = true:=by rfl)
  (hline:(apos.endLine == cpos.line) = true:=by rfl) (hs:starEach [e] X.env = [(false,eval e X.env)]:=by rfl) (hplain:(backTo cpos (starEach [] X.env)).any (·.1) = false:=by rfl)
  (hbase:attributeBase (.Name x p1) "append" X.env (eval (.Name x p1) X.env) = eval (.Name x p1) X.env:=by rfl)
  (hsw:swapsWith (.Call (.Attribute (.Name x p1) "append" apos) [e] [] cpos) none pos.line X.env = pure false:=by rfl) :
  PDS X (.Expr (.Call (.Attribute (.Name x p1) "append" apos) [e] [] cpos) pos) (sApp i fe):=
 PS.imp (yg0 (pe_bm PySem.F.plainAttrs_list PySem.F.slot_list_append PySem.F.type_list_append zR3 hx (zL6 he zY5 (by rw [hs];rfl)) hbase hfew hline (by rw [hs];rfl) hplain) hsw) fun E σ H z_=>by
  obtain ⟨B,Z,F,τ,R,h⟩:=z_
  obtain ⟨ds,h1,h2⟩:=zw1 (X:=X) (Post.of h)
  obtain ⟨a,vs,q1,q2,q3,q4⟩:=R.rv.own i ds h1
  refine ⟨_,q1,.inl ⟨rfl,vs,SqL.of q2⟩,?_⟩
  refine tE.at R h2.of fun d v F1 H1 g x R1 r=>?_
  by_cases z:ds.length < sizeLine
  ·rw [if_pos z] at g
   refine ⟨a,vs,v,rfl,rfl,x.hh _ _ q2,by rw [← q4.length];exact z,?_⟩
   exact g _ F1 _ x.ff (R1.own_upd h1 q1 ((q4.mono x.ff).append (Reps.cons r Reps.nil)))
  ·rw [if_neg z] at g;exact g.elim
noncomputable def sPut (i:Nat) (fi fe:FE):FS:=fun τ=>Fl.of (fe τ) fun d=>Fl.of (ownAt τ i) fun ds=>Fl.of (fi τ) fun k=>match k with
 | .int k=>match ixN ds.length k with
  | some j=>.nx (τ.set i (some (.own (ds.set j d))))
  | none=>.no
 | _=>.no
theorem pds_put {i:Nat} {x:Str} {p1 spos:Pos} {ix:Expr} {fi:FE} (hx:PE X (.Name x p1) (tVar i)) (hi:PDE X ix fi) (he:PDE X e fe)
  (ha:∀ v,assign (.Subscript (.Name x p1) ix spos) X.env v = (do
   let ov ← holding [v] (eval (.Name x p1) X.env)
   let iv ← holding [v,ov] (eval ix X.env)
   standAt spos
   holding [v,ov,iv] (setItem ov iv v)
   release [v,ov,iv] []):=by intro _;rfl)
  (hs:swapsWithSole [.Subscript (.Name x p1) ix spos] e pos.line X.env = pure false:=by rfl) (hw:swappedStores [.Subscript (.Name x p1) ix spos] e X.env = pure none:=by rfl)
  (h1:(assignEach [.Subscript (.Name x p1) ix spos] X.env).map (·.2) = [assign (.Subscript (.Name x p1) ix spos) X.env]:=by rfl) :
  PDS X (.Assign [.Subscript (.Name x p1) ix spos] e pos) (sPut i fi fe):=
 PS.imp (ps_asg he (pg_sub hx hi set_list ha) hs hw h1) fun E σ H z_=>by
  obtain ⟨B,Z,F,τ,R,h⟩:=z_
  refine tE.at R h.of fun d v F1 H1 g x R1 r=>?_
  obtain ⟨ds,h1,h2⟩:=zw1 (X:=X) (Post.of g)
  obtain ⟨a,vs,q1,q2,q3,q4⟩:=R1.rv.own i ds h1
  refine ⟨_,q1,?_⟩
  refine tE.at R1 h2.of fun k w F2 H2 g2 x2 R2 r2=>?_
  cases k with
  | int k=>
   simp only [Rep] at r2
   simp only at g2
   cases q:ixN ds.length k with
   | none=>rw [q] at g2;exact g2.elim
   | some j=>
    rw [q] at g2
    refine ⟨a,vs,k,j,rfl,r2,x2.hh _ _ q2,by rw [← q4.length];exact q,?_⟩
    exact g2 _ F2 _ (x.ff.trans x2.ff) (R2.own_upd h1 q1 (Reps.set (r.mono x2.ff) j (q4.mono x2.ff)))
  | _=>exact g2.elim
noncomputable def sRetO (i:Nat):FS:=fun τ=>Fl.of (ownAt τ i) fun ds=>.rt (.lst ds)
theorem zL1 {i:Nat} {x:Str} {p1:Pos} (hx:PE X (.Name x p1) (tVar i)):PDS X (.Return (some (.Name x p1)) pos) (sRetO i):=
 PS.imp (ps_ret hx) fun E σ H z_=>by
  obtain ⟨B,Z,F,τ,R,h⟩:=z_
  obtain ⟨ds,h1,h2⟩:=zw1 (X:=X) (Post.of h)
  obtain ⟨a,vs,q1,q2,q3,q4⟩:=R.rv.own i ds h1
  have hb:=R.ob i ds a h1 q1
  refine ⟨_,q1,h2 (.ref a) (upd F a (.lst vs)) H ⟨?_,R.bh,fun b o e=>?_,fun b o e=>?_,fun _=>R.rv.tt.freeze q2⟩ ?_⟩
  ·exact R.zf.trans (zk0 q3)
  ·by_cases z:b = a
   ·subst z;rw [ze6] at e;cases e;exact q2
   ·rw [ze2 z] at e;exact R.rv.fh b o e
  ·by_cases z:b = a
   ·subst z;exact .inr hb
   ·rw [ze2 z] at e;exact R.nb b o e
  ·simp only [Rep]
   exact ⟨a,vs,rfl,ze6,q4.mono (zk0 q3)⟩
noncomputable def eIxO (i:Nat) (fi:FE):FE:=fun τ=>(ownAt τ i).bind fun ds=>(fi τ).bind fun k=>match k with
 | .int k=>match atI ds k with
  | some d=>.ok d
  | none=>.no
 | _=>.no
theorem zO5 {K:PySem.W.Frag} {F:Hp} {ds:List D} {vs:List V} {k:Int} {d:D} (r:Reps K F ds vs) (h:atI ds k = some d):∃ v,atI vs k = some v∧Rep K F d v:=by
 unfold atI at h ⊢
 rw [← r.length]
 cases q:ixN ds.length k with
 | none=>rw [q] at h;cases h
 | some j=>
  rw [q] at h
  exact r.get h
theorem pde_ixO {i:Nat} {x:Str} {p1:Pos} {ix:Expr} {fi:FE} (hx:PE X (.Name x p1) (tVar i)) (hi:PDE X ix fi) (hs:zW6 ix:=by intro _ _;rfl):PDE X (.Subscript (.Name x p1) ix pos) (eIxO i fi):=
 PE.imp (pe_ix ix_list hx hi hs) fun σ H Q z_=>by
  obtain ⟨F,τ,R,h⟩:=z_
  obtain ⟨ds,h1,h2⟩:=zw1 (X:=X) (Ok.bind h)
  obtain ⟨a,vs,q1,q2,q3,q4⟩:=R.own i ds h1
  refine ⟨_,q1,?_⟩
  refine tE.of R h2.bind fun k w F2 H2 g2 x2 R2 r2=>?_
  cases k with
  | int k=>
   simp only [Rep] at r2
   simp only at g2
   cases q:atI ds k with
   | none=>rw [q] at g2;exact g2.elim
   | some d=>
    rw [q] at g2
    obtain ⟨v,z1,z2⟩:=zO5 q4 q
    exact ⟨a,vs,k,v,rfl,r2,SqL.of (x2.hh _ _ q2),z1,g2 v F2 H2 x2 (z2.mono x2.ff)⟩
  | _=>exact g2.elim
noncomputable def eLenO (i:Nat):FE:=fun τ=>(ownAt τ i).bind fun ds=>.ok (.int ds.length)
theorem zL4 {i:Nat} {x:Str} {p1 p:Pos} (hx:PE X (.Name x p1) (tVar i)) (hg:Gl X "len") (hm:X.mg "len" = none)
  (he:starEach [.Name x p1] X.env = [(false,eval (.Name x p1) X.env)]:=by rfl) (hpl:(backTo pos (starEach [] X.env)).any (·.1) = false:=by rfl):PDE X (.Call (.Name "len" p) [.Name x p1] [] pos) (eLenO i):=
 PE.imp (pe_callB call_len_seq hg hm PySem.boot_len (zL6 hx zY5 (by rw [he];rfl)) (he:=by rw [he];rfl) (hpl:=hpl)) fun σ H Q z_=>by
  obtain ⟨F,τ,R,h⟩:=z_
  obtain ⟨ds,h1,h2⟩:=zw1 (X:=X) (Ok.bind h)
  obtain ⟨a,vs,q1,q2,q3,q4⟩:=R.own i ds h1
  refine ⟨_,q1,a,vs,rfl,.inl (SqL.of q2),?_⟩
  rw [← q4.length]
  exact h2 (.int ds.length) F H (Ext.refl R.fh) (by simp only [Rep])
end
noncomputable def ItOk (K:PySem.W.Frag) (J:It) (F1:Hp) (ds:List D):Prop:=∀ (i:Nat) (F H:Hp),Same F1 F→Same F H →
 (ds.length≤i→J.stop i H)∧∀ d,ds[i]? = some d→J.go i H∧∀ x H',J.yld i H x H'→∃ F',Ext F H F' H'∧Rep K F' d x
theorem ItOk.mono {K:PySem.W.Frag} {J:It} {F1 F2:Hp} {ds:List D} (h:ItOk K J F1 ds) (f:Same F1 F2):ItOk K J F2 ds:=fun i F H a b=>h i F H (f.trans a) b
noncomputable def tI (X:Cx) (f:FA):TI:=fun σ H R=>∃ F τ,RV X.K F τ σ H∧Ok X (f τ) fun ds=>∀ J F1 H1,Ext F H F1 H1→ItOk X.K J F1 ds→R J H1
noncomputable def PDI (X:Cx) (tg iter:Expr) (f:FA):Prop:=PI X tg iter (tI X f)
theorem _root_.L2.PI.imp {X:Cx} {tg e:Expr} {t t':TI} (h:PI X tg e t) (f:∀ σ H Q,t' σ H Q→t σ H Q):PI X tg e t':=fun pins s σ H Q I q=>h pins s σ H Q I (f _ _ _ q)
section
variable {X:Cx} {pos:Pos} {e tg:Expr} {es:List Expr} {fe:FE} {fs:FA}
theorem yk9 {K:PySem.W.Frag} {a:Addr} {F1:Hp} {ds:List D} {vs:List V} (e:SqL K F1 a vs) (r:Reps K F1 ds vs):ItOk K (Itl K a) F1 ds:=fun i F H f1 f2=>by
 have q:SqL K H a vs:=(f1.trans f2).seq e
 refine ⟨fun h=>⟨vs,q,by rw [← r.length];exact h⟩,fun d hd=>?_⟩
 obtain ⟨v,h1,h2⟩:=r.get hd
 refine ⟨⟨vs,v,q,h1⟩,fun x H' y=>?_⟩
 obtain ⟨e1,y⟩:=y
 subst e1
 have h3:=y vs q
 rw [h1] at h3;cases h3
 exact ⟨F,Ext.refl f2,h2.mono f1⟩
theorem it_tup {K:PySem.W.Frag} {a:Addr} {F1:Hp} {ds:List D} {vs:List V} (e:SqT K F1 a vs) (r:Reps K F1 ds vs):ItOk K (Itt K a) F1 ds:=fun i F H f1 f2=>by
 have q:SqT K H a vs:=Same.seqT (f1.trans f2) e
 refine ⟨fun h=>⟨vs,q,by rw [← r.length];exact h⟩,fun d hd=>?_⟩
 obtain ⟨v,h1,h2⟩:=r.get hd
 refine ⟨⟨vs,v,q,h1⟩,fun x H' y=>?_⟩
 obtain ⟨e1,y⟩:=y
 subst e1
 have h3:=y vs q
 rw [h1] at h3;cases h3
 exact ⟨F,Ext.refl f2,h2.mono f1⟩
noncomputable def rngD (lo:Int) (n:Nat):List D:=(List.range n).map fun (k:Nat)=>D.int (lo + k)
theorem it_rng {K:PySem.W.Frag} {F1:Hp} {lo:Int} {n:Nat}:ItOk K (Itr lo n) F1 (rngD lo n):=fun i F H f1 f2=>by
 have hl:(rngD lo n).length = n:=by simp [rngD]
 refine ⟨fun h=>by rw [hl] at h;exact h,fun d hd=>?_⟩
 have hi:i < n:=by have:=(List.getElem?_eq_some_iff.mp hd).1;rw [hl] at this;exact this
 refine ⟨hi,fun x H' y=>?_⟩
 obtain ⟨e1,y⟩:=y
 subst e1
 refine ⟨F,Ext.refl f2,?_⟩
 simp [rngD,hi] at hd
 subst hd
 simp only [Rep];exact y
noncomputable def int1:List D→Option Int
 | [.int j]=>some j
 | _=>none
noncomputable def int2:List D→Option (Int×Int)
 | [.int i,.int j]=>some (i,j)
 | _=>none
noncomputable def pair2:D→Option (D×D)
 | .tup [x,y]=>some (x,y)
 | _=>none
theorem int1_eq {ds:List D} {j:Int} (h:int1 ds = some j):ds = [.int j]:=by
 unfold int1 at h;split at h <;> cases h;rfl
theorem zV8 {ds:List D} {i j:Int} (h:int2 ds = some (i,j)):ds = [.int i,.int j]:=by
 unfold int2 at h;split at h <;> cases h;rfl
theorem pair2_eq {d x y:D} (h:pair2 d = some (x,y)):d = .tup [x,y]:=by
 unfold pair2 at h;split at h <;> cases h;rfl
noncomputable def iRg1 (fs:FA):FA:=fun τ=>(fs τ).bind fun ds=>match int1 ds with
 | some j=>if -(2 ^ 62)≤j∧j < 2 ^ 62 then .ok (rngD 0 j.toNat) else .no
 | none=>.no
theorem zq6 {a:Expr} {p:Pos} (hg:Gl X "range") (hm:X.mg "range" = none) (ha:PDA X [a] fs) (hs:starEach [a] X.env = [(false,eval a X.env)]:=by rfl):PDI X tg (.Call (.Name "range" p) [a] [] pos) (iRg1 fs):=
 PI.imp (yg7 hg hm ha hs) fun σ H R ⟨F,τ,Rv,h⟩=>tAs.of Rv h.bind fun ds vs F1 H1 g x R1 r=>by
  cases q1:int1 ds with
  | none=>rw [q1] at g;exact g.elim
  | some j=>
   rw [q1] at g
   have e:=int1_eq q1
   subst e
   obtain ⟨v,rfl,q⟩:=r.one
   simp only [Rep] at q;subst q
   obtain ⟨z,g⟩:=zl6 g
   exact ⟨j,rfl,z.1,z.2,g _ F1 H1 x it_rng⟩
noncomputable def iRg2 (fs:FA):FA:=fun τ=>(fs τ).bind fun ds=>match int2 ds with
 | some (i,j)=>if (-(2 ^ 62)≤i∧i < 2 ^ 62)∧-(2 ^ 62)≤j∧j < 2 ^ 62 then .ok (rngD i (j - i).toNat) else .no
 | none=>.no
theorem yc9 {a b:Expr} {p:Pos} (hg:Gl X "range") (hm:X.mg "range" = none) (ha:PDA X [a,b] fs) (hs:starEach [a,b] X.env = [(false,eval a X.env),(false,eval b X.env)]:=by rfl) (hs2:starEach [b] X.env = [(false,eval b X.env)]:=by rfl) :
  PDI X tg (.Call (.Name "range" p) [a,b] [] pos) (iRg2 fs):=
 PI.imp (yg6 hg hm ha hs hs2) fun σ H R ⟨F,τ,Rv,h⟩=>tAs.of Rv h.bind fun ds vs F1 H1 g x R1 r=>by
  cases q1:int2 ds with
  | none=>rw [q1] at g;exact g.elim
  | some ij=>
   obtain ⟨i,j⟩:=ij
   rw [q1] at g
   have e:=zV8 q1
   subst e
   obtain ⟨v,w,rfl,q,q'⟩:=r.two
   simp only [Rep] at q q';subst q;subst q'
   obtain ⟨z,g⟩:=zl6 g
   exact ⟨i,j,rfl,⟨z.1.1,z.1.2,z.2.1,z.2.2⟩,g _ F1 H1 x it_rng⟩
noncomputable abbrev FG:=D→DS→Rs DS
noncomputable def tG (X:Cx) (set:FG):TG:=fun v σ H Q=>∃ F τ d,RV X.K F τ σ H∧Rep X.K F d v∧Ok X (set d τ) fun τ'=>∀ σ',RV X.K F τ' σ' H→(∀ B Z,RS X.K B Z F τ σ H→RS X.K B Z F τ' σ' H)→σ'.length = σ.length→Q σ' H
noncomputable def PDG (X:Cx) (tg:Expr) (set:FG):Prop:=PG X tg (tG X set)
theorem _root_.L2.PG.imp {X:Cx} {e:Expr} {t t':TG} (h:PG X e t) (f:∀ v σ H Q,t' v σ H Q→t v σ H Q):PG X e t':=fun pins s σ H v u Q I r q=>h pins s σ H v u Q I r (f _ _ _ _ q)
noncomputable def gNm (i:Nat):FG:=fun d τ=>.ok (τ.set i (some (.val d)))
theorem zi4 {i:Nat} {x:Str} (hN:X.N.Nodup) (hi:X.N[i]? = some x) (hx:Loc X.env.scope x) (hf:X.fn x = true∨X.env.scope.names.lookup x = some .local:=by first | exact .inl rfl | exact .inr rfl | assumption):PDG X (.Name x pos) (gNm i):=
 PG.imp (zA3 hN hi hx hf) fun v σ H Q z_=>by obtain ⟨F,τ,d,R,r,h⟩:=z_;exact h _ (R.set r) (fun B Z R'=>R'.set r) (by simp)
noncomputable def gPr (i j:Nat):FG:=fun d τ=>match pair2 d with
 | some (x,y)=>.ok ((τ.set i (some (.val x))).set j (some (.val y)))
 | none=>.no
theorem zu1 {i j k:Nat} {x y:Str} {px py:Pos} (hc:X.calm = true) (hN:X.N.Nodup) (hi:X.N[i]? = some x) (hx:Loc X.env.scope x) (hj:X.N[j]? = some y) (hy:Loc X.env.scope y)
  (hf:X.fn x = true∨X.env.scope.names.lookup x = some .local:=by first | exact .inl rfl | exact .inr rfl | assumption) (hf':X.fn y = true∨X.env.scope.names.lookup y = some .local:=by first | exact .inl rfl | exact .inr rfl | assumption) :
  PDG X (.Tuple [.Name x px,.Name y py] k pos) (gPr i j):=
 PG.imp (pg_tup (n:=2) hc (zy6 (zA3 hN hi hx hf) (zy6 (zA3 hN hj hy hf') yg8))) fun v σ H Q z_=>by
  obtain ⟨F,τ,d,R,r,h⟩:=z_
  unfold gPr at h
  cases q1:pair2 d with
  | none=>rw [q1] at h;exact h.elim
  | some xy=>
   obtain ⟨x,y⟩:=xy
   rw [q1] at h
   have e:=pair2_eq q1
   subst e
   simp only [Rep] at r
   obtain ⟨a,vs,rfl,q,t⟩:=r
   obtain ⟨v1,v2,rfl,r1,r2⟩:=t.two
   exact ⟨a,_,rfl,Same.seqT R.fh q,rfl,v1,[v2],rfl,v2,[],rfl,rfl,h _ ((R.set r1).set r2) (fun B Z R'=>(R'.set r1).set r2) (by simp)⟩
noncomputable def loopD (set:FG) (body:FS):List D→DS→Fl
 | [],τ=>.nx τ
 | d :: r,τ=>Fl.of (set d τ) fun τ1=>match body τ1 with
  | .nx τ'=>loopD set body r τ'
  | .ct τ'=>loopD set body r τ'
  | .bk τ'=>.nx τ'
  | .rt d=>.rt d
  | .ro d τ'=>.ro d τ'
  | .rb d τ'=>.rb d τ'
  | .ex c=>.ex c
  | .no=>.no
  | .rs c τ'=>.rs c τ'
noncomputable def sFor (fi:FA) (set:FG) (body:FS):FS:=fun τ=>Fl.of (fi τ) fun ds=>loopD set body ds τ
theorem zp8 {iter:Expr} {body:List Stmt} {fi:FA} {set:FG} {fb:FS} (hp:PassesOwn (model X.prog X.w) X.A X.env X.xe) (hc:X.calm = true) (hi:PDI X tg iter fi) (hg:PDG X tg set) (hb:PDSs X body fb)
  (hs:∀ x,foldedSetIterable iter X.env x = pure x:=by intro _;rfl):PDS X (.For tg iter body [] pos) (sFor fi set fb):=
 PS.imp (ps_for hp hc hi hg hb hs) fun E σ H z_=>by
  obtain ⟨B,Z,F,τ,R,h⟩:=z_
  refine ⟨F,τ,R.rv,h.of.imp fun ds g J F1 H1 x io=>?_⟩
  refine ⟨fun i m σ H=>m = ds.length - i∧i≤ds.length∧∃ F' τ',Same F1 F'∧RS X.K B Z F' τ' σ H∧Post X B Z F' E (loopD set fb (ds.drop i) τ'),⟨ds.length,by simp,Nat.zero_le _,F1,τ,Same.refl _,R.ext x,g.same x.ff⟩,?_⟩
  rintro i m σ2 H2 ⟨rfl,hi,F2,τ2,f2,R2,p2⟩
  obtain ⟨i1,i2⟩:=io i F2 H2 f2 R2.rv.fh
  by_cases hlt:i < ds.length
  ·have hd:ds.drop i = ds[i] :: ds.drop (i + 1):=List.drop_eq_getElem_cons hlt
   rw [hd] at p2
   obtain ⟨go,yl⟩:=i2 ds[i] (by simp [hlt])
   refine .inr ⟨go,fun σ' H'=>∃ F' τ',Same F2 F'∧RS X.K B Z F' τ' σ' H'∧Post X B Z F' E (loopD set fb (ds.drop (i + 1)) τ'),fun σ' H' ⟨F',τ',a,b,c⟩=>⟨ds.length - (i + 1),by omega,rfl,hlt,F',τ',f2.trans a,b,c⟩,fun y H' yy=>?_⟩
   obtain ⟨F3,x3,r3⟩:=yl y H' yy
   have R3:=R2.ext x3
   refine ⟨F3,τ2,ds[i],R3.rv,r3,(Post.of p2).imp fun τ4 p4 σ4 _ R4 _=>⟨B,Z,F3,τ4,R4 B Z R3,?_⟩⟩
   cases q:fb τ4 with
   | nx τ5=>rw [q] at p4;exact fun σ' F' H' ff RR=>⟨F',τ5,x3.ff.trans ff,RR,Post.same p4 (x3.ff.trans ff)⟩
   | ct τ5=>rw [q] at p4;exact fun σ' F' H' ff RR=>⟨F',τ5,x3.ff.trans ff,RR,Post.same p4 (x3.ff.trans ff)⟩
   | bk τ5=>rw [q] at p4;exact fun σ' F' H' ff RR=>p4 σ' F' H' (x3.ff.trans ff) RR
   | rt d=>rw [q] at p4;exact p4
   | ro d τ'=>rw [q] at p4;exact fun v σ' F' H' ff RR rr=>p4 v σ' F' H' (x3.ff.trans ff) RR rr
   | rb d τ'=>rw [q] at p4;exact fun v σ' F' H' ff RR rr=>p4 v σ' F' H' (x3.ff.trans ff) RR rr
   | ex c=>rw [q] at p4;exact p4
   | no=>rw [q] at p4;exact p4
   | rs c τ5=>rw [q] at p4;exact fun σ' F' H' ff RR=>p4 σ' F' H' (x3.ff.trans ff) RR
  ·have e:i = ds.length:=by omega
   subst e
   rw [List.drop_length] at p2
   exact .inl ⟨i1 (Nat.le_refl _),p2 σ2 F2 H2 (Same.refl _) R2⟩
end
noncomputable def noEx (r:Rs D):Rs D:=match r with
 | .ok d=>.ok d
 | _=>.no
noncomputable def spD (K:PySem.W.Frag) (n:Nat) (g:List D→Rs D):Sp:=fun vs H Q E=>vs.length = n∧∃ ds F,Same F H∧TbT F H∧Reps K F ds vs∧match g ds with
 | .ok d=>Ev K F H Q d
 | _=>False
noncomputable def zg9 (N:Nat) (ds:List D):DS:=ds.map (fun d=>some (.val d)) ++ List.replicate (N - ds.length) none
noncomputable def flRes:Fl→Rs D
 | .rt d=>.ok d
 | .ro d _=>.ok d
 | .nx _=>.ok .non
 | .rs c _=>.ex c
 | _=>.no
noncomputable def runF (N:Nat) (fb:FS) (ds:List D):Rs D:=flRes (fb (zg9 N ds))
theorem zX5 {K:PySem.W.Frag} {F H:Hp} {N:List Str} {ds:List D} {vs:List V} (fh:Same F H) (tt:TbT F H) (r:Reps K F ds vs):RS K H F F (zg9 N.length ds) (L2.start N vs) H:=by
 have hl:=r.length
 have hval:∀ (i:Nat) (o:Sl),(zg9 N.length ds)[i]? = some (some o)→∃ d,ds[i]? = some d∧o = .val d:=fun i o h=>by
  unfold zg9 at h
  by_cases hi:i < ds.length
  ·rw [List.getElem?_append_left (by simpa using hi),List.getElem?_map] at h
   cases e:ds[i]? with
   | none=>rw [e] at h;cases h
   | some d=>rw [e] at h;cases h;exact ⟨d,rfl,rfl⟩
  ·rw [List.getElem?_append_right (by simpa using hi),List.getElem?_replicate] at h
   split at h <;> cases h
 refine ⟨⟨fh,?_,fun i d h=>?_,fun i es h=>?_,fun i j es es' a _ h1 _ _ _=>?_,tt,ObsOk.none fun i s h=>?_⟩,Hh.refl H,Same.refl F,fun a o e=>.inl e,fun i es a h1 _=>?_,fun i m c fs a h1 _=>?_,fun a0 dx _ _ j m c fs h1=>?_,fun j c fs a h1 _=>?_⟩
 ·simp [zg9,L2.start,hl]
 ·obtain ⟨d',h1,h2⟩:=hval i _ h
  cases h2
  obtain ⟨v,q1,q2⟩:=r.get h1
  refine ⟨v,?_,q2⟩
  have hi:i < vs.length:=(List.getElem?_eq_some_iff.mp q1).1
  unfold L2.start
  rw [List.getElem?_append_left (by simpa using hi),List.getElem?_map,q1];rfl
 ·obtain ⟨_,_,h2⟩:=hval i _ h;cases h2
 ·obtain ⟨_,_,h2⟩:=hval i _ h1;cases h2
 ·cases s with
  | none=>rfl
  | some o=>obtain ⟨_,_,h2⟩:=hval i _ h;rw [h2];rfl
 ·obtain ⟨_,_,h2⟩:=hval i _ h1;cases h2
 ·obtain ⟨_,_,h2⟩:=hval i _ h1;cases h2
 ·obtain ⟨_,_,h2⟩:=hval j _ h1;cases h2
 ·obtain ⟨_,_,h2⟩:=hval j _ h1;cases h2
section
variable {P:Program} {w:World} {K:PySem.W.Frag} {mg:Str→Option Value} {base:Heap}
theorem fnD {x qual:Str} {st:Stmt} {f:Addr} {fd:FuncData} {N ps:List Str} {k n:Nat} {fb:FS} (F:Fun K x qual st f fd) (S:zf1 N ps (za7 st)) (hn:ps.length = n)
  (hbody:∀ (cdv:Value) (A:Around) (outer:List Env) (s:Shared) (H:Hp) (E:XK),Room k (A.deeper (envOfC qual (za7 st) s.heap.objs.size f cdv)) →
   PDSs (cxOf CX0 P w K mg base N qual (za7 st) f cdv A outer s H E).nox (zd8 st) fb):FnOk P w K mg base CX0 (k + 1) f fd ps (spD K n (runF N.length fb)):=by
 refine F.ok S (fun vs H Q E h=>by rw [hn];exact h.1) fun cdv A outer s H vs Q E hr h=>⟨_,hbody cdv A outer s H E hr,?_⟩
 obtain ⟨hl,ds,Fz,fh,tt,r,h⟩:=h
 refine ⟨H,Fz,Fz,zg9 N.length ds,zX5 fh tt r,?_⟩
 unfold runF at h
 cases q:fb (zg9 N.length ds) with
 | nx τ=>rw [q] at h;exact fun σ F' H' ff RR=>h .non F' H' RR.out (by simp only [Rep])
 | rt d=>rw [q] at h;exact fun v F' H' x rr=>h v F' H' x rr
 | ro d τ=>rw [q] at h;exact fun v σ F' H' ff RR rr=>h v F' H' RR.out rr
 | rb d τ=>rw [q] at h;exact h.elim
 | bk τ=>rw [q] at h;exact h.elim
 | ct τ=>rw [q] at h;exact h.elim
 | ex c=>rw [q] at h;exact h.elim
 | no=>rw [q] at h;exact h.elim
 | rs c τ=>rw [q] at h;exact h.elim
theorem FnD.to {CX:CXT} {f:Addr} {fd:FuncData} {ps:List Str} {k n:Nat} {g g':List D→Rs D} (F:FnOk P w K mg base CX k f fd ps (spD K n g)) (h:∀ ds d,ds.length = n→g' ds = .ok d→g ds = .ok d):FnOk P w K mg base CX k f fd ps (spD K n g'):=
 F.imp fun vs H Q E ⟨hl,ds,Fz,fh,tt,r,q⟩=>⟨hl,ds,Fz,fh,tt,r,by
  cases e:g' ds with
  | ok d=>rw [e] at q;rw [h ds d (by rw [r.length];exact hl) e];exact q
  | ex c=>rw [e] at q;exact q.elim
  | no=>rw [e] at q;exact q.elim⟩
end
section
variable {X:Cx} {pos:Pos} {e tg:Expr} {es:List Expr} {fe:FE} {fs:FA}
noncomputable def eCall (g:List D→Rs D) (fs:FA):FE:=fun τ=>(fs τ).bind fun ds=>noEx (g ds)
theorem pde_call {k n:Nat} {f:Addr} {fd:FuncData} {ps:List Str} {g:List D→Rs D} {x:Str} {p:Pos} (F:FnOk X.prog X.w X.K X.mg X.base CX0 k f fd ps (spD X.K n g)) (hr:Room k X.A) (hg:Gl X x) (hm:X.mg x = some (.ref f)) (hk:PySem.W.keepIn X.K (.ref f) = true) (hb:Binds X.K fd ps [])
  (ha:PDA X (e :: es) fs) (hn:(e :: es).length = n) (hfs:∀ τ ds,fs τ = .ok ds→ds.length = (e :: es).length) (hdb:(x == ("__debug__" : Str)) = false:=by decide) (he:starEach (e :: es) X.env = (false,eval e X.env) :: starEach es X.env:=by rfl) (hpl:(backTo pos (starEach es X.env)).any (·.1) = false:=by rfl) :
  PDE X (.Call (.Name x p) (e :: es) [] pos) (eCall g fs):=
 PE.imp (pe_call F hr hg hm hk hb .nil (E:=E0) pass0 ha hdb he hpl) fun σ H Q z_=>by
  obtain ⟨Fz,τ,R,h⟩:=z_
  have hb:=h.bind
  refine ⟨Fz,τ,R,?_⟩
  cases q:fs τ with
  | no=>rw [q] at hb;exact hb
  | ex c=>rw [q] at hb;exact hb
  | ok ds=>
   rw [q] at hb
   intro vs F1 H1 x r
   rw [List.append_nil]
   refine ⟨by rw [← r.length,hfs τ ds q,hn],ds,F1,x.fh,x.tt R.tt,r,?_⟩
   have hb:Ok X (noEx (g ds)) (Ev X.K Fz H Q):=hb
   cases z:g ds with
   | ok d=>rw [z] at hb;exact Ev.ext hb x
   | ex c=>rw [z] at hb;exact hb.elim
   | no=>rw [z] at hb;exact hb.elim
theorem zb4 (τ:DS) (ds:List D) (h:aNil τ = .ok ds):ds.length = 0:=by cases h;rfl
theorem za2 {f:FE} {g:FA} {n:Nat} (hg:∀ τ ds,g τ = .ok ds→ds.length = n) (τ:DS) (ds:List D) (h:aCons f g τ = .ok ds):ds.length = n + 1:=by
 unfold aCons at h
 cases q:f τ with
 | no=>rw [q] at h;cases h
 | ex c=>rw [q] at h;cases h
 | ok d=>
  rw [q] at h
  cases q2:g τ with
  | no=>rw [q2] at h;cases h
  | ex c=>rw [q2] at h;cases h
  | ok r=>rw [q2] at h;cases h;simp [hg τ r q2]
noncomputable def CallD (X:Cx) (f:Value) (g:List D→Rs D):Prop:=∃ r,CallR X f r∧∀ F H vs ds Q,Same F H→Reps X.K F ds vs→Ok X (g ds) (Ev X.K F H Q)→r vs H Q
noncomputable def eBlt (g:List D→Rs D) (fs:FA):FE:=fun τ=>(fs τ).bind g
theorem zf2 {id:String} {x:Str} {p:Pos} {g:List D→Rs D} (hc:CallD X (.builtin id) g) (hg:Gl X x) (hm:X.mg x = none) (hv:bootBuiltins x = some (.builtin id)) (ha:PDA X (e :: es) fs) (hn:x ≠ "__name__" := by decide) (hdb:(x == ("__debug__" : Str)) = false:=by decide)
  (he:starEach (e :: es) X.env = (false,eval e X.env) :: starEach es X.env:=by rfl) (hpl:(backTo pos (starEach es X.env)).any (·.1) = false:=by rfl):PDE X (.Call (.Name x p) (e :: es) [] pos) (eBlt g fs):=by
 obtain ⟨r,h1,h2⟩:=hc
 exact PE.imp (L2.pe_callB h1 hg hm hv ha hn hdb he hpl) fun σ H Q z_=>by obtain ⟨Fz,τ,R,h⟩:=z_;exact tAs.of R h.bind fun ds vs F1 H1 q x R1 rr=>h2 F1 H1 vs ds Q R1.fh rr (q.imp fun d e=>e.ext x)
theorem zH8 {id:String} {x:Str} {p:Pos} {g:List D→Rs D} (hc:CallD X (.type id) g) (hg:Gl X x) (hm:X.mg x = none) (hv:bootBuiltins x = some (.type id)) (ha:PDA X (e :: es) fs) (hn:x ≠ "__name__" := by decide) (hdb:(x == ("__debug__" : Str)) = false:=by decide)
  (he:starEach (e :: es) X.env = (false,eval e X.env) :: starEach es X.env:=by rfl) (hpl:(backTo pos (starEach es X.env)).any (·.1) = false:=by rfl):PDE X (.Call (.Name x p) (e :: es) [] pos) (eBlt g fs):=by
 obtain ⟨r,h1,h2⟩:=hc
 exact PE.imp (L2.pe_callTy h1 hg hm hv ha hn hdb he hpl) fun σ H Q z_=>by obtain ⟨Fz,τ,R,h⟩:=z_;exact tAs.of R h.bind fun ds vs F1 H1 q x R1 rr=>h2 F1 H1 vs ds Q R1.fh rr (q.imp fun d e=>e.ext x)
noncomputable def IxD (X:Cx) (op:D→D→Rs D):Prop:=∃ r:R2,IxR X r∧∀ F H x y dx dy Q,Same F H→Rep X.K F dx x→Rep X.K F dy y→Ok X (op dx dy) (Ev X.K F H Q)→r x y H Q
theorem zg7 {a b:Expr} {fa fb:FE} {op:D→D→Rs D} (hr:IxD X op) (ha:PDE X a fa) (hb:PDE X b fb) (hs:zW6 b:=by intro _ _;rfl):PDE X (.Subscript a b pos) (eOp op fa fb):=by
 obtain ⟨r,h1,h2⟩:=hr
 exact PE.imp (pe_ix h1 ha hb hs) (op_of h2)
noncomputable def ixD:D→D→Rs D
 | .lst ds,.int k=>match atI ds k with
  | some d=>.ok d
  | none=>.no
 | .tup ds,.int k=>match atI ds k with
  | some d=>.ok d
  | none=>.no
 | .scr ns,.int k=>match atI ns k with
  | some d=>.ok (.int d)
  | none=>.no
 | .str x,.int k=>match atI x.cps.toList k with
  | some c=>if x.length≤sizeLine then .ok (.str ⟨#[c]⟩) else .no
  | none=>.no
 | _,_=>.no
theorem atI_map {α β:Type} {f:α→β} {xs:List α} {k:Int} {a:α} (h:atI xs k = some a):atI (xs.map f) k = some (f a):=by
 unfold atI at h ⊢
 rw [List.length_map]
 cases q:ixN xs.length k with
 | none=>rw [q] at h;cases h
 | some j=>
  rw [q] at h
  have h:xs[j]? = some a:=h
  show (xs.map f)[j]? = _
  rw [List.getElem?_map,h];rfl
theorem ix_ok:IxD X ixD:=⟨_,ix_seq,fun F H x y dx dy Q fh r1 r2 h=>by
 cases dx with
 | lst ds=>
  cases dy with
  | int k=>
   simp only [Rep] at r1 r2;obtain ⟨a,vs,rfl,q,t⟩:=r1;subst r2
   simp only [ixD] at h
   cases z:atI ds k with
   | none=>rw [z] at h;exact h.elim
   | some d=>
    rw [z] at h
    obtain ⟨v,z1,z2⟩:=zO5 t z
    exact .inl ⟨a,vs,k,v,rfl,rfl,SqL.of (fh _ _ q),z1,h v F H (Ext.refl fh) z2⟩
  | _=>exact h.elim
 | tup ds=>
  cases dy with
  | int k=>
   simp only [Rep] at r1 r2;obtain ⟨a,vs,rfl,q,t⟩:=r1;subst r2
   simp only [ixD] at h
   cases z:atI ds k with
   | none=>rw [z] at h;exact h.elim
   | some d=>
    rw [z] at h
    obtain ⟨v,z1,z2⟩:=zO5 t z
    exact .inr (.inl ⟨a,vs,k,v,rfl,rfl,Same.seqT fh q,z1,h v F H (Ext.refl fh) z2⟩)
  | _=>exact h.elim
 | scr ns=>
  cases dy with
  | int k=>
   simp only [Rep] at r1 r2;obtain ⟨a,rfl,q⟩:=r1;subst r2
   simp only [ixD] at h
   cases z:atI ns k with
   | none=>rw [z] at h;exact h.elim
   | some d=>
    rw [z] at h
    exact .inl ⟨a,_,k,.int d,rfl,rfl,fh.seq q,atI_map z,h (.int d) F H (Ext.refl fh) (by simp only [Rep])⟩
  | _=>exact h.elim
 | str x=>
  cases dy with
  | int k=>
   simp only [Rep] at r1 r2;subst r1;subst r2
   simp only [ixD] at h
   cases z:atI x.cps.toList k with
   | none=>rw [z] at h;exact h.elim
   | some c=>
    rw [z] at h
    obtain ⟨z2,h⟩:=zl6 h
    exact .inr (.inr ⟨x,k,c,rfl,rfl,z2,z,h _ F H (Ext.refl fh) (by simp only [Rep])⟩)
  | _=>exact h.elim
 | _=>cases dy <;> exact h.elim⟩
end
mutual
noncomputable def toPy:D→PyData
 | .non=>.none
 | .bl b=>.bool b
 | .int i=>.int i
 | .str x=>.str x
 | .lst ds=>.list (toPys ds)
 | .tup ds=>.tuple (toPys ds)
 | .scr ns=>.list (ns.map .int)
 | .raw _=>.none
 | .exc _=>.none
noncomputable def toPys:List D→List PyData
 | []=>[]
 | d :: r=>toPy d :: toPys r
end
mutual
noncomputable def zp7:D→Bool
 | .lst ds=>plainDs ds
 | .tup ds=>plainDs ds
 | .raw _=>false
 | .exc _=>false
 | _=>true
noncomputable def plainDs:List D→Bool
 | []=>true
 | d :: r=>zp7 d && plainDs r
end
theorem zy5 {h:Heap}:∀ {ns:List Int} {us:List Value},Vals (ns.map V.int) us→ReadsAll h us (ns.map .int) []
 | [],_,.nil=>.nil
 | n :: ns,_,.cons r t=>by
  obtain ⟨tk,rfl⟩:=r
  exact .cons (as:=[]) (bs:=[]) (.int n tk) (zy5 t)
section
variable {X:Cx} {pins:List (Addr×Obj)} {σ:St} {F H:Hp} {s:Shared}
mutual
theorem zr9 (I:Inv X pins σ H s) (fh:Same F H):∀ (d:D) {v:V} {u:Value},Rep X.K F d v→RelV v u→zp7 d = true→∃ as,Reads s.heap u (toPy d) as
 | .non,v,u,r,rv,_=>by simp only [Rep] at r;subst r;cases rv;exact ⟨[],.none⟩
 | .bl b,v,u,r,rv,_=>by simp only [Rep] at r;subst r;cases rv;exact ⟨[],.bool b⟩
 | .int i,v,u,r,rv,_=>by simp only [Rep] at r;subst r;obtain ⟨t,rfl⟩:=rv;exact ⟨[],.int i t⟩
 | .str x,v,u,r,rv,_=>by simp only [Rep] at r;subst r;obtain ⟨t,rfl⟩:=rv;exact ⟨[],.str x t⟩
 | .lst ds,v,u,r,rv,hp=>by
  simp only [Rep] at r;obtain ⟨a,vs,rfl,q,t⟩:=r
  cases rv
  obtain ⟨its,rr,⟨o,n,e,c,_,dd⟩,_⟩:=I.list (SqL.of (K:=X.K) (fh _ _ q))
  obtain ⟨as,ra⟩:=readss_of I fh ds t rr (by simpa only [zp7] using hp)
  exact ⟨a :: as,by rw [toPy];exact .list e c dd (by simpa using ra)⟩
 | .tup ds,v,u,r,rv,hp=>by
  simp only [Rep] at r;obtain ⟨a,vs,rfl,q,t⟩:=r
  cases rv
  obtain ⟨its,rr,⟨o,e,c,n,dd⟩,_⟩:=I.tuple (Same.seqT fh q)
  obtain ⟨as,ra⟩:=readss_of I fh ds t rr (by simpa only [zp7] using hp)
  exact ⟨as,by rw [toPy];exact .tuple e c dd (by simpa using ra)⟩
 | .scr ns,v,u,r,rv,hp=>by
  simp only [Rep] at r;obtain ⟨a,rfl,q⟩:=r
  cases rv
  obtain ⟨its,rr,⟨o,n,e,c,_,dd⟩,_⟩:=I.list (fh.seq q)
  exact ⟨[a],by rw [toPy];exact .list e c dd (by simpa using zy5 rr)⟩
 | .raw w,v,u,r,rv,hp=>by simp [zp7] at hp
 | .exc w,v,u,r,rv,hp=>by simp [zp7] at hp
theorem readss_of (I:Inv X pins σ H s) (fh:Same F H):∀ (ds:List D) {vs:List V} {us:List Value},Reps X.K F ds vs→Vals vs us→plainDs ds = true→∃ as,ReadsAll s.heap us (toPys ds) as
 | [],vs,us,r,rv,_=>by simp only [Reps] at r;subst r;cases rv;exact ⟨[],by rw [toPys];exact .nil⟩
 | d :: ds,vs,us,r,rv,hp=>by
  simp only [Reps] at r
  obtain ⟨v,r',rfl,q,t⟩:=r
  simp only [plainDs,Bool.and_eq_true] at hp
  cases rv with
  | cons r1 r2=>
   obtain ⟨as,h1⟩:=zr9 I fh d q r1 hp.1
   obtain ⟨bs,h2⟩:=readss_of I fh ds t r2 hp.2
   exact ⟨as ++ bs,by rw [toPys];exact .cons h1 h2⟩
end
end
noncomputable def okD (d:D):Bool:=zp7 d && (toPy d).canLay0 && decide ((toPy d).depth≤60)
theorem zv2 {d:D} (h:okD d = true):zp7 d = true∧(toPy d).canLay0 = true∧(toPy d).depth≤60:=by
 simpa [okD,and_assoc] using h
noncomputable def eqvD (d e:D):Bool:=PyData.eqv (toPy d) (toPy e)
noncomputable def eqD:D→D→Rs D
 | .str x,.str y=>.ok (.bl (x == y))
 | .int x,.int y=>.ok (.bl (x == y))
 | d,e=>if okD d = true∧okD e = true then .ok (.bl (eqvD d e)) else .no
noncomputable def neD:D→D→Rs D
 | .str x,.str y=>.ok (.bl (!(x == y)))
 | .int x,.int y=>.ok (.bl (!(x == y)))
 | d,e=>if okD d = true∧okD e = true then .ok (.bl (!eqvD d e)) else .no
section
variable {X:Cx}
noncomputable def rDeep (K:PySem.W.Frag) (b:D→D→Bool):R2:=fun x y H Q=>∃ F d e,Same F H∧Rep K F d x∧Rep K F e y∧okD d = true∧okD e = true∧Q (.bl (b d e)) H
theorem yi3 (hu:X.A.units + 64 < cLine):OpR X (compareOp .Eq) (rDeep X.K eqvD):=by
 intro pins s σ H x y v u Q I rx ry h
 obtain ⟨F,d,e,fh,r1,r2,o1,o2,q⟩:=h
 obtain ⟨p1,c1,e1⟩:=zv2 o1
 obtain ⟨p2,c2,e2⟩:=zv2 o2
 obtain ⟨as,h1⟩:=zr9 I fh d r1 rx p1
 obtain ⟨bs,h2⟩:=zr9 I fh e r2 ry p2
 exact SeqAt.compareEq_reads h1 h2 c1 c2 (by omega) ⟨.bl _,H,I,rfl,q⟩
theorem yi1 (hu:X.A.units + 64 < cLine):OpR X (compareOp .NotEq) (rDeep X.K fun d e=>!eqvD d e):=by
 intro pins s σ H x y v u Q I rx ry h
 obtain ⟨F,d,e,fh,r1,r2,o1,o2,q⟩:=h
 obtain ⟨p1,c1,e1⟩:=zv2 o1
 obtain ⟨p2,c2,e2⟩:=zv2 o2
 obtain ⟨as,h1⟩:=zr9 I fh d r1 rx p1
 obtain ⟨bs,h2⟩:=zr9 I fh e r2 ry p2
 exact SeqAt.compareNe_reads h1 h2 c1 c2 (by omega) ⟨.bl _,H,I,rfl,q⟩
theorem zq4 (hu:X.A.units + 64 < cLine):OpD X (compareOp .Eq) eqD:=⟨_,op_eq.or (yi3 hu),fun F H x y dx dy Q fh r1 r2 h=>by
 have gen:(Ok X (if okD dx = true∧okD dy = true then .ok (.bl (eqvD dx dy)) else .no) (Ev X.K F H Q))→rEq x y H Q∨rDeep X.K eqvD x y H Q:=fun h=>by
  obtain ⟨z,h⟩:=zl6 h
  exact .inr ⟨F,dx,dy,fh,r1,r2,z.1,z.2,h _ F H (Ext.refl fh) (by simp only [Rep])⟩
 cases dx with
 | str a=>
  cases dy with
  | str b=>
   simp only [Rep] at r1 r2;subst r1;subst r2
   exact .inl ⟨rfl,by rw [zO2];exact h _ F H (Ext.refl fh) (by simp only [Rep])⟩
  | _=>exact gen h
 | int a=>
  cases dy with
  | int b=>
   simp only [Rep] at r1 r2;subst r1;subst r2
   exact .inl ⟨rfl,by rw [zO3];exact h _ F H (Ext.refl fh) (by simp only [Rep])⟩
  | _=>exact gen h
 | _=>exact gen h⟩
theorem zH9 (hu:X.A.units + 64 < cLine):OpD X (compareOp .NotEq) neD:=⟨_,op_ne.or (yi1 hu),fun F H x y dx dy Q fh r1 r2 h=>by
 have gen:(Ok X (if okD dx = true∧okD dy = true then .ok (.bl (!eqvD dx dy)) else .no) (Ev X.K F H Q))→rNe x y H Q∨rDeep X.K (fun d e=>!eqvD d e) x y H Q:=fun h=>by
  obtain ⟨z,h⟩:=zl6 h
  exact .inr ⟨F,dx,dy,fh,r1,r2,z.1,z.2,h _ F H (Ext.refl fh) (by simp only [Rep])⟩
 cases dx with
 | str a=>
  cases dy with
  | str b=>
   simp only [Rep] at r1 r2;subst r1;subst r2
   exact .inl ⟨rfl,by rw [zO2];exact h _ F H (Ext.refl fh) (by simp only [Rep])⟩
  | _=>exact gen h
 | int a=>
  cases dy with
  | int b=>
   simp only [Rep] at r1 r2;subst r1;subst r2
   exact .inl ⟨rfl,by rw [zO3];exact h _ F H (Ext.refl fh) (by simp only [Rep])⟩
  | _=>exact gen h
 | _=>exact gen h⟩
noncomputable def intOp (C:Int→Int→Bool) (g:Int→Int→D):D→D→Rs D
 | .int i,.int j=>if C i j = true then .ok (g i j) else .no
 | _,_=>.no
theorem yi0 {f:Value→Value→Sem Value} {C':Int→Int→Prop} {C:Int→Int→Bool} {gv:Int→Int→V} {g:Int→Int→D} (h:OpR X f (rI C' gv)) (hc:∀ i j,C i j = true→C' i j) (hg:∀ F i j,Rep X.K F (g i j) (gv i j)):OpD X f (intOp C g):=
 ⟨_,h,fun F H x y dx dy Q fh r1 r2 q=>by
  cases dx with
  | int i=>
   cases dy with
   | int j=>
    simp only [Rep] at r1 r2;subst r1;subst r2
    obtain ⟨z,q⟩:=zl6 q
    exact ⟨i,j,rfl,rfl,hc i j z,q _ F H (Ext.refl fh) (hg F i j)⟩
   | _=>exact q.elim
  | _=>cases dy <;> exact q.elim⟩
noncomputable def zI7 (g:Int→Int→D):D→D→Rs D
 | .int i,.int j=>.ok (g i j)
 | _,_=>.no
theorem zL7 {f:Value→Value→Sem Value} {gv:Int→Int→V} {g:Int→Int→D} (h:OpR X f (rI0 gv)) (hg:∀ F i j,Rep X.K F (g i j) (gv i j)):OpD X f (zI7 g):=
 ⟨_,h,fun F H x y dx dy Q fh r1 r2 q=>by
  cases dx with
  | int i=>
   cases dy with
   | int j=>
    simp only [Rep] at r1 r2;subst r1;subst r2
    exact ⟨i,j,rfl,rfl,q _ F H (Ext.refl fh) (hg F i j)⟩
   | _=>exact q.elim
  | _=>cases dy <;> exact q.elim⟩
noncomputable def subD:=zI7 fun i j=>.int (i - j)
theorem zp2:OpD X (binaryOp .Sub) subD:=zL7 op_sub fun _ _ _=>by simp only [Rep]
noncomputable def modD:=intOp (fun _ j=>decide (0 < j)) fun i j=>.int (i % j)
theorem zA4:OpD X (binaryOp .Mod) modD:=yi0 op_mod (fun i j h=>by simpa using h) fun _ _ _=>by simp only [Rep]
noncomputable def fdivD:=intOp (fun _ j=>decide (0 < j∧j < 1073741824)) fun i j=>.int (i / j)
theorem zC9:OpD X (binaryOp .FloorDiv) fdivD:=yi0 op_fdiv (fun i j h=>by have h':0 < j∧j < 1073741824:=of_decide_eq_true h;exact h') fun _ _ _=>by simp only [Rep]
noncomputable def ltI:=zI7 fun i j=>.bl (decide (i < j))
noncomputable def leD:=zI7 fun i j=>.bl (decide (i≤j))
noncomputable def gtD:=zI7 fun i j=>.bl (decide (j < i))
noncomputable def geD:=zI7 fun i j=>.bl (decide (j≤i))
theorem opd_lt:OpD X (compareOp .Lt) ltI:=zL7 op_lt fun _ _ _=>by simp only [Rep]
theorem zY8:OpD X (compareOp .Gt) gtD:=zL7 op_gt fun _ _ _=>by simp only [Rep]
noncomputable def addD:D→D→Rs D
 | .int i,.int j=>.ok (.int (i + j))
 | .str i,.str j=>if i.length + j.length≤sizeLine then .ok (.str (i ++ j)) else .no
 | .lst i,.lst j=>if i.length + j.length≤sizeLine then .ok (.lst (i ++ j)) else .no
 | _,_=>.no
theorem zc3:OpD X (binaryOp .Add) addD:=⟨_,op_add.or (op_add_str.or op_cat),fun F H x y dx dy Q fh r1 r2 q=>by
 cases dx with
 | int i=>
  cases dy with
  | int j=>
   simp only [Rep] at r1 r2;subst r1;subst r2
   exact .inl ⟨i,j,rfl,rfl,q _ F H (Ext.refl fh) (by simp only [Rep])⟩
  | _=>exact q.elim
 | str i=>
  cases dy with
  | str j=>
   simp only [Rep] at r1 r2;subst r1;subst r2
   obtain ⟨z,q⟩:=zl6 q
   exact .inr (.inl ⟨i,j,rfl,rfl,z,q _ F H (Ext.refl fh) (by simp only [Rep])⟩)
  | _=>exact q.elim
 | lst i=>
  cases dy with
  | lst j=>
   simp only [Rep] at r1 r2
   obtain ⟨a,vs,rfl,e1,t1⟩:=r1
   obtain ⟨b,ws,rfl,e2,t2⟩:=r2
   obtain ⟨z,q⟩:=zl6 q
   refine .inr (.inr ⟨a,b,vs,ws,rfl,rfl,fh _ _ e1,fh _ _ e2,by rw [← t1.length,← t2.length];exact z,fun p hp=>q _ _ _ (Ext.new fh hp) ?_⟩)
   simp only [Rep]
   exact ⟨p,vs ++ ws,rfl,ze6,(t1.append t2).mono (zk0 (zh1 fh hp))⟩
  | _=>exact q.elim
 | _=>cases dy <;> exact q.elim⟩
noncomputable def mulD:D→D→Rs D
 | .int i,.int j=>if (-(18446744073709551616) < i∧i < 18446744073709551616)∨(-(18446744073709551616) < j∧j < 18446744073709551616) then .ok (.int (i * j)) else .no
 | .lst i,.int k=>if k < 16777216∧-16777216 < k∧i.length * k.toNat≤sizeLine then .ok (.lst (List.replicate k.toNat i).flatten) else .no
 | _,_=>.no
theorem zr5:OpD X (binaryOp .Mult) mulD:=⟨_,op_mul.or op_rep,fun F H x y dx dy Q fh r1 r2 q=>by
 cases dx with
 | int i=>
  cases dy with
  | int j=>
   simp only [Rep] at r1 r2;subst r1;subst r2
   obtain ⟨z,q⟩:=zl6 q
   refine .inl ⟨i,j,rfl,rfl,?_,q _ F H (Ext.refl fh) (by simp only [Rep])⟩
   unfold CMul
   rcases z with z | z
   ·exact .inl (by omega)
   ·exact .inr (by omega)
  | _=>exact q.elim
 | lst i=>
  cases dy with
  | int k=>
   simp only [Rep] at r1 r2
   obtain ⟨a,vs,rfl,e1,t1⟩:=r1
   subst r2
   obtain ⟨z,q⟩:=zl6 q
   refine .inr ⟨a,k,vs,rfl,rfl,fh _ _ e1,by omega,by omega,by rw [← t1.length];exact z.2.2,fun p hp=>q _ _ _ (Ext.new fh hp) ?_⟩
   simp only [Rep]
   exact ⟨p,_,rfl,ze6,(t1.rep k.toNat).mono (zk0 (zh1 fh hp))⟩
  | _=>exact q.elim
 | _=>cases dy <;> exact q.elim⟩
noncomputable def strIn (i j:Str):Bool:=!(Builtin.Str.occurrences j i 0 j.length 1).isEmpty
noncomputable def inD:D→D→Rs D
 | .str i,.str j=>.ok (.bl (strIn i j))
 | d,.lst xs=>if okD d = true∧okD (.lst xs) = true then .ok (.bl (xs.any fun y=>eqvD y d)) else .no
 | d,.tup xs=>if okD d = true∧okD (.tup xs) = true then .ok (.bl (xs.any fun y=>eqvD y d)) else .no
 | _,_=>.no
noncomputable def negD (r:D):Rs D:=match r with
 | .bl b=>.ok (.bl (!b))
 | _=>.no
noncomputable def zI0 (d e:D):Rs D:=(inD d e).bind negD
theorem zO6:∀ xs:List D,toPys xs = xs.map toPy
 | []=>rfl
 | d :: r=>by rw [toPys,zO6 r,List.map_cons]
theorem zA1 (xs:List D) (d:D):((toPys xs).any fun y=>PyData.eqv y (toPy d)) = xs.any fun y=>eqvD y d:=by
 rw [zO6,List.any_map];rfl
noncomputable def rInD (K:PySem.W.Frag) (neg:Bool):R2:=fun x y H Q=>∃ F d e xs,Same F H∧Rep K F d x∧Rep K F e y∧okD d = true∧okD e = true∧(e = .lst xs∨e = .tup xs)∧Q (.bl (if neg then !(xs.any fun y=>eqvD y d) else xs.any fun y=>eqvD y d)) H
theorem yi2 (hu:X.A.units + 128 < cLine):OpR X (compareOp .In) (rInD X.K false):=by
 intro pins s σ H x y v u Q I rx ry h
 obtain ⟨F,d,e,xs,fh,r1,r2,o1,o2,he,q⟩:=h
 obtain ⟨p1,c1,e1⟩:=zv2 o1
 obtain ⟨p2,c2,e2⟩:=zv2 o2
 obtain ⟨as,h1⟩:=zr9 I fh d r1 rx p1
 obtain ⟨bs,h2⟩:=zr9 I fh e r2 ry p2
 rcases he with rfl | rfl
 ·rw [toPy] at h2 c2 e2
  refine SeqAt.in_list_reads h2 h1 (by simpa only [PyData.canLay0] using c2) c1 (by omega) ⟨.bl _,H,I,rfl,?_⟩
  rw [zA1];exact q
 ·rw [toPy] at h2 c2 e2
  refine SeqAt.in_tuple_reads h2 h1 (by simpa only [PyData.canLay0] using c2) c1 (by omega) ⟨.bl _,H,I,rfl,?_⟩
  rw [zA1];exact q
theorem zQ6 (hu:X.A.units + 128 < cLine):OpR X (compareOp .NotIn) (rInD X.K true):=by
 intro pins s σ H x y v u Q I rx ry h
 obtain ⟨F,d,e,xs,fh,r1,r2,o1,o2,he,q⟩:=h
 obtain ⟨p1,c1,e1⟩:=zv2 o1
 obtain ⟨p2,c2,e2⟩:=zv2 o2
 obtain ⟨as,h1⟩:=zr9 I fh d r1 rx p1
 obtain ⟨bs,h2⟩:=zr9 I fh e r2 ry p2
 rcases he with rfl | rfl
 ·rw [toPy] at h2 c2 e2
  refine SeqAt.notIn_list_reads h2 h1 (by simpa only [PyData.canLay0] using c2) c1 (by omega) ⟨.bl _,H,I,rfl,?_⟩
  rw [zA1];exact q
 ·rw [toPy] at h2 c2 e2
  refine SeqAt.notIn_tuple_reads h2 h1 (by simpa only [PyData.canLay0] using c2) c1 (by omega) ⟨.bl _,H,I,rfl,?_⟩
  rw [zA1];exact q
theorem zw9 (hu:X.A.units + 128 < cLine):OpD X (compareOp .In) inD:=⟨_,op_in_str.or (yi2 hu),fun F H x y dx dy Q fh r1 r2 q=>by
 cases dy with
 | lst xs=>
  have q':Ok X (if okD dx = true∧okD (.lst xs) = true then .ok (.bl (xs.any fun y=>eqvD y dx)) else .no) (Ev X.K F H Q):=by cases dx <;> exact q
  obtain ⟨z,q⟩:=zl6 q'
  exact .inr ⟨F,dx,_,xs,fh,r1,r2,z.1,z.2,.inl rfl,q _ F H (Ext.refl fh) (by simp only [Rep];rfl)⟩
 | tup xs=>
  have q':Ok X (if okD dx = true∧okD (.tup xs) = true then .ok (.bl (xs.any fun y=>eqvD y dx)) else .no) (Ev X.K F H Q):=by cases dx <;> exact q
  obtain ⟨z,q⟩:=zl6 q'
  exact .inr ⟨F,dx,_,xs,fh,r1,r2,z.1,z.2,.inr rfl,q _ F H (Ext.refl fh) (by simp only [Rep];rfl)⟩
 | str j=>
  cases dx with
  | str i=>
   simp only [Rep] at r1 r2;subst r1;subst r2
   exact .inl ⟨i,j,rfl,rfl,q _ F H (Ext.refl fh) (by simp only [Rep,strIn])⟩
  | _=>exact q.elim
 | _=>cases dx <;> exact q.elim⟩
theorem yh9 (hu:X.A.units + 128 < cLine):OpD X (compareOp .NotIn) zI0:=⟨_,op_notin_str.or (zQ6 hu),fun F H x y dx dy Q fh r1 r2 q=>by
 have q:=Ok.bind q
 cases dy with
 | lst xs=>
  have q':Ok X (if okD dx = true∧okD (.lst xs) = true then .ok (.bl (xs.any fun y=>eqvD y dx)) else .no) (fun r=>Ok X (negD r) (Ev X.K F H Q)):=by cases dx <;> exact q
  obtain ⟨z,q⟩:=zl6 q'
  exact .inr ⟨F,dx,_,xs,fh,r1,r2,z.1,z.2,.inl rfl,q _ F H (Ext.refl fh) (by simp only [Rep];rfl)⟩
 | tup xs=>
  have q':Ok X (if okD dx = true∧okD (.tup xs) = true then .ok (.bl (xs.any fun y=>eqvD y dx)) else .no) (fun r=>Ok X (negD r) (Ev X.K F H Q)):=by cases dx <;> exact q
  obtain ⟨z,q⟩:=zl6 q'
  exact .inr ⟨F,dx,_,xs,fh,r1,r2,z.1,z.2,.inr rfl,q _ F H (Ext.refl fh) (by simp only [Rep];rfl)⟩
 | str j=>
  cases dx with
  | str i=>
   simp only [Rep] at r1 r2;subst r1;subst r2
   exact .inl ⟨i,j,rfl,rfl,q _ F H (Ext.refl fh) (by simp only [Rep,strIn])⟩
  | _=>exact q.elim
 | _=>cases dx <;> exact q.elim⟩
noncomputable def isN:D→Rs Bool
 | .non=>.ok true
 | .raw _=>.no
 | .exc _=>.no
 | _=>.ok false
noncomputable def isD (d e:D):Rs D:=match e with
 | .non=>(isN d).bind fun b=>.ok (.bl b)
 | _=>.no
noncomputable def zB5 (d e:D):Rs D:=match e with
 | .non=>(isN d).bind fun b=>.ok (.bl (!b))
 | _=>.no
theorem yl1 {F:Hp} {d:D} {v:V} {P:Bool→Prop} (r:Rep X.K F d v) (h:Ok X (isN d) P):P (decide (v = .non)):=by
 cases d with
 | non=>simp only [Rep] at r;subst r;exact h
 | bl b=>simp only [Rep] at r;subst r;exact h
 | int b=>simp only [Rep] at r;subst r;exact h
 | str b=>simp only [Rep] at r;subst r;exact h
 | lst b=>simp only [Rep] at r;obtain ⟨a,vs,rfl,_⟩:=r;exact h
 | tup b=>simp only [Rep] at r;obtain ⟨a,vs,rfl,_⟩:=r;exact h
 | scr b=>simp only [Rep] at r;obtain ⟨a,rfl,_⟩:=r;exact h
 | raw b=>exact h.elim
 | exc b=>exact h.elim
theorem zY7:OpD X (compareOp .Is) isD:=⟨_,op_isN,fun F H x y dx dy Q fh r1 r2 q=>by
 cases dy with
 | non=>simp only [Rep] at r2;exact ⟨r2,yl1 r1 (Ok.bind q) _ F H (Ext.refl fh) (by simp only [Rep])⟩
 | _=>exact q.elim⟩
theorem zQ5:OpD X (compareOp .IsNot) zB5:=⟨_,op_notN,fun F H x y dx dy Q fh r1 r2 q=>by
 cases dy with
 | non=>simp only [Rep] at r2;have q':Ok X ((isN dx).bind fun b=>Rs.ok (D.bl (!b))) (Ev X.K F H Q):=q;have q2:=yl1 (P:=fun b=>Ok X (Rs.ok (D.bl (!b))) (Ev X.K F H Q)) r1 (Ok.bind q');exact ⟨r2,q2 _ F H (Ext.refl fh) (by simp only [Rep])⟩
 | _=>exact q.elim⟩
noncomputable def eNeg (fa:FE):FE:=fun τ=>(fa τ).bind fun d=>match d with
 | .int i=>.ok (.int (-i))
 | _=>.no
theorem zv0 {a:Expr} {pos:Pos} {fa:FE} (ha:PDE X a fa):PDE X (.UnaryOp .USub a pos) (eNeg fa):=
 PE.imp (pe_un un_neg ha) fun σ H Q ⟨F,τ,R,h⟩=>tE.of R h.bind fun d v F1 H1 g x R1 r=>by
  cases d with
  | int i=>simp only [Rep] at r;exact ⟨i,r,g _ F1 H1 x (by simp only [Rep])⟩
  | _=>exact g.elim
end
noncomputable def zl4 (env:Env) (cs:List (Str×Addr)) (y:Str×NameKind):List (Str×Addr):=if y.2 == NameKind.free then (y.1,(env.cells.lookup y.1).getD 0) :: cs else cs
noncomputable def zr8 (scope:Scope) (env:Env):List (Str×Addr):=scope.names.foldl (zl4 env) []
theorem zu3 {scope:Scope} {env:Env} (h:∀ y∈scope.names,y.2 = .free→(env.cells.lookup y.1).isSome = true):closureFor scope env = pure (zr8 scope env):=by
 unfold closureFor zr8
 generalize scope.names = names at h
 have gen:∀ (cs:List (Str×Addr)),(forIn names cs fun x r=>(do
   if (x.2 == NameKind.free) = true then do
    let c ← cellOf env x.1
    pure PUnit.unit
    pure (ForInStep.yield ((x.1,c) :: r))
   else do
    pure PUnit.unit
    pure (ForInStep.yield r)):Sem (List (Str×Addr))) = pure (names.foldl (zl4 env) cs):=by
  induction names with
  | nil=>intro cs;rfl
  | cons y r ih=>
   intro cs
   rw [List.forIn_cons,List.foldl_cons]
   by_cases hk:y.2 = .free
   ·obtain ⟨c,hc⟩:=Option.isSome_iff_exists.mp (h y List.mem_cons_self hk)
    have e:zl4 env cs y = (y.1,c) :: cs:=by simp [zl4,hk,hc]
    rw [e,← ih (fun z hz=>h z (List.mem_cons_of_mem _ hz))]
    simp only [hk,beq_self_eq_true,if_true,cellOf,hc]
    rfl
   ·have hb:(y.2 == NameKind.free) = false:=by simpa using hk
    have e:zl4 env cs y = cs:=by simp [zl4,hb]
    rw [e,← ih (fun z hz=>h z (List.mem_cons_of_mem _ hz))]
    simp only [hb,Bool.false_eq_true,if_false]
    rfl
 show ((forIn names ([]:List (Str×Addr)) fun x r=>(do
   if (x.2 == NameKind.free) = true then do
    let c ← cellOf env x.1
    pure PUnit.unit
    pure (ForInStep.yield ((x.1,c) :: r))
   else do
    pure PUnit.unit
    pure (ForInStep.yield r)):Sem (List (Str×Addr))) >>= fun s=>pure s) = _
 rw [gen []]
 rfl
theorem zG3 {env:Env} {x:Str}:∀ {names:List (Str×NameKind)} {cs:List (Str×Addr)} {c:Addr},(names.foldl (zl4 env) cs).lookup x = some c→cs.lookup x = some c∨(∃ y∈names,y.1 = x∧y.2 = .free∧c = (env.cells.lookup x).getD 0)
 | [],cs,c,h=>.inl h
 | y :: r,cs,c,h=>by
  rw [List.foldl_cons] at h
  rcases zG3 h with q | ⟨z,hz,e⟩
  ·by_cases hk:y.2 = .free
   ·have e:zl4 env cs y = (y.1,(env.cells.lookup y.1).getD 0) :: cs:=by simp [zl4,hk]
    rw [e,List.lookup_cons] at q
    by_cases hx:x = y.1
    ·subst hx
     simp at q
     exact .inr ⟨y,List.mem_cons_self,rfl,hk,q.symm⟩
    ·have hb:(x == y.1) = false:=by simpa using hx
     rw [hb] at q
     exact .inl q
   ·have hb:(y.2 == NameKind.free) = false:=by simpa using hk
    have e:zl4 env cs y = cs:=by simp [zl4,hb]
    rw [e] at q
    exact .inl q
  ·exact .inr ⟨z,List.mem_cons_of_mem _ hz,e⟩
theorem zz8 {env:Env} {x:Str}:∀ {names:List (Str×NameKind)} {cs:List (Str×Addr)},((∃ y∈names,y.1 = x∧y.2 = .free)∨∃ c,cs.lookup x = some c)→∃ c,(names.foldl (zl4 env) cs).lookup x = some c
 | [],cs,h=>by
  rcases h with ⟨y,hy,_⟩ | h
  ·cases hy
  ·exact h
 | y :: r,cs,h=>by
  rw [List.foldl_cons]
  refine zz8 ?_
  by_cases hk:y.2 = .free
  ·have e:zl4 env cs y = (y.1,(env.cells.lookup y.1).getD 0) :: cs:=by simp [zl4,hk]
   rw [e]
   by_cases hx:x = y.1
   ·subst hx;exact .inr ⟨(env.cells.lookup y.1).getD 0,by rw [List.lookup_cons];simp⟩
   ·have hb:(x == y.1) = false:=by simpa using hx
    rcases h with ⟨z,hz,e1,e2⟩ | ⟨c,hc⟩
    ·rcases List.mem_cons.mp hz with rfl | hz
     ·exact absurd e1.symm hx
     ·exact .inl ⟨z,hz,e1,e2⟩
    ·exact .inr ⟨c,by rw [List.lookup_cons,hb];exact hc⟩
  ·have hb:(y.2 == NameKind.free) = false:=by simpa using hk
   have e:zl4 env cs y = cs:=by simp [zl4,hb]
   rw [e]
   rcases h with ⟨z,hz,e1,e2⟩ | h
   ·rcases List.mem_cons.mp hz with rfl | hz
    ·exact absurd e2 hk
    ·exact .inl ⟨z,hz,e1,e2⟩
   ·exact .inr h
noncomputable def _root_.L2.Cx.comp (X:Cx) (scope:Scope) (N:List Str) (s:Shared) (H:Hp) (C:Addr) (fp:List Addr):Cx:=
 { prog:=X.prog,w:=X.w,K:=X.K,mg:=X.mg,base:=X.base,A:=X.A,N:=N,s₀:=s,H₀:=H,env:=compEnvC scope (zr8 scope X.env) C X.env,outer:=X.stack,stack:=X.stack,ex:=fp,fn:=fun _=>false,calm:=X.calm,pn:=[],xe:=fun _ _=>False }
structure zo5 (X:Cx) (scope:Scope):Prop where
 kind:scope.kind = .function
 nocell:∀ y∈scope.names,y.2≠.cell
 locs:∀ y∈scope.names,y.2 = .local→scope.names.lookup y.1 = some .local
 free:∀ y∈scope.names,y.2 = .free→X.env.kindOf y.1 = some .cell∨X.env.kindOf y.1 = some .free
theorem zs5 {env:Env}:∀ {names:List (Str×NameKind)} {x:Str},((names.map fun (n,k)=>if (k == NameKind.free && env.scope.kind == .function && env.kindOf n == some .cell) then (n,NameKind.cell) else (n,k)).lookup x = some .cell ∨
  (names.map fun (n,k)=>if (k == NameKind.free && env.scope.kind == .function && env.kindOf n == some .cell) then (n,NameKind.cell) else (n,k)).lookup x = some .free)→(∀ y∈names,y.2≠.cell)→∃ y∈names,y.1 = x∧y.2 = .free
 | [],_,h,_=>by rcases h with h | h <;> simp at h
 | (n,k) :: r,x,h,hc=>by
  have hr:∀ y∈r,y.2≠.cell:=fun y hy=>hc y (List.mem_cons_of_mem _ hy)
  rw [List.map_cons] at h
  by_cases hx:x = n
  ·subst hx
   by_cases hk:k = .free
   ·exact ⟨_,List.mem_cons_self,rfl,hk⟩
   ·have hb:(k == NameKind.free) = false:=by simpa using hk
    have hck:k≠.cell:=hc (x,k) List.mem_cons_self
    simp only [hb,Bool.false_and,Bool.false_eq_true,if_false,List.lookup_cons,beq_self_eq_true] at h
    rcases h with h | h
    ·exact absurd (Option.some.inj h) hck
    ·exact absurd (Option.some.inj h) hk
  ·have hb:(x == n) = false:=by simpa using hx
   have step:∀ q:Str×NameKind,q.1 = n→((q :: (r.map fun (n,k)=>if (k == NameKind.free && env.scope.kind == .function && env.kindOf n == some .cell) then (n,NameKind.cell) else (n,k))).lookup x) = ((r.map fun (n,k)=>if (k == NameKind.free && env.scope.kind == .function && env.kindOf n == some .cell) then (n,NameKind.cell) else (n,k)).lookup x):=fun q hq=>by
    obtain ⟨q1,q2⟩:=q
    simp only at hq
    subst hq
    rw [List.lookup_cons,hb]
   have h':((r.map fun (n,k)=>if (k == NameKind.free && env.scope.kind == .function && env.kindOf n == some .cell) then (n,NameKind.cell) else (n,k)).lookup x = some .cell∨(r.map fun (n,k)=>if (k == NameKind.free && env.scope.kind == .function && env.kindOf n == some .cell) then (n,NameKind.cell) else (n,k)).lookup x = some .free):=by
    rcases h with h | h
    ·left;exact (step _ (by show (if (k == NameKind.free && env.scope.kind == .function && env.kindOf n == some .cell) = true then (n,NameKind.cell) else (n,k)).1 = n;split <;> rfl)).symm.trans h
    ·right;exact (step _ (by show (if (k == NameKind.free && env.scope.kind == .function && env.kindOf n == some .cell) = true then (n,NameKind.cell) else (n,k)).1 = n;split <;> rfl)).symm.trans h
   obtain ⟨y,hy,e⟩:=zs5 h' hr
   exact ⟨y,List.mem_cons_of_mem _ hy,e⟩
theorem zu8 {env:Env}:∀ {names:List (Str×NameKind)} {x:Str},names.lookup x = some .free→¬ (names.map fun (n,k)=>if (k == NameKind.free && env.scope.kind == .function && env.kindOf n == some .cell) then (n,NameKind.cell) else (n,k)).lookup x = some .local
 | [],_,h=>by simp at h
 | (n,k) :: r,x,h=>by
  rw [List.map_cons]
  show ¬ List.lookup x ((if (k == NameKind.free && env.scope.kind == .function && env.kindOf n == some .cell) = true then (n,NameKind.cell) else (n,k)) :: _) = _
  rw [List.lookup_cons] at h
  by_cases hx:x = n
  ·subst hx
   simp only [beq_self_eq_true] at h
   have hk:k = .free:=Option.some.inj h
   subst hk
   split <;> simp [List.lookup_cons]
  ·have hb:(x == n) = false:=by simpa using hx
   rw [hb] at h
   split
   ·rw [List.lookup_cons,hb];exact zu8 h
   ·rw [List.lookup_cons,hb];exact zu8 h
section
variable {X:Cx} {scope:Scope} {N':List Str}
theorem zG2 (S:zo5 X scope) (ok:X.Ok) {x:Str} {c:Addr} (h:(zr8 scope X.env).lookup x = some c):X.env.cells.lookup x = some c:=by
 rcases zG3 h with q | ⟨y,hy,e1,e2,e3⟩
 ·simp at q
 ·subst e1
  obtain ⟨c',hc'⟩:=ok.has y.1 (S.free y hy e2)
  rw [hc'] at e3 ⊢
  rw [e3];rfl
theorem comp_inv {pins:List (Addr×Obj)} {σ σ':St} {H:Hp} {s:Shared} {h1:Heap} {fp:List Addr} {t:Nat} (S:zo5 X scope) (I:Inv X pins σ H s) (hfp:∀ b∈fp,FpOk X pins H b) (hlt:∀ b∈fp,b < s.heap.objs.size)
  (hn:h1.Ns s.heap.objs.size fun _=>none) (hsb:∀ b o,s.heap.get? b = some o→h1.get? b = some o) (hl:σ'.length = N'.length)
  (hσ:∀ (i:Nat) (v:V),σ'[i]? = some (some v)→∃ (x:Str) (j:Nat),N'[i]? = some x∧X.N[j]? = some x∧σ[j]? = some (some v)∧scope.names.lookup x = some .free) :
  Inv (X.comp scope N' s H s.heap.objs.size fp) [] σ' H { s with heap:=h1,toks:=t }:=by
 have hH:H s.heap.objs.size = none:=I.hok.fresh (Nat.le_refl _)
 have cl:∀ {x c},(zr8 scope X.env).lookup x = some c→X.env.cells.lookup x = some c:=fun h=>zG2 S I.ok h
 have kept:∀ {c v},s.heap.IsCell c v→h1.IsCell c v:=fun ⟨o,e,d⟩=>⟨o,hsb _ o e,d⟩
 refine ⟨⟨I.ok.mod,S.kind,I.ok.glob,I.ok.blt,Nat.le_refl _,fun x y c e1 e2=>I.ok.inj x y c (cl e1) (cl e2),fun x hx=>?_,fun x c hf _=>absurd hf (by simp [Cx.comp]),I.ok.hd,I.ok.frames,.inl rfl,fun b hb=>?_,I.bs,Nat.le_trans I.ok.bsz I.sz,fun b o e hb=>?_,fun b hb hs=>?_,I.stack,I.stkFree⟩,
  I.os.symm ▸ rfl,I.bare,Un.kept hsb,⟨_,hn,fun i x v e1 e2 e3=>?_⟩,fun x c e=>?_,hH,fun x c e=>I.freeC x c (cl e),fun p hp=>absurd (show p∈([]:List (Addr×Obj)) from hp) (by simp),I.hok.kept hsb,hl⟩
 ·have hx:(relabel scope X.env).names.lookup x = some .cell∨(relabel scope X.env).names.lookup x = some .free:=hx
  exact zz8 (.inl (zs5 hx S.nocell))
 ·have hb:b∈fp:=hb
  refine ⟨Nat.ne_of_lt (hlt b hb),fun x c e=>(hfp b hb).2.2.2.2.1 x c (cl e)⟩
 ·have hb:b∈fp:=hb
  rcases (hfp b hb).2.2.2.1 with z | z
  ·exact I.ok.noex b o e z
  ·exact absurd (Nat.lt_of_lt_of_le (Heap.lt_size e) (Nat.le_trans I.ok.bsz z)) (Nat.lt_irrefl _)
 ·have hb:b∈fp:=hb
  obtain ⟨_,f1,f2,_⟩:=hfp b hb
  rcases List.mem_cons.mp (I.stkSub b hs) with z | z
  ·exact f1 z
  ·exact f2 z
 ·obtain ⟨x',j,e4,e5,e6,e9⟩:=hσ i v e2
  have hy:=PySem.mem_of_lookup e9
  have e1':N'[i]? = some x:=e1
  rw [e1'] at e4;cases e4
  have kd:=S.free _ hy rfl
  obtain ⟨m,hm,hl⟩:=I.loc
  obtain ⟨u,ru,lk⟩:=hl j x v e5 e6 (kd.elim (fun z=>.inr (.inl z)) fun z=>.inr (.inr z))
  refine ⟨u,ru,?_⟩
  rcases lk with ⟨z,_⟩ | ⟨z,c,hc,hcell⟩
  ·rcases kd with k | k <;> rw [k] at z <;> cases z
  ·obtain ⟨c',hc'⟩:=zz8 (env:=X.env) (names:=scope.names) (cs:=[]) (x:=x) (.inl ⟨_,hy,rfl,rfl⟩)
   have:=cl hc'
   rw [hc] at this;cases this
   have e3':(relabel scope X.env).names.lookup x = some .local∨(relabel scope X.env).names.lookup x = some .cell∨(relabel scope X.env).names.lookup x = some .free:=e3
   rcases e3' with q | q | q
   ·exact absurd q (zu8 e9)
   ·exact .inr ⟨.inl q,c,hc',kept hcell⟩
   ·exact .inr ⟨.inr q,c,hc',kept hcell⟩
 ·obtain ⟨v,z⟩:=I.cell x c (cl e)
  exact ⟨v,kept z⟩
end
theorem yn2 {prog:Program} {w:World} {A:Around} {R:Result→Shared→Prop} {s:Shared} {elt target iter:Expr} {ifs:List Expr} {scope:Scope} {pos:Pos} {it acc:Value} {env:Env} (I:Nat→Shared→Prop)
  (turn:∀ n s,I n s→wpAny (model prog w) A (pyNext it) (fun r s₁=>match r with
   | none=>R (.ok .next) s₁
   | some v=>wpAny (model prog w) A (letOwnedTupleGo target it v) (fun _ s0=>wpAny (model prog w) A (assign target env v) (fun _ s₂=>
     wpAny (model prog w) A (forIn ifs true fun c r=>if r = true then do let ok ← isTrue c env (eval c env);pure (ForInStep.yield ok) else pure (ForInStep.yield r)) (fun ok s₃=>
      if ok = true then wpAny (model prog w) A (eval elt env) (fun x s₄=>
       wpAny (model prog w) A (call (.builtin "list.append") [acc,x]) (fun _ s₅=>∃ m,m < n∧I m s₅) (fun _ _=>False) s₄) (fun _ _=>False) s₃
      else ∃ m,m < n∧I m s₃) (fun _ _=>False) s₂) (fun _ _=>False) s0) (fun _ _=>False) s₁) (fun _ _=>False) s)
  (n:Nat) (h:I n s) :
  codeAny (model prog w) A (.compLoop (.ListComp elt [⟨target,iter,ifs,0⟩] scope pos) 0 it acc env) R s:=by
 refine codeAny_loop rfl I (fun n s hI=>?_) n h
 show wpAny _ A ((compTurn (.ListComp elt [⟨target,iter,ifs,0⟩] scope pos) 0 it acc env).onRaise (fun x=>do noteFrame x env;theTreesLotGoes x)) _ _ s
 refine wpAny_noted ?_
 rw [compTurn_list]
 refine wpAny_bind (wpAny_standAt (wpAny_bind (wpAny_mono (turn n s hI) (fun r s₁ h₁=>?_) fun _ _ h'=>h'.elim)))
 cases r with
 | none=>exact wpAny_pure h₁
 | some v=>
  refine wpAny_bind (wpAny_mono h₁ (fun _ s0 h0=>?_) fun _ _ h'=>h'.elim)
  refine wpAny_bind (wpAny_mono h0 (fun _ s₂ h₂=>wpAny_bind (wpAny_mono h₂ (fun ok s₃ h₃=>?_) fun _ _ h'=>h'.elim)) fun _ _ h'=>h'.elim)
  cases ok with
  | false=>exact wpAny_pure ⟨rfl,h₃⟩
  | true=>
   exact wpAny_bind (wpAny_bind (wpAny_mono h₃ (fun x s₄ h₄=>wpAny_bind (wpAny_mono h₄ (fun _ s₅ h₅=>wpAny_pure (wpAny_pure ⟨rfl,h₅⟩)) fun _ _ h'=>h'.elim)) fun _ _ h'=>h'.elim))
theorem no_tests {M:Model} {A:Around} {env:Env} {Q:Bool→Shared→Prop} {E:Value→Shared→Prop} {s:Shared} (h:Q true s) :
  wpAny M A (forIn ([]:List Expr) true fun c r=>if r = true then do let ok ← isTrue c env (eval c env);pure (ForInStep.yield ok) else pure (ForInStep.yield r)) Q E s:=wpAny_pure h
theorem one_test {M:Model} {A:Around} {env:Env} {Q:Bool→Shared→Prop} {E:Value→Shared→Prop} {s:Shared} {c:Expr} (h:wpAny M A (isTrue c env (eval c env)) Q E s) :
  wpAny M A (forIn [c] true fun c r=>if r = true then do let ok ← isTrue c env (eval c env);pure (ForInStep.yield ok) else pure (ForInStep.yield r)) Q E s:=by
 rw [List.forIn_cons]
 simp only [if_true]
 refine wpAny_bind (wpAny_bind (wpAny_mono h (fun b s' q=>wpAny_pure ?_) fun _ _ e=>e))
 exact wpAny_pure q
noncomputable def PTs (Y:Cx) (ifs:List Expr) (t:TT):Prop:=∀ (pins:List (Addr×Obj)) (s:Shared) (σ:St) (H:Hp) (Q:Bool→Hp→Prop),Inv Y pins σ H s→t σ H Q →
 wpAny (model Y.prog Y.w) Y.A (forIn ifs true fun c r=>if r = true then do let ok ← isTrue c Y.env (eval c Y.env);pure (ForInStep.yield ok) else pure (ForInStep.yield r)) (TP Y pins σ Q) Y.xe s
theorem pts_nil {Y:Cx}:PTs Y [] (fun _ H Q=>Q true H):=fun pins s σ H Q I h=>no_tests ⟨H,I,h⟩
theorem pts_one {Y:Cx} {c:Expr} {t:TT} (h:PT Y c t):PTs Y [c] t:=fun pins s σ H Q I q=>one_test (h pins s σ H Q I q)
noncomputable def tComp (s0:St→St) (wi:TI) (g:TG) (ti:TT) (te:TE):TE:=fun σ H Q=>wi σ H fun J H1=>∀ acc,H1 acc = none→∃ W:Nat→Nat→St→Hp→Prop,(∃ m,W 0 m (s0 σ) (upd H1 acc (.lst [])))∧∀ i m σ1 H,W i m σ1 H →
 (J.stop i H∧Q (.ref acc) H)∨(J.go i H∧∀ x H',J.yld i H x H'→g x σ1 H' fun σ2 H2=>ti σ2 H2 fun b H3=>
  if b = true then te σ2 H3 fun y H4=>∃ ys,H4 acc = some (.lst ys)∧ys.length < sizeLine∧∃ m',m' < m∧W (i + 1) m' σ2 (upd H4 acc (.lst (ys ++ [y]))) else ∃ m',m' < m∧W (i + 1) m' σ2 H3)
section
variable {X:Cx} {scope:Scope} {N':List Str} {tg iter elt:Expr} {ifs:List Expr} {pos:Pos} {wi:TI} {g:TG} {ti:TT} {te:TE} {s0:St→St}
theorem hok_but {P:Program} {w:World} {H:Hp} {h h':Heap} {C:Addr} (ok:HOk P w H h) (hC:H C = none) (k:∀ b o,b≠C→h.get? b = some o→h'.get? b = some o):HOk P w H h':=fun b u e=>by
 refine (ok b u e).stay (fun c v hc q=>k c v ?_ q) (fun _ q=>q) fun _ _ q=>q
 rintro rfl
 rcases hc with z | z
 ·subst z;rw [hC] at e;cases e
 ·rw [hC] at z;cases z
theorem zJ2 {pins:List (Addr×Obj)} {σ:St} {H:Hp} {s:Shared} {QQ:V→Hp→Prop} {J:It} {fp:List Addr} {it acc:Addr} {tn:Nat→Heap→Prop} {RR:Addr→Result→Shared→Prop} {E:Value→Shared→Prop} {W:Nat→Nat→St→Hp→Prop} {m0:Nat}
  (S:zo5 X scope) (hc:X.calm = true) (hl:(s0 σ).length = N'.length)
  (hσ:∀ (i:Nat) (v:V),(s0 σ)[i]? = some (some v)→∃ (x:Str) (j:Nat),N'[i]? = some x∧X.N[j]? = some x∧σ[j]? = some (some v)∧scope.names.lookup x = some .free)
  (hg:∀ s H C fp,PG (X.comp scope N' s H C fp) tg g) (ht:∀ s H C fp,PTs (X.comp scope N' s H C fp) ifs ti) (he:∀ s H C fp,PE (X.comp scope N' s H C fp) elt te)
  (I:Inv X pins σ H s) (T:Turn X.prog X.w X.K tg J fp it tn) (st:tn 0 s.heap) (hfp:∀ b∈fp,FpOk X pins H b) (hlt:∀ b∈fp,b < s.heap.objs.size) (hacc:acc < s.heap.objs.size)
  (w0:W 0 m0 (s0 σ) H) (turn:∀ i m σ1 H,W i m σ1 H→(J.stop i H∧QQ (.ref acc) H)∨(J.go i H∧∀ x H',J.yld i H x H'→g x σ1 H' fun σ2 H2=>ti σ2 H2 fun b H3=>
    if b = true then te σ2 H3 fun y H4=>∃ ys,H4 acc = some (.lst ys)∧ys.length < sizeLine∧∃ m',m' < m∧W (i + 1) m' σ2 (upd H4 acc (.lst (ys ++ [y]))) else ∃ m',m' < m∧W (i + 1) m' σ2 H3))
  (hRR:∀ s',(∃ m,s'.heap.Ns s.heap.objs.size m)→(∀ h',Heap.SameBut s.heap.objs.size s'.heap h'→EP X pins σ (fun v H'=>QQ v H'∧H' s.heap.objs.size = none) (.ref acc) { s' with heap:=h' })→RR s.heap.objs.size (.ok .next) s') :
  wpAny (model X.prog X.w) X.A (newFunctionEnv scope X.env.globals (zr8 scope X.env) [] X.env.qual none .none (some X.env)) (fun cenv s₄=>
   codeAny (model X.prog X.w) X.A (.compStart (.ListComp elt [⟨tg,iter,ifs,0⟩] scope pos) 0 (.ref it) (.ref acc) { cenv with scope:=relabel scope X.env }) (RR cenv.locals) s₄) E s:=by
 refine wpAny_newFunctionEnv S.nocell (by intro y hy;simp at hy) (fun h1 hns hsb=>?_) S.kind
 have keep3:∀ b o,s.heap.get? b = some o→h1.get? b = some o:=fun b o e=>hsb.extBut b o (Nat.ne_of_lt (Heap.lt_size e)) (Heap.get?_push_of_some _ e)
 have Y0:Inv (X.comp scope N' s H s.heap.objs.size fp) [] (s0 σ) H { s with heap:=h1,toks:=s.toks + ([]:List (Str×Value)).length }:=comp_inv S I hfp hlt hns keep3 hl hσ
 have fpY:∀ {H':Hp},(∀ b∈fp,H' b = none)→∀ b∈fp,FpOk (X.comp scope N' s H s.heap.objs.size fp) [] H' b:=fun {H'} hn b hb=>by
  obtain ⟨f0,f1,f2,f3,f4,f5⟩:=hfp b hb
  refine ⟨hn b hb,Nat.ne_of_lt (hlt b hb),fun z=>?_,.inl hb,fun x c e=>f4 x c (zG2 S I.ok e),fun p hp=>absurd (show p∈([]:List (Addr×Obj)) from hp) (by simp)⟩
  rcases List.mem_cons.mp (I.stkSub b z) with q | q
  ·exact f1 q
  ·exact f2 q
 have st1:tn 0 h1:=T.keep _ _ _ st fun b hb o e=>keep3 b o e
 have loop:∀ s3:Shared,s3 = { s with heap:=h1,toks:=s.toks + ([]:List (Str×Value)).length } →
   codeAny (model X.prog X.w) X.A (.compLoop (.ListComp elt [⟨tg,iter,ifs,0⟩] scope pos) 0 (.ref it) (.ref acc) (X.comp scope N' s H s.heap.objs.size fp).env) (RR s.heap.objs.size) s3:=by
  rintro s3 rfl
  refine yn2 (fun n s'=>∃ i σ' H',Inv (X.comp scope N' s H s.heap.objs.size fp) [] σ' H' s'∧tn i s'.heap∧(∀ b∈fp,H' b = none)∧W i n σ' H') ?_ m0 ⟨0,s0 σ,H,Y0,st1,fun b hb=>(hfp b hb).1,w0⟩
  rintro n s4 ⟨i,σ4,H4,I4,st4,fr4,w4⟩
  rcases turn i n σ4 H4 w4 with ⟨stop,qn⟩ | ⟨go,step⟩
  ·refine thn (T.done (X.comp scope N' s H s.heap.objs.size fp) rfl rfl rfl hc i [] s4 σ4 H4 _ I4 (fpY fr4) st4 stop) fun r s5 z_=>?_
   obtain ⟨hr,I5⟩:=z_
   subst hr
   obtain ⟨m5,n5,_⟩:=id I5.loc
   have hC:H4 s.heap.objs.size = none:=I5.free
   refine hRR s5 ⟨m5,n5⟩ fun h' sb=>⟨.ref acc,H4,?_,rfl,qn,hC⟩
   refine I.call' (s':={ s5 with heap:=h' }) (ch:=fp) I5.os ⟨fun b o e n hb hx=>?_,fun b o e n hb hx=>?_,fun b o e n hx=>I5.base.free b o e n hx,fun b o e hx=>?_,I5.base.tups,I5.base.frzs,I5.base.tbls⟩ (hok_but I5.hok hC fun b o hb e=>(sb.2 b hb).trans e) I5.bare fun b hb=>?_
   ·exact (sb.2 b (Nat.ne_of_lt (Heap.lt_size e))).trans (I5.base.keep b o e n hb hx)
   ·obtain ⟨sl,q⟩:=I5.base.slot b o e n hb hx
    exact ⟨sl,(sb.2 b (Nat.ne_of_lt (Heap.lt_size e))).trans q⟩
   ·obtain ⟨o',q⟩:=I5.base.there b o e hx
    exact ⟨o',(sb.2 b (Nat.ne_of_lt (Heap.lt_size e))).trans q⟩
   ·obtain ⟨f0,f1,f2,f3,f4,f5⟩:=hfp b hb
    exact ⟨f3,f1,f4,f5⟩
  ·refine thn (T.item (X.comp scope N' s H s.heap.objs.size fp) rfl rfl rfl hc i [] s4 σ4 H4 _ I4 (fpY fr4) st4 go) fun r s5 z_=>?_
   obtain ⟨u,hr,h5⟩:=z_
   subst hr
   refine thn h5 fun _ s6 z_=>?_
   obtain ⟨x,H6,I6,r6,y6,st6,fr6⟩:=z_
   have I6':=I6.pinned (fpY fr6) (T.obj _ _ st6)
   refine thn (hg _ _ _ _ _ s6 σ4 H6 x u _ I6' r6 (step x H6 y6)) fun _ s7 z_=>?_
   obtain ⟨σ7,H7,I7,q7⟩:=z_
   refine thn (ht _ _ _ _ _ s7 σ7 H7 _ I7 q7) fun ok s8 z_=>?_
   obtain ⟨H8,I8,q8⟩:=z_
   have again:∀ {s9:Shared} {H9:Hp} {m':Nat},Inv (X.comp scope N' s H s.heap.objs.size fp) ([] ++ zQ1 fp s6.heap) σ7 H9 s9→m' < n→W (i + 1) m' σ7 H9→∃ m,m < n∧∃ i σ' H',Inv (X.comp scope N' s H s.heap.objs.size fp) [] σ' H' s9∧tn i s9.heap∧(∀ b∈fp,H' b = none)∧W i m σ' H':=fun {s9 H9 m'} I9 hm w9=>by
    refine ⟨m',hm,i + 1,σ7,H9,I9.unpinned,T.keep _ _ _ st6 fun b hb o e=>(I9.pin (b,o) (List.mem_append_right _ (List.mem_append_right _ (zw4 hb e)))).1,fun b hb=>?_,w9⟩
    obtain ⟨o,e,d⟩:=T.obj _ _ st6 b hb
    exact (I9.pin (b,o) (List.mem_append_right _ (List.mem_append_right _ (zw4 hb e)))).2.1
   cases ok with
   | false=>
    rw [if_neg (by simp)] at q8
    obtain ⟨m',hm,w8⟩:=q8
    exact again I8 hm w8
   | true=>
    rw [if_pos rfl] at q8
    refine thn (he _ _ _ _ _ s8 σ7 H8 _ I8 q8) fun y s9 z_=>?_
    obtain ⟨z,H9,I9,r9,ys,e9,l9,m',hm,w9⟩:=z_
    refine thn (zR3 _ s9 σ7 H9 (.ref acc) [z] (.ref acc) [y] (fun _ H'=>H' = upd H9 acc (.lst (ys ++ [z]))) I9 rfl (.cons r9 .nil) ⟨acc,ys,z,rfl,rfl,e9,l9,rfl⟩) fun _ s10 z_=>?_
    obtain ⟨_,H10,I10,_,e10⟩:=z_
    subst e10
    exact again I10 hm w9
 exact codeAny_compStart_list (loop _ rfl) (T.self _ 0 _ _ _ st1 (loop _ rfl))
end
section
variable {X:Cx} {scope:Scope} {N':List Str} {tg iter elt:Expr} {ifs:List Expr} {pos:Pos} {wi:TI} {g:TG} {ti:TT} {te:TE} {s0:St→St}
theorem fp_lt {pins:List (Addr×Obj)} {σ:St} {H:Hp} {s:Shared} {J:It} {fp:List Addr} {it:Addr} {tn:Nat→Heap→Prop} (T:Turn X.prog X.w X.K tg J fp it tn) (st:tn 0 s.heap):∀ b∈fp,b < s.heap.objs.size:=fun b hb=>by
 obtain ⟨o,e,_⟩:=T.obj 0 _ st b hb
 exact Heap.lt_size e
theorem pe_comp (S:zo5 X scope) (hc:X.calm = true) (hl:∀ σ:St,σ.length = X.N.length→(s0 σ).length = N'.length)
  (hσ:∀ (σ:St) (i:Nat) (v:V),(s0 σ)[i]? = some (some v)→∃ (x:Str) (j:Nat),N'[i]? = some x∧X.N[j]? = some x∧σ[j]? = some (some v)∧scope.names.lookup x = some .free)
  (hi:PI X tg iter wi) (hg:∀ s H C fp,PG (X.comp scope N' s H C fp) tg g) (ht:∀ s H C fp,PTs (X.comp scope N' s H C fp) ifs ti) (he:∀ s H C fp,PE (X.comp scope N' s H C fp) elt te)
  (hs:∀ x,foldedSetIterable iter X.env x = pure x:=by intro _;rfl):PE X (.ListComp elt [⟨tg,iter,ifs,0⟩] scope pos) (tComp s0 wi g ti te):=by
 intro pins s σ H Q I h
 rw [eval_ListComp]
 have hclos:=zu3 (scope:=scope) (env:=X.env) fun y hy hk=>Option.isSome_iff_exists.mpr (I.ok.has y.1 (S.free y hy hk))
 refine wpAny_comprehension_free (use:=none) rfl hs hclos S.kind S.locs (thn (hi pins s σ H _ I h) fun x s1 h1=>thn h1 fun itv s2 h2=>?_)
 obtain ⟨it,fp,tn,J,H2,e,I2,T,st2,f2,hw⟩:=h2
 subst e
 have hf:H2 s2.heap.objs.size = none:=I2.hok.fresh (Nat.le_refl _)
 obtain ⟨W,⟨m0,w0⟩,turn⟩:=hw _ hf
 have hlt:=fp_lt (pins:=pins) (σ:=σ) (H:=H2) T st2
 refine wpAny_newObj_type ?_
 have I3:Inv X pins σ (upd H2 s2.heap.objs.size (.lst [])) { s2 with heap:=s2.heap.push { cls:=.type "list", dict:=none,data:=.seq ([]:List Value).toArray } }:=
  I2.laid (t':=s2.toks) (o:=.lst []) (fun b u e=>Heap.get?_push_of_some _ e) (Nat.le_refl _) ⟨Nat.zero_le _,[],0,.nil,Heap.get?_push_size _ rfl⟩
 have hsz:s2.heap.objs.size < (s2.heap.push { cls:=.type "list", dict:=none,data:=.seq ([]:List Value).toArray }).objs.size:=by rw [Heap.size_push];exact Nat.lt_succ_self _
 refine zJ2 (s0:=s0) (QQ:=Q) (W:=W) (m0:=m0) S hc (hl σ I2.len) (hσ σ) hg ht he I3 T (T.keep _ _ _ st2 fun b hb o e=>Heap.get?_push_of_some _ e) (fun b hb=>?_) (fun b hb=>Nat.lt_trans (hlt b hb) hsz) hsz w0 turn fun s' ⟨m,hn⟩ hq=>⟨m,hn,fun h' sb=>let ⟨v,H',I',r',q',_⟩:=hq h' sb;⟨v,H',I',r',q'⟩⟩
 obtain ⟨f0,f1,f2,f3⟩:=f2 b hb
 exact ⟨by rw [ze2 (Nat.ne_of_lt (hlt b hb))];exact f0,f1,f2,f3⟩
theorem yg1 {i:Nat} {y:Str} {py spos:Pos} (hN:X.N.Nodup) (hiN:X.N[i]? = some y) (hy:X.env.scope.names.lookup y = some .local)
  (hsw:swapsWith (.ListComp elt [⟨tg,iter,ifs,0⟩] scope pos) (some (.Name y py)) spos.line X.env = pure true)
  (S:zo5 X scope) (hc:X.calm = true) (hl:∀ σ:St,σ.length = X.N.length→(s0 σ).length = N'.length)
  (hσ:∀ (σ:St) (i:Nat) (v:V),(s0 σ)[i]? = some (some v)→∃ (x:Str) (j:Nat),N'[i]? = some x∧X.N[j]? = some x∧σ[j]? = some (some v)∧scope.names.lookup x = some .free)
  (hi:PI X tg iter wi) (hg:∀ s H C fp,PG (X.comp scope N' s H C fp) tg g) (ht:∀ s H C fp,PTs (X.comp scope N' s H C fp) ifs ti) (he:∀ s H C fp,PE (X.comp scope N' s H C fp) elt te)
  (hs:∀ x,foldedSetIterable iter X.env x = pure x:=by intro _;rfl):PS X (.Assign [.Name y py] (.ListComp elt [⟨tg,iter,ifs,0⟩] scope pos) spos) (tAsg (tComp s0 wi g ti te) (gName i)):=by
 intro pins s σ H D I h
 rw [exec_Assign_Name_used _ _ _ _ hsw]
 refine wpAny_bind (wpAny_standAt (wpAny_bind ?_))
 show wpAny _ X.A (do let _ ← comprehension (.ListComp elt [⟨tg,iter,ifs,0⟩] scope pos) scope X.env _ (newList []) false (eval iter X.env) (some (assign (.Name y py) X.env))) _ _ s
 have hclos:=zu3 (scope:=scope) (env:=X.env) fun y hy hk=>Option.isSome_iff_exists.mpr (I.ok.has y.1 (S.free y hy hk))
 refine wpAny_bind (wpAny_mono (wpAny_comprehension_free (use:=some (assign (.Name y py) X.env)) (Q:=fun _ s'=>SP X pins D .next s') rfl hs hclos S.kind S.locs
  (thn (hi pins s σ H _ I h) fun x s1 h1=>thn h1 fun itv s2 h2=>?_)) (fun _ s' hq=>wpAny_pure (wpAny_pure hq)) fun _ _ e=>e)
 obtain ⟨it,fp,tn,J,H2,e,I2,T,st2,f2,hw⟩:=h2
 subst e
 have hf:H2 s2.heap.objs.size = none:=I2.hok.fresh (Nat.le_refl _)
 obtain ⟨W,⟨m0,w0⟩,turn⟩:=hw _ hf
 have hlt:=fp_lt (pins:=pins) (σ:=σ) (H:=H2) T st2
 refine wpAny_newObj_type ?_
 have I3:Inv X pins σ (upd H2 s2.heap.objs.size (.lst [])) { s2 with heap:=s2.heap.push { cls:=.type "list", dict:=none,data:=.seq ([]:List Value).toArray } }:=
  I2.laid (t':=s2.toks) (o:=.lst []) (fun b u e=>Heap.get?_push_of_some _ e) (Nat.le_refl _) ⟨Nat.zero_le _,[],0,.nil,Heap.get?_push_size _ rfl⟩
 have hsz:s2.heap.objs.size < (s2.heap.push { cls:=.type "list", dict:=none,data:=.seq ([]:List Value).toArray }).objs.size:=by rw [Heap.size_push];exact Nat.lt_succ_self _
 refine zJ2 (s0:=s0) (QQ:=fun x H1=>gName i x σ H1 D.nx) (W:=W) (m0:=m0) S hc (hl σ I2.len) (hσ σ) hg ht he I3 T (T.keep _ _ _ st2 fun b hb o e=>Heap.get?_push_of_some _ e) (fun b hb=>?_) (fun b hb=>Nat.lt_trans (hlt b hb) hsz) hsz w0 turn fun s' ⟨m,hn⟩ hq=>?_
 ·obtain ⟨f0,f1,f2,f3⟩:=f2 b hb
  exact ⟨by rw [ze2 (Nat.ne_of_lt (hlt b hb))];exact f0,f1,f2,f3⟩
 ·obtain ⟨v,H5,I5,r5,q5,hC⟩:=hq s'.heap (.refl ..)
  have I5:Inv X pins σ H5 s':=I5
  show wpAny _ X.A (assign (.Name y py) X.env _) _ _ s'
  refine wpAny_assign_Name (zP0 I5 hN hiN (.inl hy) r5 (fun s6 I6 ⟨a,sb,ha⟩=>?_) (.inr hy))
  have lt3:=I3.lt
  have ca:∀ x c,X.env.cells.lookup x = some c→c < (s2.heap.push { cls:=.type "list", dict:=none,data:=.seq ([]:List Value).toArray }).objs.size:=fun x c e=>by
   obtain ⟨v,z⟩:=I3.cell x c e
   exact z.lt
  have hne:(s2.heap.push { cls:=.type "list", dict:=none,data:=.seq ([]:List Value).toArray }).objs.size≠a:=by
   rcases ha with rfl | ha
   ·exact Nat.ne_of_gt lt3
   ·exact Nat.ne_of_gt (ca _ _ ha)
  refine ⟨m,hn.sameBut sb hne,fun h' sb'=>⟨_,H5,?_,q5⟩⟩
  refine I6.turned (t':=s6.toks) (it:=(s2.heap.push { cls:=.type "list", dict:=none,data:=.seq ([]:List Value).toArray }).objs.size) (fun b o hb e=>(sb'.2 b hb).trans e) hC (Nat.ne_of_gt lt3) (.inr I3.sz) (fun x c e=>Nat.ne_of_lt (ca x c e)) fun p hp=>?_
  exact Nat.ne_of_lt (Heap.lt_size (I3.pin p hp).1)
end
noncomputable def compL (set:FG) (ft:FT) (fe:FE) (τ:DS):List D→Rs (List D)
 | []=>.ok []
 | d :: r=>match set d τ with
  | .ok τ1=>match ft τ1 with
   | .ok true=>match fe τ1 with
    | .ok x=>(compL set ft fe τ r).bind fun xs=>.ok (x :: xs)
    | _=>.no
   | .ok false=>compL set ft fe τ r
   | _=>.no
  | _=>.no
noncomputable def zD6:Option (Option Sl)→Option Sl
 | some (some (.val d))=>some (.val d)
 | some (some (.obr c fs))=>some (.obr c fs)
 | some (some (.obj _ c fs))=>some (.obr c fs)
 | _=>none
noncomputable def tau0 (k:Nat) (idx:List Nat) (τ:DS):DS:=List.replicate k none ++ idx.map fun j=>zD6 τ[j]?
noncomputable def sig0 (k:Nat) (idx:List Nat) (σ:St):St:=List.replicate k none ++ idx.map fun j=>(σ[j]?).join
noncomputable def eComp (k:Nat) (idx:List Nat) (fi:FA) (set:FG) (ft:FT) (fe:FE):FA:=fun τ=>(fi τ).bind fun ds=>match compL set ft fe (tau0 k idx τ) ds with
 | .ok xs=>if xs.length≤sizeLine then .ok xs else .no
 | _=>.no
noncomputable def noOwn (τ:DS):Prop:=(∀ (i:Nat) es,τ[i]?≠some (some (.own es)))∧∀ (i n:Nat) c fs,τ[i]?≠some (some (.obj n c fs))
structure SetOk (set:FG):Prop where
 ov:∀ d e τ τ1,set e τ = .ok τ1→set d τ1 = set d τ
 no:∀ d τ τ1,set d τ = .ok τ1→noOwn τ→noOwn τ1
theorem zt7 {τ:DS} {i:Nat} {d:D} (h:noOwn τ):noOwn (τ.set i (some (.val d))):=⟨fun j es e=>by
 by_cases hij:i = j
 ·subst hij
  rw [List.getElem?_set] at e
  simp only [if_true] at e
  split at e <;> cases e
 ·rw [List.getElem?_set_ne hij] at e;exact h.1 j es e,fun j n c fs e=>h.2 j n c fs (zl5 (s:=some (.val d)) rfl rfl e).2⟩
theorem zp6 (i:Nat):SetOk (gNm i):=⟨fun d e τ τ1 h=>by
 unfold gNm at h ⊢;cases h;rw [List.set_set],fun d τ τ1 h n=>by unfold gNm at h;cases h;exact zt7 n⟩
theorem zK3 (i j:Nat):SetOk (gPr i j):=⟨fun d e τ τ1 h=>by
 unfold gPr at h ⊢
 cases q:pair2 e with
 | none=>rw [q] at h;cases h
 | some xy=>
  obtain ⟨x,y⟩:=xy
  rw [q] at h;cases h
  cases q2:pair2 d with
  | none=>rfl
  | some zw=>
   obtain ⟨z,w⟩:=zw
   by_cases hij:i = j
   ·subst hij;simp [List.set_set]
   ·have e1:((τ.set i (some (.val x))).set j (some (.val y))).set i (some (.val z)) = (τ.set i (some (.val z))).set j (some (.val y)):=by
     rw [List.set_comm _ _ (Ne.symm hij),List.set_set]
    simp only
    rw [e1,List.set_set]
    , fun d τ τ1 h n=>by
 unfold gPr at h
 cases q:pair2 d with
 | none=>rw [q] at h;cases h
 | some xy=>
  obtain ⟨x,y⟩:=xy
  rw [q] at h;cases h
  exact zt7 (zt7 n)⟩
theorem zw2 (k:Nat) (idx:List Nat) (τ:DS):∀ (i:Nat) es,(tau0 k idx τ)[i]?≠some (some (.own es)):=fun i es e=>by
 unfold tau0 at e
 by_cases hi:i < k
 ·rw [List.getElem?_append_left (by simpa using hi),List.getElem?_replicate] at e
  simp [hi] at e
 ·rw [List.getElem?_append_right (by simpa using hi),List.getElem?_map] at e
  cases q:idx[i - (List.replicate k (none:Option Sl)).length]? with
  | none=>rw [q] at e;cases e
  | some j=>
   rw [q] at e
   simp only [Option.map_some,Option.some.injEq] at e
   unfold zD6 at e
   split at e <;> cases e
theorem zA6 (k:Nat) (idx:List Nat) (τ:DS):∀ (i n:Nat) c fs,(tau0 k idx τ)[i]?≠some (some (.obj n c fs)):=fun i n c fs e=>by
 unfold tau0 at e
 by_cases hi:i < k
 ·rw [List.getElem?_append_left (by simpa using hi),List.getElem?_replicate] at e
  simp [hi] at e
 ·rw [List.getElem?_append_right (by simpa using hi),List.getElem?_map] at e
  cases q:idx[i - (List.replicate k (none:Option Sl)).length]? with
  | none=>rw [q] at e;cases e
  | some j=>
   rw [q] at e
   simp only [Option.map_some,Option.some.injEq] at e
   unfold zD6 at e
   split at e <;> cases e
theorem zw3 (k:Nat) (idx:List Nat) (τ:DS):noOwn (tau0 k idx τ):=⟨zw2 k idx τ,zA6 k idx τ⟩
theorem obr_tau0 {k:Nat} {idx:List Nat} {τ:DS} {i:Nat} {c:Str} {fs:List (Str×D)} (e:(tau0 k idx τ)[i]? = some (some (.obr c fs))):∃ j,k≤i∧idx[i - k]? = some j∧((∃ n,τ[j]? = some (some (.obj n c fs)))∨τ[j]? = some (some (.obr c fs))):=by
 unfold tau0 at e
 by_cases hi:i < k
 ·rw [List.getElem?_append_left (by simpa using hi),List.getElem?_replicate] at e
  simp [hi] at e
 ·rw [List.getElem?_append_right (by simpa using hi),List.getElem?_map] at e
  simp only [List.length_replicate] at e
  cases q:idx[i - k]? with
  | none=>rw [q] at e;cases e
  | some j=>
   rw [q] at e
   simp only [Option.map_some,Option.some.injEq] at e
   unfold zD6 at e
   split at e <;> cases e
   ·exact ⟨j,by omega,rfl,.inr (by assumption)⟩
   ·exact ⟨j,by omega,rfl,.inl ⟨_,by assumption⟩⟩
theorem ObsOk.read {K:PySem.W.Frag} {F H:Hp} {τ:DS} {σ:St} (n:noOwn τ) (h:∀ (i:Nat) (c:Str) (fs:List (Str×D)),τ[i]? = some (some (.obr c fs))→∃ a C dx vs,σ[i]? = some (some (.ref a))∧H a = some (.ins C dx vs)∧PySem.W.nsIn K mainGlobals c = some (some (.ref C))∧Flds K F H c fs vs):ObsOk K F τ σ H:=
 ⟨fun i m c fs h=>absurd h (n.2 i m c fs),fun i j m c c' fs a _ h=>absurd h (n.2 i m c fs),h,fun i j m c c' fs a a' l _ h=>absurd h (n.2 i m c fs),fun i j c ds a l _ h=>absurd h (n.1 j ds)⟩
theorem RV.free_upd {K:PySem.W.Frag} {F H:Hp} {τ:DS} {σ:St} {p:Addr} {o:HO} (R:RV K F τ σ H) (n:noOwn τ) (hp:F p = none) (hl:H p = none∨∃ vs,H p = some (.lst vs)) (hq:∀ (i:Nat) (c:Str) (a:Addr),ObS τ[i]? c→σ[i]? = some (some (.ref a))→p∉Lof H c a) (ho:∀ a,o≠.own a:=by intro _ h;cases h):RV K F τ σ (upd H p o):=
 ⟨fun b u e=>by
  have:b≠p:=fun z=>by subst z;rw [hp] at e;cases e
  rw [ze2 this];exact R.fh b u e,R.len,R.val,fun i es e=>absurd e (n.1 i es),fun i j ds es a _ h=>absurd h (n.1 i ds),R.tt.step (fun _ _ e=>.inl e) (fun b o e n=>by
  have:b≠p:=fun z=>by
   subst z
   rcases hl with z | ⟨vs,z⟩
   ·rw [z] at e;cases e
   ·rw [z] at e;cases e;exact n _ rfl
  rw [ze2 this];exact e) (zI1 ho),R.ob.updL hl hq⟩
theorem RS.apart {K:PySem.W.Frag} {B Z F H:Hp} {τ:DS} {σ:St} {p:Addr} (R:RS K B Z F τ σ H) (n:noOwn τ) (hp:B p = none):∀ (i:Nat) (c:Str) (a:Addr),ObS τ[i]? c→σ[i]? = some (some (.ref a))→p∉Lof H c a:=fun i c a h e hm=>by
 rcases h with ⟨m,fs,h⟩ | ⟨fs,h⟩
 ·exact n.2 i m c fs h
 ·obtain ⟨C,dx,vs,h1,h2⟩:=R.ro i c fs a h e
  rw [Lof.ins (R.bh _ _ h1)] at hm
  obtain ⟨ws,h3⟩:=h2 p hm
  rw [hp] at h3;cases h3
theorem RS.free_upd {K:PySem.W.Frag} {B Z F H:Hp} {τ:DS} {σ:St} {p:Addr} {vs:List V} (R:RS K B Z F τ σ H) (n:noOwn τ) (hb:B p = none) (hp:F p = none) (hl:H p = none∨∃ vs,H p = some (.lst vs)):RS K B Z F τ σ (upd H p (.lst vs)):=
 ⟨R.rv.free_upd n hp hl (R.apart n hb),fun a o e=>by
  have:a≠p:=fun z=>by subst z;rw [hb] at e;cases e
  rw [ze2 this];exact R.bh a o e,R.zf,R.nb,fun i ds a h=>absurd h (n.1 i ds),fun i m c fs a h=>absurd h (n.2 i m c fs),fun a0 dx h1 h2 i m c fs h=>absurd h (n.2 i (m + 1) c fs),R.ro⟩
theorem zU6 {K:PySem.W.Frag} {F H:Hp} {τ:DS} {σ:St} (k:Nat) (idx:List Nat) (R:RV K F τ σ H):RV K F (tau0 k idx τ) (sig0 k idx σ) H:=by
 refine ⟨R.fh,by simp [tau0,sig0],fun i d e=>?_,fun i es e=>absurd e (zw2 k idx τ i es),fun i j ds es a _ h=>absurd h (zw2 k idx τ i ds),R.tt,ObsOk.read (zw3 k idx τ) fun i c fs e=>?_⟩
 rotate_left
 ·obtain ⟨j,hk,hj,h⟩:=obr_tau0 e
  have es:∀ v,σ[j]? = some (some v)→(sig0 k idx σ)[i]? = some (some v):=fun v h=>by
   unfold sig0
   rw [List.getElem?_append_right (by simpa using hk),List.getElem?_map]
   simp [hj,h]
  rcases h with ⟨n,h⟩ | h
  ·obtain ⟨a,h1,C,dx,vs,h2,_,h4,h5,_⟩:=R.ob.at_ j n c fs h
   exact ⟨a,C,dx,vs,es _ h1,h2,h4,h5⟩
  ·obtain ⟨a,C,dx,vs,h1,h2,h4,h5⟩:=R.ob.rd j c fs h
   exact ⟨a,C,dx,vs,es _ h1,h2,h4,h5⟩
 unfold tau0 at e
 unfold sig0
 by_cases hi:i < k
 ·rw [List.getElem?_append_left (by simpa using hi),List.getElem?_replicate] at e
  simp [hi] at e
 ·rw [List.getElem?_append_right (by simpa using hi),List.getElem?_map] at e
  rw [List.getElem?_append_right (by simpa using hi),List.getElem?_map]
  simp only [List.length_replicate] at e ⊢
  cases q:idx[i - k]? with
  | none=>rw [q] at e;cases e
  | some j=>
   rw [q] at e
   simp only [Option.map_some,Option.some.injEq] at e
   have:τ[j]? = some (some (.val d)):=by
    unfold zD6 at e
    split at e <;> cases e
    assumption
   obtain ⟨v,h1,h2⟩:=R.val j d this
   exact ⟨v,by simp [h1],h2⟩
theorem rs_comp {K:PySem.W.Frag} {F H:Hp} {τ:DS} {σ:St} (k:Nat) (idx:List Nat) (R:RV K F τ σ H):RS K H F F (tau0 k idx τ) (sig0 k idx σ) H:=
 ⟨zU6 k idx R,Hh.refl H,Same.refl F,fun a o e=>.inl e,fun i ds a h=>absurd h (zw2 k idx τ i ds),fun i m c fs a h=>absurd h (zA6 k idx τ i m c fs),fun a0 dx h1 h2 i m c fs h=>absurd h (zA6 k idx τ i (m + 1) c fs),fun i c fs a h e=>by
  obtain ⟨a',C,dx,vs,h1,h2,_,h5⟩:=(zU6 k idx R).ob.rd i c fs h
  rw [e] at h1;cases h1
  exact ⟨C,dx,vs,h2,fun l hl=>(h5.own hl).2⟩⟩
noncomputable def zu6 (H:Hp) (p:Addr):Hp:=fun b=>if b = p then none else H b
theorem zx7 (H:Hp) (p:Addr):zu6 H p p = none:=by unfold zu6;rw [if_pos rfl]
theorem zF9 {H:Hp} {p b:Addr} (h:b≠p):zu6 H p b = H b:=by unfold zu6;rw [if_neg h]
theorem zJ9 (H:Hp) (p:Addr) (o:HO):upd (zu6 H p) p o = upd H p o:=by
 funext b;unfold upd zu6;split <;> rfl
theorem zO0 {F1 H1 F2 Hm F5 H5:Hp} {acc:Addr} {ls:List V} (a:Ext F1 H1 F2 Hm) (hm:Hm acc = none) (b:Ext F2 (upd Hm acc (.lst ls)) F5 H5):Ext F1 H1 F5 (zu6 H5 acc)∧F5 acc = none:=by
 have hf5:F5 acc = none:=by
  cases q:F5 acc with
  | none=>rfl
  | some o=>
   rcases b.nw acc o q with z | z
   ·rw [zh1 a.fh hm] at z;cases z
   ·rw [ze6] at z;cases z
 have h1:H1 acc = none:=zt6 a.hh hm
 have ha:H5 acc = some (.lst ls):=b.hh acc _ ze6
 refine ⟨⟨a.ff.trans b.ff,fun c o e=>?_,fun c o e=>?_,fun c o e=>?_,fun t=>?_⟩,hf5⟩
 ·have n:c≠acc:=fun z=>by subst z;rw [h1] at e;cases e
  rw [zF9 n]
  exact ((a.hh.trans (.of (zk0 hm))).trans b.hh) c o e
 ·have n:c≠acc:=fun z=>by subst z;rw [hf5] at e;cases e
  rw [zF9 n];exact b.fh c o e
 ·rcases b.nw c o e with z | z
  ·exact a.nw c o z
  ·have n:c≠acc:=fun z'=>by subst z';rw [ze6] at z;cases z
   rw [ze2 n] at z
   exact .inr (zt6 a.hh z)
 ·have t2:=b.tt ((a.tt t).step (F':=F2) (H':=upd Hm acc (.lst ls)) (fun _ _ e=>.inl e) (fun c o e _=>by rw [ze2 (zg4 e hm)];exact e) (zI1 fun _ z=>nomatch z))
  exact t2.step (fun _ _ e=>.inl e) (fun c o e n=>by
   have:c≠acc:=fun z=>by subst z;rw [ha] at e;cases e;exact n _ rfl
   rw [zF9 this];exact e) fun d a e=>by
   unfold zu6 at e
   split at e
   ·cases e
   ·exact e
noncomputable def FreeOk (scope:Scope) (N:List Str):List Str→List Nat→Prop
 | [],[]=>True
 | x :: xs,j :: js=>N[j]? = some x∧scope.names.lookup x = some .free∧FreeOk scope N xs js
 | _,_=>False
theorem FreeOk.len {scope:Scope} {N:List Str}:∀ {xs:List Str} {js:List Nat},FreeOk scope N xs js→xs.length = js.length
 | [],[],_=>rfl
 | _ :: xs,_ :: js,h=>by rw [List.length_cons,List.length_cons,FreeOk.len h.2.2]
theorem FreeOk.get {scope:Scope} {N:List Str}:∀ {xs:List Str} {js:List Nat} {p j:Nat},FreeOk scope N xs js→js[p]? = some j→∃ x,xs[p]? = some x∧N[j]? = some x∧scope.names.lookup x = some .free
 | [],[],_,_,_,e=>by simp at e
 | x :: xs,i :: js,0,j,h,e=>by simp at e;subst e;exact ⟨x,rfl,h.1,h.2.1⟩
 | x :: xs,i :: js,p + 1,j,h,e=>by
  obtain ⟨y,h1,h2⟩:=FreeOk.get (p:=p) h.2.2 (by simpa using e)
  exact ⟨y,by simpa using h1,h2⟩
noncomputable def zA8 (osc scope:Scope):Bool:=(match scope.kind with | .function=>true | _=>false) && scope.names.all (fun y=>match y.2 with
 | .cell=>false
 | .local=>(match scope.names.lookup y.1 with | some .local=>true | _=>false)
 | .free=>(match osc.names.lookup y.1 with | some .cell=>true | some .free=>true | _=>false)
 | _=>true)
theorem zt0 {X:Cx} {scope:Scope} (h:zA8 X.env.scope scope = true):zo5 X scope:=by
 unfold zA8 at h
 rw [Bool.and_eq_true,List.all_eq_true] at h
 obtain ⟨h1,h2⟩:=h
 refine ⟨?_,fun y hy z=>?_,fun y hy z=>?_,fun y hy z=>?_⟩
 ·split at h1
  ·assumption
  ·cases h1
 ·have:=h2 y hy;rw [z] at this;cases this
 ·have:=h2 y hy;rw [z] at this
  simp only at this
  split at this
  ·assumption
  ·cases this
 ·have:=h2 y hy;rw [z] at this
  simp only at this
  split at this
  ·left;assumption
  ·right;assumption
  ·cases this
noncomputable def PDTs (Y:Cx) (ifs:List Expr) (f:FT):Prop:=PTs Y ifs (tTs Y f)
theorem zr3 {Y:Cx}:PDTs Y [] (fun _=>.ok true):=fun pins s σ H Q I z_=>by obtain ⟨F,τ,R,h⟩:=z_;exact pts_nil pins s σ H Q I (h F H (Ext.refl R.fh))
theorem zy7 {Y:Cx} {c:Expr} {f:FT} (h:PDT Y c f):PDTs Y [c] f:=pts_one h
section
variable {X:Cx} {scope:Scope} {tn fr:List Str} {idx:List Nat} {tg iter elt:Expr} {ifs:List Expr} {pos:Pos} {fi:FA} {set:FG} {ft:FT} {fe:FE}
theorem zG1 (so:SetOk set) {Y:Cx} (hK:Y.K = X.K) (σ:St) (H:Hp) (Q:VK) (h:tFr X (eComp tn.length idx fi set ft fe) σ H Q):tComp (sig0 tn.length idx) (tI X fi) (tG Y set) (tTs Y ft) (tE Y fe) σ H Q:=by
 obtain ⟨F,τ,R,h⟩:=h
 refine ⟨F,τ,R,h.bind.imp fun ds gds J F1 H1 x io=>fun acc hacc=>?_⟩
 cases q:compL set ft fe (tau0 tn.length idx τ) ds with
 | no=>rw [q] at gds;exact gds.elim
 | ex c=>rw [q] at gds;exact gds.elim
 | ok xs=>
  rw [q] at gds
  obtain ⟨hz,k⟩:=zl6 gds
  have R1:=R.ext x
  have hF1:F1 acc = none:=zh1 x.fh hacc
  refine ⟨fun i m σ1 Hc=>m = ds.length - i∧i≤ds.length∧∃ F2 Hm τ1 dn rs vs,Ext F1 H1 F2 Hm∧Hm acc = none∧Hc = upd Hm acc (.lst vs)∧Reps X.K F2 dn vs∧RS X.K H1 F1 F2 τ1 σ1 Hc∧noOwn τ1∧(∀ d,set d τ1 = set d (tau0 tn.length idx τ)) ∧
   compL set ft fe (tau0 tn.length idx τ) (ds.drop i) = .ok rs∧xs = dn ++ rs,⟨ds.length,by simp,Nat.zero_le _,F1,H1,_,[],xs,[],Ext.refl x.fh,hacc,rfl,Reps.nil,?_,zw3 _ _ _,fun _=>rfl,q,rfl⟩,?_⟩
  ·exact (rs_comp tn.length idx R1).free_upd (zw3 _ _ _) hacc hF1 (.inl hacc)
  rintro i m σ1 Hc ⟨rfl,hi,F2,Hm,τ1,dn,rs,vs,x2,hm,rfl,r2,R2,n2,so2,cl,ex⟩
  obtain ⟨i1,i2⟩:=io i F2 _ x2.ff R2.rv.fh
  by_cases hlt:i < ds.length
  ·have hd:ds.drop i = ds[i] :: ds.drop (i + 1):=List.drop_eq_getElem_cons hlt
   rw [hd,compL] at cl
   obtain ⟨go,yl⟩:=i2 ds[i] (by simp [hlt])
   refine .inr ⟨go,fun y H' yy=>?_⟩
   obtain ⟨F3,x3,r3⟩:=yl y H' yy
   refine ⟨F3,τ1,ds[i],by rw [hK];exact (R2.ext x3).rv,by rw [hK];exact r3,?_⟩
   rw [so2]
   cases e1:set ds[i] (tau0 tn.length idx τ) with
   | no=>rw [e1] at cl;cases cl
   | ex c=>rw [e1] at cl;cases cl
   | ok τ2=>
    rw [e1] at cl
    simp only at cl
    intro σ2 _ RR _
    rw [hK] at RR
    have RR:=RR _ _ (R2.ext x3)
    have n3:=so.no _ _ _ e1 (zw3 _ _ _)
    have so3:∀ d,set d τ2 = set d (tau0 tn.length idx τ):=fun d=>so.ov d _ _ _ e1
    cases e2:ft τ2 with
    | no=>rw [e2] at cl;cases cl
    | ex c=>rw [e2] at cl;cases cl
    | ok b=>
     rw [e2] at cl
     refine ⟨F3,τ2,by rw [hK];exact RR.rv,?_⟩
     rw [e2]
     intro F4 H4 x4
     have x34:=x3.trans x4
     cases b with
     | false=>
      simp only at cl
      rw [if_neg (by simp)]
      obtain ⟨y1,y2⟩:=zO0 x2 hm x34
      have ha:H4 acc = some (.lst vs):=x34.hh acc _ ze6
      have eH:H4 = upd (zu6 H4 acc) acc (.lst vs):=by
       rw [zJ9];funext b;unfold upd;split
       ·rename_i z;subst z;exact ha
       ·rfl
      refine ⟨ds.length - (i + 1),by omega,rfl,hlt,F4,zu6 H4 acc,τ2,dn,rs,vs,y1,zx7 _ _,eH,r2.mono x34.ff,RR.ext x4,n3,so3,cl,ex⟩
     | true=>
      simp only at cl
      rw [if_pos rfl]
      cases e3:fe τ2 with
      | no=>rw [e3] at cl;cases cl
      | ex c=>rw [e3] at cl;cases cl
      | ok z=>
       rw [e3] at cl
       simp only at cl
       cases e4:compL set ft fe (tau0 tn.length idx τ) (ds.drop (i + 1)) with
       | no=>rw [e4] at cl;cases cl
       | ex c=>rw [e4] at cl;cases cl
       | ok rs'=>
        rw [e4] at cl
        have ers:z :: rs' = rs:=by simpa using cl
        refine ⟨F4,τ2,by rw [hK];exact (RR.ext x4).rv,?_⟩
        rw [e3]
        intro v F5 H5 x5 r5
        rw [hK] at r5
        have x35:=x34.trans x5
        obtain ⟨y1,y2⟩:=zO0 x2 hm x35
        refine ⟨vs,x35.hh acc _ ze6,?_,ds.length - (i + 1),by omega,rfl,hlt,F5,zu6 H5 acc,τ2,dn ++ [z],rs',vs ++ [v],y1,zx7 _ _,by rw [zJ9],(r2.mono x35.ff).append (Reps.cons r5 Reps.nil),?_,n3,so3,e4,?_⟩
        ·have:=congrArg List.length ex
         rw [← ers,List.length_append,List.length_cons,r2.length] at this
         omega
        ·exact ((RR.ext x4).ext x5).free_upd n3 hacc y2 (.inr ⟨_,x35.hh acc _ ze6⟩)
        ·rw [ex,← ers,List.append_assoc];rfl
  ·have e:i = ds.length:=by omega
   subst e
   rw [List.drop_length,compL] at cl
   cases cl
   rw [List.append_nil] at ex
   subst ex
   exact .inl ⟨i1 (Nat.le_refl _),k acc vs F2 Hm (x.trans x2) hm r2⟩
theorem zK2 (hfr:FreeOk scope X.N fr idx) (σ:St) (i:Nat) (v:V) (h:(sig0 tn.length idx σ)[i]? = some (some v)):∃ (x:Str) (j:Nat),(tn ++ fr)[i]? = some x∧X.N[j]? = some x∧σ[j]? = some (some v)∧scope.names.lookup x = some .free:=by
 unfold sig0 at h
 by_cases hi:i < tn.length
 ·rw [List.getElem?_append_left (by simpa using hi),List.getElem?_replicate] at h
  simp [hi] at h
 ·rw [List.getElem?_append_right (by simpa using hi),List.getElem?_map] at h
  simp only [List.length_replicate] at h
  cases q:idx[i - tn.length]? with
  | none=>rw [q] at h;cases h
  | some j=>
   rw [q] at h
   simp only [Option.map_some,Option.some.injEq] at h
   obtain ⟨x,h1,h2,h3⟩:=hfr.get q
   refine ⟨x,j,by rw [List.getElem?_append_right (by omega)];exact h1,h2,?_,h3⟩
   cases z:σ[j]? with
   | none=>rw [z] at h;cases h
   | some o=>rw [z] at h;simp at h;rw [h]
theorem zo6 (hb:zA8 X.env.scope scope = true) (hc:X.calm = true) (hfr:FreeOk scope X.N fr idx) (so:SetOk set) (hi:PDI X tg iter fi)
  (hg:∀ s H C fp,PDG (X.comp scope (tn ++ fr) s H C fp) tg set) (ht:∀ s H C fp,PDTs (X.comp scope (tn ++ fr) s H C fp) ifs ft) (he:∀ s H C fp,PDE (X.comp scope (tn ++ fr) s H C fp) elt fe)
  (hs:∀ x,foldedSetIterable iter X.env x = pure x:=by intro _;rfl):PDF X (.ListComp elt [⟨tg,iter,ifs,0⟩] scope pos) (eComp tn.length idx fi set ft fe):=
 PE.imp (pe_comp (s0:=sig0 tn.length idx) (g:=tG (X.comp scope (tn ++ fr) X.s₀ X.H₀ 0 []) set) (ti:=tTs (X.comp scope (tn ++ fr) X.s₀ X.H₀ 0 []) ft) (te:=tE (X.comp scope (tn ++ fr) X.s₀ X.H₀ 0 []) fe)
  (zt0 hb) hc (fun σ _=>by simp [sig0,hfr.len]) (zK2 hfr) hi hg ht he hs) (zG1 so rfl)
theorem zY3 {i:Nat} {y:Str} {py spos:Pos} (hN:X.N.Nodup) (hiN:X.N[i]? = some y) (hy:X.env.scope.names.lookup y = some .local)
  (hsw:swapsWith (.ListComp elt [⟨tg,iter,ifs,0⟩] scope pos) (some (.Name y py)) spos.line X.env = pure true)
  (hb:zA8 X.env.scope scope = true) (hc:X.calm = true) (hfr:FreeOk scope X.N fr idx) (so:SetOk set) (hi:PDI X tg iter fi)
  (hg:∀ s H C fp,PDG (X.comp scope (tn ++ fr) s H C fp) tg set) (ht:∀ s H C fp,PDTs (X.comp scope (tn ++ fr) s H C fp) ifs ft) (he:∀ s H C fp,PDE (X.comp scope (tn ++ fr) s H C fp) elt fe)
  (hs:∀ x,foldedSetIterable iter X.env x = pure x:=by intro _;rfl):PDS X (.Assign [.Name y py] (.ListComp elt [⟨tg,iter,ifs,0⟩] scope pos) spos) (sSet i fun τ=>(eComp tn.length idx fi set ft fe τ).bind fun ds=>.ok (.lst ds)):=
 PS.imp (yg1 (s0:=sig0 tn.length idx) (g:=tG (X.comp scope (tn ++ fr) X.s₀ X.H₀ 0 []) set) (ti:=tTs (X.comp scope (tn ++ fr) X.s₀ X.H₀ 0 []) ft) (te:=tE (X.comp scope (tn ++ fr) X.s₀ X.H₀ 0 []) fe) hN hiN hy hsw
  (zt0 hb) hc (fun σ _=>by simp [sig0,hfr.len]) (zK2 hfr) hi hg ht he hs) fun E σ H ⟨B,Z,F,τ,R,h⟩=>by
  refine zG1 (X:=X) (tn:=tn) (idx:=idx) (fi:=fi) (ft:=ft) (fe:=fe) so (Y:=X.comp scope (tn ++ fr) X.s₀ X.H₀ 0 []) rfl σ H (fun x H1=>gName i x σ H1 E.nx) ⟨F,τ,R.rv,?_⟩
  have h':=h.of.bind
  refine h'.imp fun ds g p vs F1 H1 x hp r=>?_
  have x2:=x.trans (Ext.new (o:=.lst vs) x.fh hp)
  refine g _ _ _ x2.ff ((R.ext x2).set ?_)
  simp only [Rep]
  exact ⟨p,vs,rfl,ze6,r.mono (zk0 (zh1 x.fh hp))⟩
theorem yh1 {i:Nat} {y:Str} {py spos:Pos} (hN:X.N.Nodup) (hiN:X.N[i]? = some y) (hy:X.env.scope.names.lookup y = some .local)
  (hsw:swapsWith (.ListComp elt [⟨tg,iter,ifs,0⟩] scope pos) (some (.Name y py)) spos.line X.env = pure true)
  (hb:zA8 X.env.scope scope = true) (hc:X.calm = true) (hfr:FreeOk scope X.N fr idx) (so:SetOk set) (hi:PDI X tg iter fi)
  (hg:∀ s H C fp,PDG (X.comp scope (tn ++ fr) s H C fp) tg set) (ht:∀ s H C fp,PDTs (X.comp scope (tn ++ fr) s H C fp) ifs ft) (he:∀ s H C fp,PDE (X.comp scope (tn ++ fr) s H C fp) elt fe)
  (hs:∀ x,foldedSetIterable iter X.env x = pure x:=by intro _;rfl):PDS X (.Assign [.Name y py] (.ListComp elt [⟨tg,iter,ifs,0⟩] scope pos) spos) (sSetO i (eComp tn.length idx fi set ft fe)):=
 PS.imp (yg1 (s0:=sig0 tn.length idx) (g:=tG (X.comp scope (tn ++ fr) X.s₀ X.H₀ 0 []) set) (ti:=tTs (X.comp scope (tn ++ fr) X.s₀ X.H₀ 0 []) ft) (te:=tE (X.comp scope (tn ++ fr) X.s₀ X.H₀ 0 []) fe) hN hiN hy hsw
  (zt0 hb) hc (fun σ _=>by simp [sig0,hfr.len]) (zK2 hfr) hi hg ht he hs) fun E σ H ⟨B,Z,F,τ,R,h⟩=>by
  refine zG1 (X:=X) (tn:=tn) (idx:=idx) (fi:=fi) (ft:=ft) (fe:=fe) so (Y:=X.comp scope (tn ++ fr) X.s₀ X.H₀ 0 []) rfl σ H (fun x H1=>gName i x σ H1 E.nx) ⟨F,τ,R.rv,?_⟩
  exact h.of.imp fun ds g p vs F1 H1 x hp r=>g _ F1 _ x.ff ((R.ext x).setO hp r)
end
structure Drw (prog:Program) (w:World) (A:Around) (i:Addr) (n:Nat) (P:Nat→Value→Prop) (st:Nat→Heap→Prop) (rd:Heap→Prop):Prop where
 at_:∀ k h h',st k h→(∀ o,h.get? i = some o→h'.get? i = some o)→st k h'
 live:∀ k h,st k h→∃ o n,h.get? i = some o∧o.cls = .type n∧n ≠ "zip" ∧ n ≠ "tuple" ∧ ∀ v,o.data≠.cell v
 rdk:∀ (h h':Heap),rd h→(∀ b o,h.get? b = some o→o.cls = .type "list" → h'.get? b = some o)→rd h'
 item:∀ k (s:Shared) (Q:Value→Shared→Prop) (E:Value→Shared→Prop),k < n→st k s.heap→rd s.heap →
  (∀ x h' tk,P k x→st (k + 1) h'→Heap.SameBut i s.heap h'→Q x { s with heap:=h',toks:=tk })→wpAny (model prog w) A (Builtin.SmallTypes.nextOf (.ref i)) Q E s
 done:∀ k (s:Shared) (Q:Value→Shared→Prop) (E:Value→Shared→Prop),n≤k→st k s.heap→rd s.heap →
  (∀ h' e,Heap.ExtBut i s.heap h'→(∃ o,h'.get? e = some o∧o.cls = .type "StopIteration")→E (.ref e) { s with heap:=h' })→wpAny (model prog w) A (Builtin.SmallTypes.nextOf (.ref i)) Q E s
theorem Drw.list {prog:Program} {w:World} {A:Around} (hh:A.handled = none) (i l:Addr) (items:Array Value) :
  Drw prog w A i items.size (fun k v=>items[k]? = some v) (fun k h=>h.IsListIter i l k) (fun h=>h.IsList l items) where
 at_:=fun k h h' st hk=>st.at hk
 live:=fun k h ⟨o,e,c,d⟩=>⟨o,_,e,c,by decide,by decide,fun v z=>by rw [d] at z;cases z⟩
 rdk:=fun h h' ⟨o,e,c,r⟩ hk=>⟨o,hk l o e c,c,r⟩
 item:=fun k s Q E hk st rd hQ=>wpAny_nextOf_list_item st rd (x:=items[k]) (by simp [hk]) fun h' st' sb=>hQ _ h' s.toks (by simp [hk]) st' sb
 done:=fun k s Q E hk st rd hE=>wpAny_nextOf_list_end hh st rd (by simp;omega) hE
theorem Drw.str {prog:Program} {w:World} {A:Around} (hh:A.handled = none) (i:Addr) (x:Str) (t:Tok) (ty:String) (hty:ty = "str_ascii_iterator" ∨ ty = "str_iterator") :
  Drw prog w A i x.cps.size (SignAt x) (fun k h=>h.IsStrIter i ty x t k) (fun _=>True) where
 at_:=fun k h h' ⟨o,e,r⟩ hk=>⟨o,hk o e,r⟩
 live:=fun k h ⟨o,e,c,d⟩=>⟨o,ty,e,c,by rcases hty with rfl | rfl <;> decide,by rcases hty with rfl | rfl <;> decide,fun v z=>by rw [d] at z;cases z⟩
 rdk:=fun _ _ _ _=>trivial
 item:=fun k s Q E hk st _ hQ=>by
  rcases hty with rfl | rfl
  ·exact wpAny_nextOf_ascii_item st (c:=x.cps[k]) (by simp [hk]) fun h' st' sb=>hQ _ h' _ ⟨_,_,by simp [hk],rfl⟩ st' sb
  ·exact wpAny_nextOf_wide_item st (c:=x.cps[k]) (by simp [hk]) fun h' st' sb=>hQ _ h' _ ⟨_,_,by simp [hk],rfl⟩ st' sb
 done:=fun k s Q E hk st _ hE=>by
  rcases hty with rfl | rfl
  ·exact wpAny_nextOf_ascii_end hh st (by simp;omega) hE
  ·exact wpAny_nextOf_wide_end hh st (by simp;omega) hE
section
variable {prog:Program} {w:World} {A:Around} {E:Value→Shared→Prop} {s:Shared} {z TI TO i1 i2:Addr} {n1 n2:Nat} {P1 P2:Nat→Value→Prop} {st1 st2:Nat→Heap→Prop} {rd1 rd2:Heap→Prop}
end
theorem turnedL {X:Cx} {pins:List (Addr×Obj)} {σ:St} {H:Hp} {s:Shared} {h':Heap} {t':Nat} {ch:List Addr} (I:Inv X pins σ H s) (k:∀ b o,b∉ch→s.heap.get? b = some o→h'.get? b = some o) (hf:∀ b∈ch,FpOk X pins H b) (he:∀ b∈ch,H b = none) :
  Inv X pins σ H { s with heap:=h',toks:=t' }:=by
 refine I.step (g':=s.gens) (d':=s.drawn) (ch:=ch) (fun b hb=>?_) (fun b o _ _ hc e _=>k b o hc e) (fun b o _ _ hc e _=>⟨o.slots,k b o hc e⟩) (fun _ _ _ _ n=>n)
  (fun b o hc e=>⟨o,k b o hc e⟩) (fun _ _ e=>e) (fun _ _ _ e=>e) (fun b ps e=>⟨#[],by rw [e];simp⟩) (fun m hm=>?_) (fun b u e=>?_) I.bare
 ·obtain ⟨f0,f1,f2,f3,f4,f5⟩:=hf b hb
  exact ⟨f3,f1,f4,f5⟩
 ·obtain ⟨o,es,ep,ho,r⟩:=hm
  exact ⟨o,es,ep,k _ o (fun z=>(hf _ z).2.1 rfl) ho,r⟩
 ·refine (I.hok b u e).stay (fun c v hc q=>k c v ?_ q) (fun _ q=>q) fun _ _ q=>q
  intro z
  rcases hc with q | q
  ·subst q;rw [he c z] at e;cases e
  ·rw [he c z] at q;cases q
theorem turnedT {X:Cx} {pins:List (Addr×Obj)} {σ:St} {H:Hp} {s:Shared} {h':Heap} {t':Nat} {ch:List Addr} {p:Addr} {xs:List V} {its:List Value} (I:Inv X pins σ H s) (k:∀ b o,b∉ch→s.heap.get? b = some o→h'.get? b = some o) (hf:∀ b∈ch,FpOk X pins H b)
  (hp:s.heap.objs.size≤p) (ht:IsTup h' p its.toArray) (hv:Vals xs its) (hz:xs.length≤sizeLine) :
  Inv X pins σ (upd H p (.tup xs)) { s with heap:=h',toks:=t' }:=by
 have hn:H p = none:=I.hok.fresh hp
 have lt:∀ {b:Addr} {o:Obj},s.heap.get? b = some o→b≠p:=fun e=>Nat.ne_of_lt (Nat.lt_of_lt_of_le (Heap.lt_size e) hp)
 refine I.step (g':=s.gens) (d':=s.drawn) (ch:=ch) (fun b hb=>?_) (fun b o _ _ hc e _=>k b o hc e) (fun b o _ _ hc e _=>⟨o.slots,k b o hc e⟩) (fun b o _ e n=>by rw [ze2 (lt e)];exact n)
  (fun b o hc e=>⟨o,k b o hc e⟩) (fun b ys e=>by rw [ze2 (zg4 e hn)];exact e) (fun b o u e=>by rw [ze2 (zg4 e hn)];exact e) (fun b ps e=>⟨#[],by rw [ze2 (zg4 e hn),e];simp⟩) (fun m hm=>?_) (fun b u e=>?_) I.bare
 ·obtain ⟨f0,f1,f2,f3,f4,f5⟩:=hf b hb
  exact ⟨f3,f1,f4,f5⟩
 ·obtain ⟨o,es,ep,ho,r⟩:=hm
  exact ⟨o,es,ep,k _ o (fun z=>(hf _ z).2.1 rfl) ho,r⟩
 ·by_cases hb:b = p
  ·subst hb;rw [ze6] at e;cases e
   exact ⟨hz,its,hv,ht⟩
  ·rw [ze2 hb] at e
   refine (I.hok b u e).stay (fun c v hc q=>k c v ?_ q) (fun c q=>by rw [ze2 (zg4 q hn)];exact q) fun c ys q=>by rw [ze2 (zg4 q hn)];exact q
   intro z
   rcases hc with q | q
   ·subst q;rw [(hf c z).1] at e;cases e
   ·rw [(hf c z).1] at q;cases q
noncomputable def signD (c:Nat):D:=.str ⟨#[c]⟩
noncomputable def zB4 (x:Str):List D:=x.cps.toList.map signD
noncomputable def Its (x:Str):It:=⟨fun i _=>i < x.cps.size,fun i H y H'=>H' = H∧∃ c,x.cps[i]? = some c∧y = .str ⟨#[c]⟩,fun i _=>x.cps.size≤i⟩
theorem turn_str {P:Program} {w:World} {K:PySem.W.Frag} {tg:Expr} {it:Addr} {x:Str} {t:Tok} {ty:String} (hty:ty = "str_ascii_iterator" ∨ ty = "str_iterator"):Turn P w K tg (Its x) [it] it (fun k h=>h.IsStrIter it ty x t k) where
 mem:=by simp
 obj:=fun i h ⟨o,e,c,d⟩ b hb=>by
  have z:b = it:=by simpa using hb
  subst z
  exact ⟨o,e,fun v z=>by rw [d] at z;cases z⟩
 keep:=fun i h h' ⟨o,e,r⟩ k=>⟨o,k it (by simp) o e,r⟩
 item:=by
  intro X hP hw hK hc i pins s σ H E I hf st hg
  subst hP hw hK
  obtain ⟨f0,f1,f2,f3,f4,f5⟩:=hf it (by simp)
  have hh:X.A.handled = none:=I.ok.hd hc
  have W:Walks X.prog X.w X.A it [it] [it] x.cps.size (SignAt x) (fun i h=>h.IsStrIter it ty x t i):=by
   rcases hty with rfl | rfl
   ·exact Walks.strAscii hh it x t
   ·exact Walks.strWide hh it x t
  refine W.item i s _ _ hg st fun v h' tk hv st' kk=>?_
  obtain ⟨c,u,ec,rfl⟩:=hv
  have I1:Inv X pins σ H { s with heap:=h',toks:=tk }:=I.turned (fun b o hb e=>kk b o (by simpa using hb) e) f0 f1 f3 f4 f5
  obtain ⟨o,e,cc,d⟩:=id st'
  exact ⟨_,rfl,go_of (s:={ s with heap:=h',toks:=tk }) e cc d (by rcases hty with rfl | rfl <;> decide) ⟨.str ⟨#[c]⟩,H,I1,⟨u,rfl⟩,⟨rfl,c,ec,rfl⟩,st',fun b hb=>(hf b hb).1⟩⟩
 done:=by
  intro X hP hw hK hc i pins s σ H E I hf st hg
  subst hP hw hK
  obtain ⟨f0,f1,f2,f3,f4,f5⟩:=hf it (by simp)
  have hh:X.A.handled = none:=I.ok.hd hc
  have hx:x.cps[i]? = none:=by have:x.cps.size≤i:=hg;simp;omega
  rcases hty with rfl | rfl
  ·exact wpAny_pyNext_ascii_end hh st hx fun h' eb=>⟨rfl,I.turned (t':=s.toks) (fun b o hb e=>eb b o hb e) f0 f1 f3 f4 f5⟩
  ·exact wpAny_pyNext_wide_end hh st hx fun h' eb=>⟨rfl,I.turned (t':=s.toks) (fun b o hb e=>eb b o hb e) f0 f1 f3 f4 f5⟩
 self:=fun _ _ _ _ _ st h=>by
  rcases hty with rfl | rfl
  ·exact wpAny_pyIter_striter_ascii st h
  ·exact wpAny_pyIter_striter_wide st h
section
variable {X:Cx} {pos:Pos} {e tg:Expr} {es:List Expr} {fe:FE} {fs:FA}
theorem it_str {K:PySem.W.Frag} {F1:Hp} {x:Str}:ItOk K (Its x) F1 (zB4 x):=fun i F H f1 f2=>by
 have hl:(zB4 x).length = x.cps.size:=by simp [zB4]
 refine ⟨fun h=>by rw [hl] at h;exact h,fun d hd=>?_⟩
 have hi:i < x.cps.size:=by have:=(List.getElem?_eq_some_iff.mp hd).1;rw [hl] at this;exact this
 refine ⟨hi,fun y H' yy=>?_⟩
 obtain ⟨e1,c,ec,rfl⟩:=yy
 subst e1
 refine ⟨F,Ext.refl f2,?_⟩
 have:d = signD c:=by
  simp only [zB4,List.getElem?_map] at hd
  have e2:x.cps.toList[i]? = some c:=by simpa using ec
  rw [e2] at hd
  exact (Option.some.inj hd).symm
 subst this
 simp only [signD,Rep]
noncomputable def Itd (hi:Int) (n:Nat):It:=⟨fun i _=>i < n,fun i H x H'=>H' = H∧x = .int (hi - i),fun i _=>n≤i⟩
theorem zU1 {P:Program} {w:World} {K:PySem.W.Frag} {tg:Expr} (it:Addr) (hi:Int) (n:Nat):Turn P w K tg (Itd hi n) [it] it (fun i h=>IsRangeIter h it (hi + (i:Nat) * (-1)) ((n:Int) - (i:Nat)) (-1)) where
 mem:=by simp
 obj:=fun i h st b hb=>by
  have e:b = it:=by simpa using hb
  subst e
  exact ⟨_,st,fun v z=>by
   have z':Data.fields _ = Data.cell v:=z
   cases z'⟩
 keep:=fun i h h' st k=>k it (by simp) _ st
 item:=by
  intro X hP hw hK hc i pins s σ H E I hf st hg
  subst hP hw hK
  obtain ⟨f0,f1,f2,f3,f4,f5⟩:=hf it (by simp)
  have W:=Walks.range (prog:=X.prog) (w:=X.w) (I.ok.hd hc) it hi (-1) n
  refine W.item i s _ _ hg st fun v h' tk hv st' kk=>?_
  obtain ⟨t,rfl⟩:=hv
  have I1:Inv X pins σ H { s with heap:=h',toks:=tk }:=I.turned (fun b o hb e=>kk b o (by simpa using hb) e) f0 f1 f3 f4 f5
  refine ⟨_,rfl,go_of (s:={ s with heap:=h',toks:=tk }) (n := "range_iterator") st' rfl rfl (by decide) ⟨.int (hi - i),H,I1,⟨t,?_⟩,⟨rfl,rfl⟩,st',fun b hb=>(hf b hb).1⟩⟩
  congr 1
  omega
 done:=by
  intro X hP hw hK hc i pins s σ H E I hf st hg
  subst hP hw hK
  obtain ⟨f0,f1,f2,f3,f4,f5⟩:=hf it (by simp)
  exact wpAny_pyNext_range_end (I.ok.hd hc) st (by have:n≤i:=hg;omega) fun h' eb=>⟨rfl,I.turned (t':=s.toks) (fun b o hb e=>eb b o hb e) f0 f1 f3 f4 f5⟩
 self:=fun _ _ _ _ _ st h=>wpAny_pyIter_rangeiter st h
end
section
variable {X:Cx} {pos:Pos} {e tg:Expr} {es:List Expr} {fe:FE} {fs:FA}
noncomputable def len1:D→Rs D
 | .lst ds=>.ok (.int ds.length)
 | .tup ds=>.ok (.int ds.length)
 | .scr ns=>.ok (.int ns.length)
 | .str x=>if x.length≤sizeLine then .ok (.int x.length) else .no
 | _=>.no
noncomputable def lenD:List D→Rs D
 | [d]=>len1 d
 | _=>.no
theorem zs7:CallD X (.builtin "len") lenD:=⟨_,call_len_seq.or zT5,fun F H vs ds Q fh r h=>by
 match ds,r,h with
 | [d],r,h=>
  obtain ⟨v,rfl,q⟩:=r.one
  cases d with
  | lst ds=>
   simp only [Rep] at q;obtain ⟨a,ws,rfl,e1,t⟩:=q
   refine .inl ⟨a,ws,rfl,.inl (SqL.of (fh _ _ e1)),?_⟩
   rw [← t.length];exact h _ F H (Ext.refl fh) (by simp only [Rep])
  | tup ds=>
   simp only [Rep] at q;obtain ⟨a,ws,rfl,e1,t⟩:=q
   refine .inl ⟨a,ws,rfl,.inr (Same.seqT fh e1),?_⟩
   rw [← t.length];exact h _ F H (Ext.refl fh) (by simp only [Rep])
  | scr ns=>
   simp only [Rep] at q;obtain ⟨a,rfl,e1⟩:=q
   refine .inl ⟨a,_,rfl,.inl (fh.seq e1),?_⟩
   rw [List.length_map];exact h _ F H (Ext.refl fh) (by simp only [Rep])
  | str x=>
   simp only [Rep] at q;subst q
   obtain ⟨z,h⟩:=zl6 h
   exact .inr ⟨x,rfl,z,h _ F H (Ext.refl fh) (by simp only [Rep])⟩
  | _=>exact h.elim
 | [],_,h=>exact h.elim
 | _ :: _ :: _,_,h=>exact (show False from h).elim⟩
noncomputable def min2D (ds:List D):Rs D:=match int2 ds with
 | some (i,j)=>.ok (.int (if j < i then j else i))
 | none=>.no
noncomputable def max2D (ds:List D):Rs D:=match int2 ds with
 | some (i,j)=>.ok (.int (if j > i then j else i))
 | none=>.no
theorem zG4 (hc:X.calm = true):CallD X (.builtin "min") min2D:=⟨_,yn5 hc,fun F H vs ds Q fh r h=>by
 unfold min2D at h
 cases q:int2 ds with
 | none=>rw [q] at h;exact h.elim
 | some ij=>
  obtain ⟨i,j⟩:=ij
  rw [q] at h
  have e:=zV8 q
  subst e
  obtain ⟨v,w,rfl,r1,r2⟩:=r.two
  simp only [Rep] at r1 r2;subst r1;subst r2
  exact ⟨i,j,rfl,h _ F H (Ext.refl fh) (by simp only [Rep])⟩⟩
theorem cd_max2 (hc:X.calm = true):CallD X (.builtin "max") max2D:=⟨_,yn6 hc,fun F H vs ds Q fh r h=>by
 unfold max2D at h
 cases q:int2 ds with
 | none=>rw [q] at h;exact h.elim
 | some ij=>
  obtain ⟨i,j⟩:=ij
  rw [q] at h
  have e:=zV8 q
  subst e
  obtain ⟨v,w,rfl,r1,r2⟩:=r.two
  simp only [Rep] at r1 r2;subst r1;subst r2
  exact ⟨i,j,rfl,h _ F H (Ext.refl fh) (by simp only [Rep])⟩⟩
theorem zw8 (a b:Int):Builtin.Range.rangeSize a b (-1) = ((a - b).toNat:Int):=by
 unfold Builtin.Range.rangeSize
 rw [if_neg (by decide)]
 by_cases h:a > b
 ·rw [if_pos h,show (- -1:Int) = 1 from rfl,Int.ediv_one];omega
 ·rw [if_neg h];omega
theorem yc4 {a b:Int} (ha : -(2 ^ 62)≤a) (ha':a < 2 ^ 62) (hb : -(2 ^ 62)≤b) (hb':b < 2 ^ 62):Builtin.Range.small a b (-1) = true:=by
 unfold Builtin.Range.small
 rw [zw8]
 simp only [Builtin.Range.rangeFitsLong,Bool.and_eq_true,Bool.or_eq_true,decide_eq_true_eq,beq_iff_eq,show ¬ (-1:Int) > 0 by decide,if_false]
 omega
noncomputable def iRngD (ta:TA):TI:=fun σ H R=>ta σ H fun vs H1=>∃ i j:Int,vs = [.int i,.int j,.int (-1)]∧(-(2 ^ 62)≤i∧i < 2 ^ 62∧-(2 ^ 62)≤j∧j < 2 ^ 62)∧R (Itd i (i - j).toNat) H1
theorem yg5 {a b c:Expr} {ta:TA} {p pos:Pos} (hg:Gl X "range") (hm:X.mg "range" = none) (ha:PA X [a,b,c] ta) (hs:starEach [a,b,c] X.env = [(false,eval a X.env),(false,eval b X.env),(false,eval c X.env)]:=by rfl) (hs2:starEach [b,c] X.env = [(false,eval b X.env),(false,eval c X.env)]:=by rfl) :
  PI X tg (.Call (.Name "range" p) [a,b,c] [] pos) (iRngD ta):=by
 intro pins s σ H R I h
 refine Call_ (zx1 I hg hm boot_range (PyProof.Rows.callWith_type1 (thn (ha pos pins s σ H _ I h) fun us s1 ⟨vs,H1,I1,r1,q1⟩=>?_) (by rw [hs,hs2]) (by rw [hs2];rfl)))
 obtain ⟨i,j,e,⟨q1,q2,q3,q4⟩,q⟩:=q1
 subst e
 cases r1 with
 | cons r rr=>
  cases rr with
  | cons r' rr=>
   cases rr with
   | cons r'' rr=>
    cases rr
    obtain ⟨t,rfl⟩:=r
    obtain ⟨t',rfl⟩:=r'
    obtain ⟨t'',rfl⟩:=r''
    refine call_range_3 (by decide) ?_ (.inl (PyProof.noPylong_small (by decide)))
    have I2:Inv X pins σ H1 { s1 with heap:=s1.heap.push { cls:=.type "range", data:=.fields #[.int i t,.int j t',.int (-1) t''] },toks:=s1.toks }:=I1.kept fun b o e=>Heap.get?_push_of_some _ e
    refine wpAny_pyIter_range (IsRange.new ..) (yc4 q1 q2 q3 q4) ?_
    refine ⟨(s1.heap.push { cls:=.type "range", data:=.fields #[.int i t,.int j t',.int (-1) t''] }).objs.size,[(s1.heap.push { cls:=.type "range", data:=.fields #[.int i t,.int j t',.int (-1) t''] }).objs.size],_,_,H1,rfl,
     I2.kept (t':=s1.toks) fun b o e=>Heap.get?_push_of_some _ e,zU1 _ i (i - j).toNat,?_,fun b hb=>?_,q⟩
    ·have e1:i + ((0:Nat):Int) * (-1) = i:=by simp
     have e2:(((i - j).toNat:Nat):Int) - ((0:Nat):Int) = Builtin.Range.rangeSize i j (-1):=by rw [zw8];omega
     show IsRangeIter _ _ (i + ((0:Nat):Int) * (-1)) ((((i - j).toNat:Nat):Int) - ((0:Nat):Int)) (-1)
     rw [e1,e2]
     exact Heap.get?_push_size _ rfl
    ·have e:b = (s1.heap.push { cls:=.type "range", data:=.fields #[.int i t,.int j t',.int (-1) t''] }).objs.size:=by simpa using hb
     subst e
     exact I2.fpOk (Nat.le_refl _) (I2.hok.fresh (Nat.le_refl _))
noncomputable def rngDn (hi:Int) (n:Nat):List D:=(List.range n).map fun (k:Nat)=>D.int (hi - k)
theorem it_rngD {K:PySem.W.Frag} {F1:Hp} {lo:Int} {n:Nat}:ItOk K (Itd lo n) F1 (rngDn lo n):=fun i F H f1 f2=>by
 have hl:(rngDn lo n).length = n:=by simp [rngDn]
 refine ⟨fun h=>by rw [hl] at h;exact h,fun d hd=>?_⟩
 have hi:i < n:=by have:=(List.getElem?_eq_some_iff.mp hd).1;rw [hl] at this;exact this
 refine ⟨hi,fun x H' y=>?_⟩
 obtain ⟨e1,y⟩:=y
 subst e1
 refine ⟨F,Ext.refl f2,?_⟩
 simp [rngDn,hi] at hd
 subst hd
 simp only [Rep];exact y
noncomputable def int3d:List D→Option (Int×Int)
 | [.int i,.int j,.int (-1)]=>some (i,j)
 | _=>none
theorem int3d_eq {ds:List D} {i j:Int} (h:int3d ds = some (i,j)):ds = [.int i,.int j,.int (-1)]:=by
 unfold int3d at h;split at h <;> cases h;rfl
noncomputable def iRg3 (fs:FA):FA:=fun τ=>(fs τ).bind fun ds=>match int3d ds with
 | some (i,j)=>if (-(2 ^ 62)≤i∧i < 2 ^ 62)∧-(2 ^ 62)≤j∧j < 2 ^ 62 then .ok (rngDn i (i - j).toNat) else .no
 | none=>.no
theorem yc8 {a b c:Expr} {p:Pos} (hg:Gl X "range") (hm:X.mg "range" = none) (ha:PDA X [a,b,c] fs) (hs:starEach [a,b,c] X.env = [(false,eval a X.env),(false,eval b X.env),(false,eval c X.env)]:=by rfl) (hs2:starEach [b,c] X.env = [(false,eval b X.env),(false,eval c X.env)]:=by rfl) :
  PDI X tg (.Call (.Name "range" p) [a,b,c] [] pos) (iRg3 fs):=
 PI.imp (yg5 hg hm ha hs hs2) fun σ H R ⟨F,τ,Rv,h⟩=>tAs.of Rv h.bind fun ds vs F1 H1 g x R1 r=>by
  cases q1:int3d ds with
  | none=>rw [q1] at g;exact g.elim
  | some ij=>
   obtain ⟨i,j⟩:=ij
   rw [q1] at g
   have e:=int3d_eq q1
   subst e
   simp only [Reps] at r
   obtain ⟨v,r1,e1,q,w,r2,e2,q',u,r3,e3,q'',e4⟩:=r
   simp only [Rep] at q q' q'';subst q q' q'' e4 e3 e2 e1
   obtain ⟨z,g⟩:=zl6 g
   exact ⟨i,j,rfl,⟨z.1.1,z.1.2,z.2.1,z.2.2⟩,g _ F1 H1 x it_rngD⟩
noncomputable def MtD (X:Cx) (id:String) (g:D→List D→Rs D):Prop:=∃ r,MtR X id r∧∀ F H v vs d ds Q,Same F H→Rep X.K F d v→Reps X.K F ds vs→Ok X (g d ds) (Ev X.K F H Q)→r v vs H Q
noncomputable def isTy (T:String):D→Bool
 | .str _=>T = "str"
 | .int _=>T = "int"
 | .lst _=>T = "list"
 | .scr _=>T = "list"
 | _=>false
noncomputable def eMt0 (T:String) (g:D→List D→Rs D) (fo:FE):FE:=fun τ=>(fo τ).bind fun d=>if isTy T d = true then g d [] else .no
noncomputable def eMt (T:String) (g:D→List D→Rs D) (fo:FE) (fa:FA):FE:=fun τ=>(fo τ).bind fun d=>if isTy T d = true then (fa τ).bind fun ds=>g d ds else .no
theorem tyV_of {F H:Hp} {d:D} {v:V} {T:String} (fh:Same F H) (r:Rep X.K F d v) (h:isTy T d = true):tyV X.K T v H:=by
 cases d with
 | str x=>simp only [Rep] at r;subst r;show T = "str"; simpa [isTy] using h
 | int x=>simp only [Rep] at r;subst r;show T = "int"; simpa [isTy] using h
 | lst ds=>simp only [Rep] at r;obtain ⟨a,vs,rfl,e,t⟩:=r;exact .inl ⟨by simpa [isTy] using h,vs,SqL.of (fh _ _ e)⟩
 | scr ds=>simp only [Rep] at r;obtain ⟨a,rfl,e⟩:=r;exact .inl ⟨by simpa [isTy] using h,_,fh.seq e⟩
 | _=>simp [isTy] at h
theorem ok_if {X:Cx} {α:Type} {c:Prop} [Decidable c] {r:Rs α} {P:α→Prop} (h:Ok X (if c then r else .no) P):c∧Ok X r P:=by
 by_cases z:c
 ·rw [if_pos z] at h;exact ⟨z,h⟩
 ·rw [if_neg z] at h;exact h.elim
theorem yh6 {T id:String} {name:Str} {o:Expr} {apos cpos:Pos} {fo:FE} {g:D→List D→Rs D} (pa:PlainAttrs T) (slot:Slot T name id) (hty:typeOf (.builtin id) = pure (.type "method_descriptor")) (hm:MtD X id g) (ho:PDE X o fo)
  (hbase:attributeBase o name X.env (eval o X.env) = eval o X.env:=by rfl) (hline:(apos.endLine == cpos.line) = true:=by rfl):PDE X (.Call (.Attribute o name apos) [] [] cpos) (eMt0 T g fo):=by
 obtain ⟨r,h1,h2⟩:=hm
 exact PE.imp (pe_bm0 pa slot hty h1 ho hbase hline) fun σ H Q ⟨Fz,τ,R,h⟩=>tE.of R h.bind fun d v F1 H1 q x R1 rr=>by
  obtain ⟨z,q⟩:=ok_if q
  exact ⟨tyV_of R1.fh rr z,h2 F1 H1 v [] d [] Q R1.fh rr Reps.nil (q.imp fun d e=>e.ext x)⟩
theorem pde_mt {T id:String} {name:Str} {o:Expr} {apos cpos:Pos} {fo:FE} {g:D→List D→Rs D} (pa:PlainAttrs T) (slot:Slot T name id) (hty:typeOf (.builtin id) = pure (.type "method_descriptor")) (hm:MtD X id g) (ho:PDE X o fo) (ha:PDA X (e :: es) fs)
  (hbase:attributeBase o name X.env (eval o X.env) = eval o X.env:=by rfl)
  (hfew:((backTo cpos (starEach (e :: es) X.env)).all (fun x=>!x.1) && (backToKw cpos (keywordEach [] X.env)).all (fun x=>x.1.isSome)
   && decide ((e :: es).length + ([]:List Keyword).length + (if ([]:List Keyword).isEmpty then 0 else 1) < 30)) = true:=by rfl)
  (hline:(apos.endLine == cpos.line) = true:=by rfl) (hs:starEach (e :: es) X.env = (false,eval e X.env) :: starEach es X.env:=by rfl) (hplain:(backTo cpos (starEach es X.env)).any (·.1) = false:=by rfl) :
  PDE X (.Call (.Attribute o name apos) (e :: es) [] cpos) (eMt T g fo fs):=by
 obtain ⟨r,h1,h2⟩:=hm
 exact PE.imp (pe_bm pa slot hty h1 ho ha hbase hfew hline hs hplain) fun σ H Q ⟨Fz,τ,R,h⟩=>tE.of R h.bind fun d v F1 H1 q x R1 rr=>by
  obtain ⟨z,q⟩:=ok_if q
  exact ⟨tyV_of R1.fh rr z,tAs.of R1 q.bind fun ds vs F2 H2 q2 x2 R2 rs=>h2 F2 H2 v vs d ds Q R2.fh (rr.mono x2.ff) rs (q2.imp fun d e=>e.ext (x.trans x2))⟩
noncomputable def upD:D→List D→Rs D
 | .str x,[]=>if x.length≤5000000 then .ok (.str (Txt.upper x)) else .no
 | _,_=>.no
noncomputable def loD:D→List D→Rs D
 | .str x,[]=>if x.length≤5000000 then .ok (.str (Txt.lower x)) else .no
 | _,_=>.no
theorem mt_up:MtR X "str.upper" (fun v vs H Q=>∃ x,v = .str x∧vs = []∧x.length≤5000000∧Q (.str (Txt.upper x)) H):=by
 intro pins s σ H v vs u us Q I r rs h
 obtain ⟨x,rfl,rfl,hx,q⟩:=h
 obtain ⟨t,rfl⟩:=r
 cases rs
 exact SC.upper (fit_upper (by omega)) ⟨.str (Txt.upper x),H,I.tok _,⟨_,rfl⟩,q⟩
theorem mt_lo:MtR X "str.lower" (fun v vs H Q=>∃ x,v = .str x∧vs = []∧x.length≤5000000∧Q (.str (Txt.lower x)) H):=by
 intro pins s σ H v vs u us Q I r rs h
 obtain ⟨x,rfl,rfl,hx,q⟩:=h
 obtain ⟨t,rfl⟩:=r
 cases rs
 exact SC.lower (fit_lower (by omega)) ⟨.str (Txt.lower x),H,I.tok _,⟨_,rfl⟩,q⟩
theorem md_up:MtD X "str.upper" upD:=⟨_,mt_up,fun F H v vs d ds Q fh r rs h=>by
 cases d with
 | str x=>
  cases ds with
  | nil=>
   simp only [Rep] at r;subst r
   simp only [Reps] at rs;subst rs
   obtain ⟨z,h⟩:=zl6 h
   exact ⟨x,rfl,rfl,z,h _ F H (Ext.refl fh) (by simp only [Rep])⟩
  | cons a b=>exact h.elim
 | _=>cases ds <;> exact h.elim⟩
theorem md_lo:MtD X "str.lower" loD:=⟨_,mt_lo,fun F H v vs d ds Q fh r rs h=>by
 cases d with
 | str x=>
  cases ds with
  | nil=>
   simp only [Rep] at r;subst r
   simp only [Reps] at rs;subst rs
   obtain ⟨z,h⟩:=zl6 h
   exact ⟨x,rfl,rfl,z,h _ F H (Ext.refl fh) (by simp only [Rep])⟩
  | cons a b=>exact h.elim
 | _=>cases ds <;> exact h.elim⟩
theorem yh2 {o:Expr} {apos cpos:Pos} {fo:FE} (ho:PDE X o fo) (hbase:attributeBase o "upper" X.env (eval o X.env) = eval o X.env:=by rfl) (hline:(apos.endLine == cpos.line) = true:=by rfl):PDE X (.Call (.Attribute o "upper" apos) [] [] cpos) (eMt0 "str" upD fo):=
 yh6 F.plainAttrs_str F.slot_str_upper F.type_str_upper md_up ho hbase hline
theorem yh7 {o:Expr} {apos cpos:Pos} {fo:FE} (ho:PDE X o fo) (hbase:attributeBase o "lower" X.env (eval o X.env) = eval o X.env:=by rfl) (hline:(apos.endLine == cpos.line) = true:=by rfl):PDE X (.Call (.Attribute o "lower" apos) [] [] cpos) (eMt0 "str" loD fo):=
 yh6 F.plainAttrs_str F.slot_str_lower F.type_str_lower md_lo ho hbase hline
end
section
variable {X:Cx} {pos:Pos} {e tg:Expr} {es:List Expr} {fe:FE} {fs:FA}
noncomputable def isOf (d:D) (T:String):Rs Bool:=match d with
 | .raw _=>.no
 | .exc _=>.no
 | d=>if T = "str" then .ok (match d with | .str _=>true | _=>false)
  else if T = "int" then .ok (match d with | .int _=>true | .bl _=>true | _=>false)
  else if T = "bool" then .ok (match d with | .bl _=>true | _=>false)
  else if T = "list" then .ok (match d with | .lst _=>true | .scr _=>true | _=>false)
  else if T = "tuple" then .ok (match d with | .tup _=>true | _=>false)
  else .no
noncomputable def tyOf2:List D→Option (D×String)
 | [d,.raw (.ty T)]=>some (d,T)
 | _=>none
theorem tyOf2_eq {ds:List D} {d:D} {T:String} (h:tyOf2 ds = some (d,T)):ds = [d,.raw (.ty T)]:=by
 unfold tyOf2 at h;split at h <;> cases h;rfl
noncomputable def isiD (ds:List D):Rs D:=match tyOf2 ds with
 | some (d,T)=>(isOf d T).bind fun b=>.ok (.bl b)
 | none=>.no
theorem call_isi:CallR X (.builtin "isinstance") (fun vs H Q=>∃ F d v T b,Same F H∧Rep X.K F d v∧vs = [v,.ty T]∧isOf d T = .ok b∧Q (.bl b) H):=by
 intro pins s σ H vs us Q I r h
 obtain ⟨F,d,v,T,b,fh,rd,rfl,hb,q⟩:=h
 obtain ⟨u,w,rfl,r1,r2⟩:=vals2 r
 cases r2
 have fin:∀ {b':Bool},b = b'→EP X pins σ Q (.bool b') s:=fun e=>by subst e;exact ⟨.bl _,H,I,rfl,q⟩
 have fin':∀ {b':Bool},b = b'→EP X pins σ Q (.bool b') { s with toks:=s.toks + 1 }:=fun e=>by subst e;exact ⟨.bl _,H,I.tok _,rfl,q⟩
 have hT:T = "str" ∨ T = "int" ∨ T = "bool" ∨ T = "list" ∨ T = "tuple" := by
  by_cases h1:T = "str"; exact .inl h1
  by_cases h2:T = "int"; exact .inr (.inl h2)
  by_cases h3:T = "bool"; exact .inr (.inr (.inl h3))
  by_cases h4:T = "list"; exact .inr (.inr (.inr (.inl h4)))
  by_cases h5:T = "tuple"; exact .inr (.inr (.inr (.inr h5)))
  exfalso
  unfold isOf at hb
  cases d <;> simp [h1,h2,h3,h4,h5] at hb
 cases d with
 | raw _=>simp [isOf] at hb
 | exc _=>simp [isOf] at hb
 | non=>
  simp only [Rep] at rd;subst rd;cases r1
  rcases hT with rfl | rfl | rfl | rfl | rfl <;> simp [isOf] at hb <;> first
   | exact IsiPair.NoneType_str (fin' hb) | exact IsiPair.NoneType_int (fin' hb) | exact IsiPair.NoneType_bool (fin' hb) | exact IsiPair.NoneType_list (fin' hb) | exact IsiPair.NoneType_tuple (fin' hb)
 | bl k=>
  simp only [Rep] at rd;subst rd;cases r1
  rcases hT with rfl | rfl | rfl | rfl | rfl <;> simp [isOf] at hb <;> first
   | exact IsiPair.bool_str (fin' hb) | exact IsiPair.bool_int (fin hb) | exact IsiPair.bool_bool (fin hb) | exact IsiPair.bool_list (fin' hb) | exact IsiPair.bool_tuple (fin' hb)
 | int k=>
  simp only [Rep] at rd;subst rd;obtain ⟨t,rfl⟩:=r1
  rcases hT with rfl | rfl | rfl | rfl | rfl <;> simp [isOf] at hb <;> first
   | exact IsiPair.int_str (fin' hb) | exact IsiPair.int_int (fin hb) | exact IsiPair.int_bool (fin' hb) | exact IsiPair.int_list (fin' hb) | exact IsiPair.int_tuple (fin' hb)
 | str k=>
  simp only [Rep] at rd;subst rd;obtain ⟨t,rfl⟩:=r1
  rcases hT with rfl | rfl | rfl | rfl | rfl <;> simp [isOf] at hb <;> first
   | exact IsiPair.str_str (fin hb) | exact IsiPair.str_int (fin' hb) | exact IsiPair.str_bool (fin' hb) | exact IsiPair.str_list (fin' hb) | exact IsiPair.str_tuple (fin' hb)
 | lst k=>
  simp only [Rep] at rd;obtain ⟨a,ws,rfl,e,t⟩:=rd;cases r1
  obtain ⟨its,rr,⟨o,n,eo,c,_,_⟩,_⟩:=I.list (SqL.of (K:=X.K) (fh _ _ e))
  rcases hT with rfl | rfl | rfl | rfl | rfl <;> simp [isOf] at hb <;> first
   | exact IsiPair.list_str eo c (fin' hb) | exact IsiPair.list_int eo c (fin' hb) | exact IsiPair.list_bool eo c (fin' hb) | exact IsiPair.list_list eo c (fin hb) | exact IsiPair.list_tuple eo c (fin' hb)
 | scr k=>
  simp only [Rep] at rd;obtain ⟨a,rfl,e⟩:=rd;cases r1
  obtain ⟨its,rr,⟨o,n,eo,c,_,_⟩,_⟩:=I.list (fh.seq e)
  rcases hT with rfl | rfl | rfl | rfl | rfl <;> simp [isOf] at hb <;> first
   | exact IsiPair.list_str eo c (fin' hb) | exact IsiPair.list_int eo c (fin' hb) | exact IsiPair.list_bool eo c (fin' hb) | exact IsiPair.list_list eo c (fin hb) | exact IsiPair.list_tuple eo c (fin' hb)
 | tup k=>
  simp only [Rep] at rd;obtain ⟨a,ws,rfl,e,t⟩:=rd;cases r1
  obtain ⟨its,rr,⟨o,eo,c,_,_⟩,_⟩:=I.tuple (Same.seqT fh e)
  rcases hT with rfl | rfl | rfl | rfl | rfl <;> simp [isOf] at hb <;> first
   | exact IsiPair.tuple_str eo c (fin' hb) | exact IsiPair.tuple_int eo c (fin' hb) | exact IsiPair.tuple_bool eo c (fin' hb) | exact IsiPair.tuple_list eo c (fin' hb) | exact IsiPair.tuple_tuple eo c (fin hb)
theorem cd_isi:CallD X (.builtin "isinstance") isiD:=⟨_,call_isi,fun F H vs ds Q fh r h=>by
 unfold isiD at h
 cases q:tyOf2 ds with
 | none=>rw [q] at h;exact h.elim
 | some dT=>
  obtain ⟨d,T⟩:=dT
  rw [q] at h
  have e:=tyOf2_eq q
  subst e
  obtain ⟨v,w,rfl,r1,r2⟩:=r.two
  simp only [Rep] at r2;subst r2
  simp only at h
  cases q2:isOf d T with
  | no=>rw [q2] at h;exact h.elim
  | ex c=>exfalso;unfold isOf at q2;cases d <;> simp at q2 <;> (repeat (first | (split at q2) | cases q2))
  | ok b=>rw [q2] at h;exact ⟨F,d,v,T,b,fh,r1,rfl,q2,h _ F H (Ext.refl fh) (by simp only [Rep])⟩⟩
noncomputable def zt2:List D→Option (List Bool)
 | []=>some []
 | .bl b :: r=>(zt2 r).map (b :: ·)
 | _=>none
noncomputable def allD (ds:List D):Rs D:=match ds with
 | [.lst xs]=>match zt2 xs with
  | some bs=>.ok (.bl (bs.all id))
  | none=>.no
 | _=>.no
theorem zJ3 {K:PySem.W.Frag} {F:Hp}:∀ {ds:List D} {bs:List Bool} {vs:List V} {us:List Value},zt2 ds = some bs→Reps K F ds vs→Vals vs us→us = bs.map Value.bool
 | [],bs,vs,us,h,r,rv=>by simp only [Reps] at r;subst r;cases rv;cases h;rfl
 | .bl x :: ds,ys,vs,us,h,r,rv=>by
  simp only [Reps,Rep] at r
  obtain ⟨v,r',rfl,rfl,t⟩:=r
  simp only [zt2] at h
  cases q:zt2 ds with
  | none=>rw [q] at h;cases h
  | some zs=>
   rw [q] at h;cases h
   cases rv with
   | cons r1 r2=>
    cases r1
    rw [zJ3 q t r2];rfl
 | .non :: _,_,_,_,h,_,_=>by cases h
 | .str _ :: _,_,_,_,h,_,_=>by cases h
 | .int _ :: _,_,_,_,h,_,_=>by cases h
 | .lst _ :: _,_,_,_,h,_,_=>by cases h
 | .tup _ :: _,_,_,_,h,_,_=>by cases h
 | .scr _ :: _,_,_,_,h,_,_=>by cases h
 | .raw _ :: _,_,_,_,h,_,_=>by cases h
 | .exc _ :: _,_,_,_,h,_,_=>by cases h
theorem zK7 (bs:List Bool):(List.range bs.length).all (fun i=>bs.getD i false) = bs.all id:=by
 rw [Bool.eq_iff_iff,List.all_eq_true,List.all_eq_true]
 constructor
 ·intro h x hx
  obtain ⟨i,hi,rfl⟩:=List.mem_iff_getElem.mp hx
  have:=h i (List.mem_range.mpr hi)
  simpa [List.getD_eq_getElem?_getD,hi] using this
 ·intro h i hi
  have hi:=List.mem_range.mp hi
  have:=h bs[i] (List.getElem_mem hi)
  simpa [List.getD_eq_getElem?_getD,hi] using this
theorem yn7 (hc:X.calm = true):CallR X (.builtin "all") (fun vs H Q=>∃ a ws F ds bs,vs = [.ref a]∧H a = some (.lst ws)∧Reps X.K F ds ws∧zt2 ds = some bs∧Q (.bl (bs.all id)) H):=by
 intro pins s σ H vs us Q I r h
 obtain ⟨a,ws,F,ds,bs,rfl,e,t,hb,q⟩:=h
 obtain ⟨u,rfl,r1⟩:=vals1 r
 cases r1
 obtain ⟨its,rr,p,_⟩:=I.list (SqL.of (K:=X.K) e)
 have ei:=zJ3 hb t rr
 subst ei
 have hh:X.A.in1.handled = none:=I.ok.hd hc
 have hlt:a < s.heap.objs.size:=I.hok.lt e
 refine call_all_walk (wpAny_pyIter_list p.isList ⟨s.heap.objs.size,_,_,_,_,_,fun i=>bs.getD i false,rfl,Walks.list hh s.heap.objs.size a (Nat.ne_of_lt hlt) (bs.map Value.bool).toArray,⟨⟨_,Heap.get?_push_size _ rfl,rfl,rfl⟩,p.isList.push _⟩,fun i v s' Q' E' hP hQ=>?_,fun h' tk hk=>?_⟩)
 ·have hP:(bs.map Value.bool)[i]? = some v:=by simpa using hP
  rw [List.getElem?_map] at hP
  cases z:bs[i]? with
  | none=>rw [z] at hP;cases hP
  | some b=>
   rw [z] at hP
   cases hP
   exact wpAny_truthy_bool (by simpa [List.getD_eq_getElem?_getD,z] using hQ)
 ·have en:(bs.map Value.bool).toArray.size = bs.length:=by simp
  rw [en,zK7]
  have I1:Inv X pins σ H { s with heap:=s.heap.push { cls:=.type "list_iterator", data:=.fields #[.ref a,.int 0 0] } }:=I.kept (t':=s.toks) fun b o e=>Heap.get?_push_of_some _ e
  have fk:=I.fpOk (H':=H) (Nat.le_refl s.heap.objs.size) (I.hok.fresh (Nat.le_refl _))
  refine ⟨.bl (bs.all id),H,turnedL (s:={ s with heap:=s.heap.push { cls:=.type "list_iterator", data:=.fields #[.ref a,.int 0 0] } }) (ch:=[s.heap.objs.size]) I1 (fun b o hb e=>hk b o hb e) (fun b hb=>?_) (fun b hb=>?_),rfl,q⟩
  ·have z:b = s.heap.objs.size:=by simpa using hb
   subst z;exact fk
  ·have z:b = s.heap.objs.size:=by simpa using hb
   subst z;exact fk.1
theorem cd_all (hc:X.calm = true):CallD X (.builtin "all") allD:=⟨_,yn7 hc,fun F H vs ds Q fh r h=>by
 cases ds with
 | nil=>exact h.elim
 | cons d r2=>
  cases r2 with
  | cons a b=>cases d <;> exact h.elim
  | nil=>
   cases d with
   | lst xs=>
    obtain ⟨v,rfl,q⟩:=r.one
    simp only [Rep] at q;obtain ⟨a,ws,rfl,e,t⟩:=q
    simp only [allD] at h
    cases z:zt2 xs with
    | none=>rw [z] at h;exact h.elim
    | some bs=>rw [z] at h;exact ⟨a,ws,F,xs,bs,rfl,fh _ _ e,t,z,h _ F H (Ext.refl fh) (by simp only [Rep])⟩
   | _=>exact h.elim⟩
end
section
variable {X:Cx} {pos:Pos} {e tg:Expr} {es:List Expr} {fe:FE} {fs:FA}
noncomputable def rSlS:V→Option Int→Option Int→Hp→VK→Prop:=fun x lo hi H Q=>∃ z,x = .str z∧z.length≤sizeLine∧Q (.str (Txt.slice z lo hi)) H
theorem sl_str:SlR X rSlS:=by
 intro pins s σ H x v vl vu lo hi sl Q I rx hs pl pu h
 obtain ⟨z,rfl,hz,q⟩:=h
 obtain ⟨t,rfl⟩:=rx
 refine ⟨"str", _,F.slot_str_getitem.lookup,typeIs_str _ _ _,?_⟩
 obtain ⟨o,e,c,d⟩:=hs
 have fin:∀ t' k,EP X pins σ Q (.str (Txt.slice z lo hi) t') { s with toks:=k }:=fun t' k=>⟨.str _,H,I.tok _,⟨_,rfl⟩,q⟩
 have hl:=Nat.le_trans (Txt.slice_le z lo hi) hz
 cases pl with
 | none=>
  cases pu with
  | none=>exact wpAny_getItem_str_slice (l:=none) (u:=none) (st:=none) ⟨o,e,c,d⟩ rfl (post_val_or_str ⟨hl,fin⟩)
  | int j uj=>exact wpAny_getItem_str_slice (l:=none) (u:=some (j,uj)) (st:=none) ⟨o,e,c,d⟩ rfl (post_val_or_str ⟨hl,fin⟩)
 | int i ui=>
  cases pu with
  | none=>exact wpAny_getItem_str_slice (l:=some (i,ui)) (u:=none) (st:=none) ⟨o,e,c,d⟩ rfl (post_val_or_str ⟨hl,fin⟩)
  | int j uj=>exact wpAny_getItem_str_slice (l:=some (i,ui)) (u:=some (j,uj)) (st:=none) ⟨o,e,c,d⟩ rfl (post_val_or_str ⟨hl,fin⟩)
noncomputable def cutD (xs:List D) (lo hi:Option Int):List D:=(xs.drop (HT.sIx xs.length 0 lo)).take (HT.sIx xs.length xs.length hi - HT.sIx xs.length 0 lo)
noncomputable def slD (d:D) (lo hi:Option Int):Rs D:=match d with
 | .str x=>if x.length≤sizeLine then .ok (.str (Txt.slice x lo hi)) else .no
 | .lst ds=>.ok (.lst (cutD ds lo hi))
 | _=>.no
noncomputable abbrev FO:=DS→Rs (Option Int)
noncomputable def oNone:FO:=fun _=>.ok none
noncomputable def oSome (fe:FE):FO:=fun τ=>(fe τ).bind fun d=>match d with
 | .int i=>.ok (some i)
 | _=>.no
noncomputable def tOs (X:Cx) (f:FO):TO:=fun σ H Q=>∃ F τ,RV X.K F τ σ H∧Ok X (f τ) fun o=>∀ F' H',Ext F H F' H'→Q o H'
noncomputable def PDO (X:Cx) (e:Option Expr) (f:FO):Prop:=PO X e (tOs X f)
theorem PO.imp {e:Option Expr} {t t':TO} (h:PO X e t) (f:∀ σ H Q,t' σ H Q→t σ H Q):PO X e t':=fun pins s σ H Q I q=>h pins s σ H Q I (f _ _ _ q)
theorem zY4:PDO X none oNone:=PO.imp po_none fun σ H Q z_=>by obtain ⟨F,τ,R,h⟩:=z_;exact h F H (Ext.refl R.fh)
theorem zC8 (h:PDE X e fe):PDO X (some e) (oSome fe):=PO.imp (po_some h) fun σ H Q ⟨F,τ,R,h⟩=>tE.of R h.bind fun d v F1 H1 g x R1 r=>by
 cases d with
 | int i=>simp only [Rep] at r;exact ⟨i,r,g F1 H1 x⟩
 | _=>exact g.elim
noncomputable def eSl (fe:FE) (fl fh:FO):FE:=fun τ=>(fe τ).bind fun d=>(fl τ).bind fun l=>(fh τ).bind fun u=>slD d l u
theorem yh4 {lo hi:Option Expr} {fl fh:FO} {p2:Pos} (he:PDE X e fe) (hl:PDO X lo fl) (hu:PDO X hi fh):PDE X (.Subscript e (.Slice lo hi none p2) pos) (eSl fe fl fh):=
 PE.imp (pe_slice (sl_str.or sl_list) he hl hu) fun σ H Q ⟨F,τ,R,h⟩=>tE.of R h.bind fun d v F1 H1 g x R1 r=>by
  refine ⟨F1,τ,R1,g.bind.imp fun l gl F2 H2 x2=>⟨F2,τ,R1.ext x2,gl.bind.imp fun u gu F3 H3 x3=>?_⟩⟩
  have f3:=x3.fh
  have x13:=x.trans (x2.trans x3)
  cases d with
  | str z=>
   simp only [Rep] at r
   obtain ⟨zz,gu⟩:=zl6 gu
   exact .inl ⟨z,r,zz,gu _ F3 H3 x13 (by simp only [Rep])⟩
  | lst ds=>
   simp only [Rep] at r;obtain ⟨a,vs,rfl,e1,t⟩:=r
   have gu:Ev X.K F H Q (.lst (cutD ds l u)):=gu
   refine .inr ⟨a,vs,rfl,SqL.of (f3 _ _ (x3.ff _ _ (x2.ff _ _ e1))),fun p hp=>gu _ _ _ (x13.trans (Ext.new f3 hp)) ?_⟩
   simp only [Rep]
   refine ⟨p,_,rfl,ze6,?_⟩
   have t3:Reps X.K F3 (cutD ds l u) (cutV vs l u):=by
    unfold cutD cutV
    rw [← t.length]
    exact ((t.mono (x2.ff.trans x3.ff)).drop _).take _
   exact t3.mono (zk0 (zh1 f3 hp))
  | _=>exact gu.elim
theorem pde_gl {x:Str} {v:V} {u:Value} {d:D} (hg:Gl X x) (hm:X.mg x = some u) (r:RelV v u) (rd:∀ F,Rep X.K F d v) (hd:(x == ("__debug__" : Str)) = false:=by decide):PDE X (.Name x pos) (eC d):=pde_c (pe_glob hg hm r hd) rd
theorem zE5 {x:Str} {y:Str} {t:Tok} (hg:Gl X x) (hm:X.mg x = some (.str y t)) (hd:(x == ("__debug__" : Str)) = false:=by decide):PDE X (.Name x pos) (eC (.str y)):=pde_gl (v:=.str y) hg hm ⟨t,rfl⟩ (fun _=>by simp only [Rep]) hd
theorem zv1 {x:Str} {y:Int} {t:Tok} (hg:Gl X x) (hm:X.mg x = some (.int y t)) (hd:(x == ("__debug__" : Str)) = false:=by decide):PDE X (.Name x pos) (eC (.int y)):=pde_gl (v:=.int y) hg hm ⟨t,rfl⟩ (fun _=>by simp only [Rep]) hd
theorem pde_ty {x:Str} {T:String} (hg:Gl X x) (hm:X.mg x = none) (hv:bootBuiltins x = some (.type T)) (hn:x ≠ "__name__" := by decide) (hd:(x == ("__debug__" : Str)) = false:=by decide):PDE X (.Name x pos) (eC (.raw (.ty T))):=
 pde_c (pe_bltn (v:=.ty T) hg hm hv rfl hn hd) fun _=>by simp only [Rep]
end
section
variable {X:Cx} {pos:Pos} {e tg:Expr} {es:List Expr} {fe:FE} {fs:FA}
noncomputable def iAnyT (K:PySem.W.Frag) (tl:TE):TI:=fun σ H R=>tl σ H fun x H1=>(∃ a,x = .ref a∧(∃ xs,SqL K H1 a xs)∧R (Itl K a) H1)∨(∃ a,x = .ref a∧(∃ xs,SqT K H1 a xs)∧R (Itt K a) H1)∨∃ z,x = .str z∧R (Its z) H1
theorem pi_any {l:Expr} {tl:TE} (hl:PE X l tl):PI X tg l (iAnyT X.K tl):=by
 intro pins s σ H R I h
 refine thn (hl pins s σ H _ I h) fun v s1 z_=>?_
 obtain ⟨x,H1,I1,r1,q1⟩:=z_
 rcases q1 with ⟨a,e,⟨xs,hq⟩,q⟩ | ⟨a,e,⟨xs,hq⟩,q⟩ | ⟨z,e,q⟩
 ·subst e
  cases r1
  obtain ⟨its,rv,p,hz⟩:=I1.list hq
  refine wpAny_pyIter_list p.isList ?_
  refine ⟨s1.heap.objs.size,[s1.heap.objs.size],_,_,H1,rfl,I1.kept (t':=s1.toks) fun b o e=>Heap.get?_push_of_some _ e,ye5 a _,⟨_,Heap.get?_push_size _ rfl,rfl,rfl⟩,fun b hb=>?_,q⟩
  have e:b = s1.heap.objs.size:=by simpa using hb
  subst e
  exact I1.fpOk (Nat.le_refl _) (I1.hok.fresh (Nat.le_refl _))
 ·subst e
  cases r1
  obtain ⟨its,rv,p,hz⟩:=I1.tuple hq
  refine wpAny_pyIter_tuple (show s1.heap.IsTuple a its.toArray from p) ?_
  refine ⟨s1.heap.objs.size,[s1.heap.objs.size],_,_,H1,rfl,I1.kept (t':=s1.toks) fun b o e=>Heap.get?_push_of_some _ e,yb8 a _,⟨_,Heap.get?_push_size _ rfl,rfl,rfl⟩,fun b hb=>?_,q⟩
  have e:b = s1.heap.objs.size:=by simpa using hb
  subst e
  exact I1.fpOk (Nat.le_refl _) (I1.hok.fresh (Nat.le_refl _))
 ·subst e
  obtain ⟨t,rfl⟩:=r1
  have fin:∀ (ty:String),(ty = "str_ascii_iterator" ∨ ty = "str_iterator")→PIE X pins σ tg R (.ref s1.heap.objs.size) { s1 with heap:=s1.heap.push { cls:=.type ty,data:=.fields #[.str z t,.int 0 0] } }:=fun ty hty=>by
   refine ⟨s1.heap.objs.size,[s1.heap.objs.size],_,_,H1,rfl,I1.kept (t':=s1.toks) fun b o e=>Heap.get?_push_of_some _ e,turn_str hty,⟨_,Heap.get?_push_size _ rfl,rfl,rfl⟩,fun b hb=>?_,q⟩
   have e:b = s1.heap.objs.size:=by simpa using hb
   subst e
   exact I1.fpOk (Nat.le_refl _) (I1.hok.fresh (Nat.le_refl _))
  cases ha:z.cps.all (· < 128)
  ·exact wpAny_pyIter_wide ha (fin _ (.inr rfl))
  ·exact wpAny_pyIter_ascii ha (fin _ (.inl rfl))
noncomputable def iterD:D→Rs (List D)
 | .lst ds=>.ok ds
 | .scr ns=>.ok (ns.map .int)
 | .tup ds=>.ok ds
 | .str x=>.ok (zB4 x)
 | _=>.no
noncomputable def iAny (fe:FE):FA:=fun τ=>(fe τ).bind iterD
theorem zn7 (he:PDE X e fe):PDI X tg e (iAny fe):=
 PI.imp (pi_any he) fun σ H R ⟨F,τ,Rv,h⟩=>tE.of Rv h.bind fun d v F1 H1 g x R1 r=>by
  cases d with
  | lst ds=>
   simp only [Rep] at r;obtain ⟨a,vs,rfl,q,t⟩:=r
   exact .inl ⟨a,rfl,⟨vs,SqL.of (R1.fh _ _ q)⟩,g _ F1 H1 x (yk9 (SqL.of q) t)⟩
  | scr ns=>
   simp only [Rep] at r;obtain ⟨a,rfl,q⟩:=r
   exact .inl ⟨a,rfl,⟨_,R1.fh.seq q⟩,g _ F1 H1 x (yk9 q (Reps.ints ns))⟩
  | tup ds=>
   simp only [Rep] at r;obtain ⟨a,vs,rfl,q,t⟩:=r
   exact .inr (.inl ⟨a,rfl,⟨vs,Same.seqT R1.fh q⟩,g _ F1 H1 x (it_tup q t)⟩)
  | str z=>simp only [Rep] at r;exact .inr (.inr ⟨z,r,g _ F1 H1 x it_str⟩)
  | _=>exact g.elim
end
noncomputable def DefOk (P:Program) (w:World) (K:PySem.W.Frag) (mg:Str→Option Value) (base:Heap) (x:Str) (k n:Nat) (ps:List Str) (g:List D→Rs D):Prop:=
 ∃ f fd,FnOk P w K mg base CX0 k f fd ps (spD K n g)∧Binds K fd ps []∧PySem.W.keepIn K (.ref f) = true∧mg x = some (.ref f)
structure DefAt (K:PySem.W.Frag) (mg:Str→Option Value) (x:Str) (st:Stmt) (f:Addr) (fd:FuncData):Prop where
 fn:Fun K x x st f fd
 at_:mg x = some (.ref f)
section
variable {P:Program} {w:World} {K:PySem.W.Frag} {mg:Str→Option Value} {base:Heap}
theorem DefOk.mk {x:Str} {st:Stmt} {f:Addr} {fd:FuncData} {N ps:List Str} {k n:Nat} {fb:FS} {g:List D→Rs D} (D:DefAt K mg x st f fd) (S:zf1 N ps (za7 st)) (hn:ps.length = n)
  (hb:∀ (kV doc pm:Value) (an:Option Addr) (cdv ct:Value) (us:List Value),us.length = ps.length→bindArgs (PySem.W.fnOf x x (ze7 st) (zd8 st) (za7 st) .none kV doc pm an cdv ct) ⟨us,[]⟩ = pure (ps.zip us))
  (hbody:∀ (cdv:Value) (A:Around) (outer:List Env) (s:Shared) (H:Hp) (E:XK),Room k (A.deeper (envOfC x (za7 st) s.heap.objs.size f cdv)) →
   PDSs (cxOf CX0 P w K mg base N x (za7 st) f cdv A outer s H E).nox (zd8 st) fb)
  (hg:∀ ds d,ds.length = n→g ds = .ok d→runF N.length fb ds = .ok d):DefOk P w K mg base x (k + 1) n ps g:=
 ⟨f,fd,FnD.to (fnD D.fn S hn hbody) hg,D.fn.binds hb,D.fn.kp,D.at_⟩
theorem DefOk.up {x:Str} {j k n:Nat} {ps:List Str} {g:List D→Rs D} (D:DefOk P w K mg base x j n ps g) (h:j≤k):DefOk P w K mg base x k n ps g:=
 let ⟨f,fd,F,r⟩:=D;⟨f,fd,F.mono h,r⟩
end
section
variable {X:Cx} {pos:Pos} {e tg:Expr} {es:List Expr} {fe:FE} {fs:FA}
theorem zc0 {k n:Nat} {ps:List Str} {g:List D→Rs D} {x:Str} {p:Pos} (D:DefOk X.prog X.w X.K X.mg X.base x k n ps g) (hr:Room k X.A) (ha:PDA X (e :: es) fs) (hfs:∀ τ ds,fs τ = .ok ds→ds.length = (e :: es).length) (hn:(e :: es).length = n:=by rfl) (hg:Gl X x:=by rfl) (hdb:(x == ("__debug__" : Str)) = false:=by decide)
  (he:starEach (e :: es) X.env = (false,eval e X.env) :: starEach es X.env:=by rfl) (hpl:(backTo pos (starEach es X.env)).any (·.1) = false:=by rfl):PDE X (.Call (.Name x p) (e :: es) [] pos) (eCall g fs):=by
 obtain ⟨f,fd,F,hb,hk,hm⟩:=D
 exact pde_call F hr hg hm hk hb ha hn hfs hdb he hpl
end
theorem zs2 {k:Nat} {A:Around} (r:Room k A):A.units + 128 < cLine:=by have:=r.un;omega
section
variable {X:Cx} {pos:Pos} {e a b:Expr} {fe fa fb:FE}
noncomputable def lst2:D→D→Option (List D×List D)
 | .lst x,.lst y=>some (x,y)
 | _,_=>none
noncomputable def eCat (fa fb:FE):FA:=fun τ=>(fa τ).bind fun x=>(fb τ).bind fun y=>match lst2 x y with
 | some (i,j)=>if i.length + j.length≤sizeLine then .ok (i ++ j) else .no
 | none=>.no
end
noncomputable def spLaw (K:PySem.W.Frag):Sp:=fun vs H Q _=>∃ (a:Addr) (ns:List Int) (F:Hp),vs = [.ref a]∧Same F H∧TbT F H∧SqL K F a (ns.map V.int)∧ns.length≤63∧∀ H',Q (.bl true) H'
theorem law_fn {P:Program} {w:World} {K:PySem.W.Frag} {mg:Str→Option Value} {base:Heap} {k:Nat} {g:List D→Rs D} {p:Str} {f:Addr} {fd:FuncData} (F:FnOk P w K mg base CX0 k f fd [p] (spD K 1 g)) (h:∀ ns:List Int,ns.length≤63→g [.scr ns] = .ok (.bl true)) :
  FnOk P w K mg base CX0 k f fd [p] (spLaw K):=by
 refine F.imp fun vs H Q E z_=>?_
 obtain ⟨a,ns,Fz,e,fh,tt,hS,h63,q⟩:=z_
 subst e
 refine ⟨rfl,[.scr ns],Fz,fh,tt,Reps.cons (by simp only [Rep];exact ⟨a,rfl,hS⟩) Reps.nil,?_⟩
 rw [h ns h63]
 intro v F' H' _ r
 simp only [Rep] at r
 subst r
 exact q H'
theorem walk {l:PySem.W.OpenLaw} {q:Program} {loose:List Str} {XP:(Str→Option Value)→Heap→Prop} {YP:World→Heap→Prop} {d:DefRec} {K:Params→PySem.W.Frag} {k:Nat} {p:Str} (hn:l.most = some 63) (hdf:d.params.defaults = []) (hk:Room k callerA)
  (hY:∀ (w:World) (h:Heap),YP w h→(K w.params).In h)
  (F:∀ (w:World) (mg:Str→Option Value) (fa:Addr) (h:Heap),(K w.params).In h→h.Ns mainGlobals mg→mg d.name = some (.ref fa) →
   ∃ fd:FuncData,(∀ (s:Shared) (u:Value),BindsTo s fd ⟨[u],[]⟩ [(p,u)])∧∀ base:Heap,(K w.params).In base→base.Ns mainGlobals mg→FnOk l.prog w (K w.params) mg base CX0 k fa fd [p] (spLaw (K w.params)))
  (ht:Tabs.rows = []:=by rfl) :
  PySem.W.WalkO q loose XP YP l.row.toRowW d [] (fun f vs=>PySem.call f vs):=
 L2.walk_of (n:=63) (k:=k) (x:=p) (CX:=fun _=>CX0) (sp:=fun w=>spLaw (K w.params)) hn (by decide) hdf hk hY F (fun _ H a ns hl hO hS=>⟨a,ns,H,rfl,Same.refl H,⟨(fun r hr=>by rw [ht] at hr;cases hr),fun d b e=>by rcases hO d with z | ⟨_,_,z⟩ <;> (rw [z] at e;cases e)⟩,hS,hl,fun _=>rfl⟩) fun _ _ _ _ _ z=>z
section
variable {X:Cx} {pos:Pos} {e tg:Expr} {es:List Expr} {fe:FE} {fs:FA}
noncomputable def bl1:List D→Option Bool
 | [.bl b]=>some b
 | _=>none
theorem bl1_eq {ds:List D} {b:Bool} (h:bl1 ds = some b):ds = [.bl b]:=by
 unfold bl1 at h;split at h <;> cases h;rfl
noncomputable def intD (ds:List D):Rs D:=match bl1 ds with
 | some b=>.ok (.int (if b then 1 else 0))
 | none=>.no
theorem yn3:CallD X (.type "int") intD:=⟨fun vs H Q=>∃ b,vs = [.bl b]∧Q (.int (if b then 1 else 0)) H,fun pins s σ H xs us Q I r z_=>by
  obtain ⟨b,e,q⟩:=z_
  subst e
  obtain ⟨u,rfl,ru⟩:=r.one
  cases ru
  exact call_int_bool ⟨.int (if b then 1 else 0),H,I.tok _,⟨_,rfl⟩,q⟩,fun F H vs ds Q fh r h=>by
  unfold intD at h
  cases q1:bl1 ds with
  | none=>rw [q1] at h;exact h.elim
  | some b=>
   rw [q1] at h
   have e:=bl1_eq q1
   subst e
   obtain ⟨v,rfl,q⟩:=r.one
   simp only [Rep] at q;subst q
   exact ⟨b,rfl,h _ F H (Ext.refl fh) (by simp only [Rep])⟩⟩
noncomputable def sTup (set:FG) (fe:FE):FS:=fun τ=>Fl.of (fe τ) fun d=>Fl.of (set d τ) fun τ'=>.nx τ'
theorem pds_pair {set:FG} {tg:Expr} (he:PDE X e fe) (hg:PDG X tg set) (hs:swapsWithSole [tg] e pos.line X.env = pure false:=by rfl) (hw:swappedStores [tg] e X.env = pure none:=by rfl)
  (h1:(assignEach [tg] X.env).map (·.2) = [assign tg X.env]:=by rfl):PDS X (.Assign [tg] e pos) (sTup set fe):=
 PS.imp (ps_asg he hg hs hw h1) fun E σ H ⟨B,Z,F,τ,R,h⟩=>tE.at R h.of fun d v F1 H1 g x R1 r=>
  ⟨F1,τ,d,R1.rv,r,g.of.imp fun τ' g' σ' _ RS' _=>g' σ' F1 H1 x.ff (RS' B Z R1)⟩
end
section
variable {X:Cx}
noncomputable def str11:D→List D→Option (Str×Str)
 | .str x,[.str y]=>some (x,y)
 | _,_=>none
theorem zX1 {d:D} {ds:List D} {x y:Str} (h:str11 d ds = some (x,y)):d = .str x∧ds = [.str y]:=by
 unfold str11 at h;split at h <;> cases h;exact ⟨rfl,rfl⟩
noncomputable def idxD (d:D) (ds:List D):Rs D:=match str11 d ds with
 | some (x,y)=>match Builtin.Str.occurrences x y 0 x.length 1 with
  | i :: _=>.ok (.int (i:Nat))
  | []=>.no
 | none=>.no
theorem mt_idx:MtR X "str.index" (fun v vs H Q=>∃ x y i r,v = .str x∧vs = [.str y]∧Builtin.Str.occurrences x y 0 x.length 1 = i :: r∧Q (.int (i:Nat)) H):=by
 intro pins s σ H v vs u us Q I r rs h
 obtain ⟨x,y,i,rr,rfl,rfl,ho,q⟩:=h
 obtain ⟨t,rfl⟩:=r
 obtain ⟨u',rfl,t',rfl⟩:=vals1 rs
 exact SC.index ho ⟨.int (i:Nat),H,I.tok _,⟨_,rfl⟩,q⟩
theorem md_idx:MtD X "str.index" idxD:=⟨_,mt_idx,fun F H v vs d ds Q fh r rs h=>by
 unfold idxD at h
 cases q:str11 d ds with
 | none=>rw [q] at h;exact h.elim
 | some xy=>
  obtain ⟨x,y⟩:=xy
  rw [q] at h
  obtain ⟨rfl,rfl⟩:=zX1 q
  simp only [Rep] at r;subst r
  obtain ⟨w,rfl,e⟩:=rs.one
  simp only [Rep] at e;subst e
  cases q2:Builtin.Str.occurrences x y 0 x.length 1 with
  | nil=>simp only [q2] at h;exact h.elim
  | cons i rr=>
   simp only [q2] at h
   exact ⟨x,y,i,rr,rfl,rfl,q2,h _ F H (Ext.refl fh) (by simp only [Rep])⟩⟩
noncomputable def zK0:D→D→Option (Str×Int)
 | .str x,.int k=>some (x,k)
 | _,_=>none
theorem yc0 {d e:D} {x:Str} {k:Int} (h:zK0 d e = some (x,k)):d = .str x∧e = .int k:=by
 unfold zK0 at h;split at h <;> cases h;exact ⟨rfl,rfl⟩
noncomputable def mulSD (d e:D):Rs D:=match zK0 d e with
 | some (x,k)=>if x.length≤1000∧0≤k∧k≤1000 then .ok (.str ⟨(List.replicate k.toNat x.cps.toList).flatten.toArray⟩) else .no
 | none=>.no
theorem ya9:∀ (n:Nat) (a b:Array Nat),((List.replicate n a).foldl (· ++ ·) b).toList = b.toList ++ (List.replicate n a.toList).flatten
 | 0,a,b=>by simp
 | n + 1,a,b=>by
  rw [List.replicate_succ,List.foldl_cons,ya9 n a (b ++ a),List.replicate_succ,List.flatten_cons]
  simp
theorem op_mulS:OpR X (binaryOp .Mult) (fun x y H Q=>∃ i k,x = .str i∧y = .int k∧i.length≤1000∧0≤k∧k≤1000∧Q (.str ⟨(List.replicate k.toNat i.cps.toList).flatten.toArray⟩) H):=by
 intro pins s σ H x y v u Q I rx ry h
 obtain ⟨i,k,rfl,rfl,hi,h0,h1,q⟩:=h
 obtain ⟨t,rfl⟩:=rx
 obtain ⟨t',rfl⟩:=ry
 have fin:∀ (z:Str) (t'':Tok) (c:Nat),z = ⟨(List.replicate k.toNat i.cps.toList).flatten.toArray⟩→EP X pins σ Q (.str z t'') { s with toks:=c }:=fun z t'' c e=>by
  subst e
  exact ⟨.str _,H,I.tok _,⟨_,rfl⟩,q⟩
 have hm:i.length * k.toNat≤1000000:=Nat.le_trans (Nat.mul_le_mul hi (show k.toNat≤1000 by omega)) (by decide)
 refine PySem.P.mul_str (by rw [decide_eq_false (by omega),decide_eq_false (by omega)];rfl) (fun _ _=>?_) (fun _ _=>?_) ?_
 ·have hk:1≤k:=by omega
  have:(1000:Int)≤(2 ^ 63 - 1) / k:=by
   rw [Int.le_ediv_iff_mul_le (by omega)]
   omega
  have hi':(i.length:Int)≤1000:=by omega
  omega
 ·show decide (i.length * k.toNat > sizeLine) = false
  rw [sizeLine_eq]
  exact decide_eq_false (by omega)
 ·by_cases h2:k < 1
  ·have:k = 0:=by omega
   subst this
   rw [if_pos h2]
   exact ⟨by rw [sizeLine_eq];show 0≤_;omega,fin _ _ _ rfl⟩
  ·rw [if_neg h2]
   by_cases h3:(k == 1 || i.length == 0) = true
   ·rw [if_pos h3]
    refine fin _ t s.toks ?_
    simp only [Bool.or_eq_true,beq_iff_eq] at h3
    rcases h3 with h3 | h3
    ·subst h3
     show i = _
     obtain ⟨c⟩:=i
     simp
    ·obtain ⟨c⟩:=i
     have hc:c.toList = []:=by
      have:c.size = 0:=h3
      exact List.eq_nil_of_length_eq_zero (by simpa using this)
     show Str.mk c = _
     have hc2:c = #[]:=by simpa using hc
     subst hc2
     congr 1
     have:(List.replicate k.toNat ([]:List Nat)).flatten = []:=by simp
     simp
   ·rw [if_neg h3]
    have e:(⟨(List.replicate k.toNat i.cps).foldl (· ++ ·) #[]⟩:Str) = ⟨(List.replicate k.toNat i.cps.toList).flatten.toArray⟩:=by
     have:=ya9 k.toNat i.cps #[]
     congr 1
     apply Array.toList_inj.mp
     rw [this];simp
    rw [e]
    refine ⟨?_,fin _ _ _ rfl⟩
    rw [sizeLine_eq]
    show (List.replicate k.toNat i.cps.toList).flatten.toArray.size≤_
    rw [List.size_toArray,yk2,Array.length_toList]
    have:i.cps.size = i.length:=rfl
    rw [this,Nat.mul_comm]
    omega
theorem zY6:OpD X (binaryOp .Mult) mulSD:=⟨_,op_mulS,fun F H x y dx dy Q fh r1 r2 h=>by
 unfold mulSD at h
 cases q:zK0 dx dy with
 | none=>rw [q] at h;exact h.elim
 | some xy=>
  obtain ⟨i,k⟩:=xy
  rw [q] at h
  obtain ⟨rfl,rfl⟩:=yc0 q
  simp only [Rep] at r1 r2;subst r1;subst r2
  obtain ⟨z,h⟩:=zl6 h
  exact ⟨i,k,rfl,rfl,z.1,z.2.1,z.2.2,h _ F H (Ext.refl fh) (by simp only [Rep])⟩⟩
end
section
variable {rest:List Expr} {env:Env}
end
noncomputable def Itn (K:PySem.W.Frag) (l:Addr):It:=
 ⟨fun k H=>∃ vs,SqL K H l vs∧k < vs.length,
  fun k H y H'=>∃ p v,H p = none∧(∀ vs,SqL K H l vs→vs[k]? = some v)∧y = .ref p∧H' = upd H p (.tup [.int k,v]),
  fun k H=>∃ vs,SqL K H l vs∧vs.length≤k⟩
theorem ye6 {P:Program} {w:World} {K:PySem.W.Frag} {elts:List Expr} {x1} {pos:Pos} {e it l:Addr} (D:e≠it) :
  Turn P w K (.Tuple elts x1 pos) (Itn K l) [e,it] e (fun k h=>(∃ old,IsEnum h e it (k:Nat) old)∧h.IsListIter it l k) where
 mem:=by simp
 obj:=fun k h ⟨⟨old,h1⟩,⟨o5,e5,c5,d5⟩⟩ b hb=>by
  simp at hb
  rcases hb with rfl | rfl
  ·exact ⟨_,h1,fun v z=>by cases z⟩
  ·exact ⟨_,e5,fun v z=>by rw [d5] at z;cases z⟩
 keep:=fun k h h' ⟨⟨old,h1⟩,h5⟩ hk=>⟨⟨old,hk e (by simp) _ h1⟩,h5.at fun o q=>hk it (by simp) o q⟩
 item:=by
  rintro X hP hw hK hc k pins s σ H E I hf ⟨⟨old,h1⟩,h5⟩ hg
  subst hP hw hK
  obtain ⟨vs,hq,l2⟩:=hg
  obtain ⟨its,rv,p,hz⟩:=I.list hq
  have hlen:=rv.length
  have hvk:vs[k]? = some vs[k]:=by simp [l2]
  obtain ⟨u2,eu,ru⟩:=rv.get hvk
  refine wpAny_pyNext_enum_item (x:=u2) h1 h5 p.isList (by simpa using eu) D fun h' q1 q2 q3 q4 q5=>?_
  have np:s.heap.objs.size≠e:=Nat.ne_of_gt (Heap.lt_size h1)
  refine ⟨_,rfl,wpAny_letOwnedTupleGo_enum (s:={ s with heap:=h',toks:=s.toks + 1 }) q1 fun h'' z1 sb=>?_⟩
  refine ⟨.ref s.heap.objs.size,upd H s.heap.objs.size (.tup [.int k,vs[k]]),?_,rfl,⟨_,vs[k],I.hok.fresh (Nat.le_refl _),fun ws hw=>by rw [I.list_inj hw hq];exact hvk,rfl,rfl⟩,⟨⟨_,by simpa using z1⟩,?_⟩,fun b hb=>?_⟩
  ·refine (turnedT (s:=s) (h':=h'') (t':=s.toks + 1) (xs:=[.int k,vs[k]]) (ch:=[e,it]) I (fun b o hb q=>?_) hf (Nat.le_refl _) ⟨_,sb.extBut _ _ np q3,rfl,_,rfl⟩ (.cons ⟨_,rfl⟩ (.cons ru .nil)) (by show 2≤sizeLine;decide):Inv X pins σ _ { s with heap:=h'',toks:=s.toks + 1 })
   simp at hb
   exact sb.extBut _ _ hb.1 (q5 b o hb.1 hb.2 q)
  ·obtain ⟨o,q,r⟩:=q2
   exact ⟨o,sb.extBut _ _ (Ne.symm D) q,r⟩
  ·have lt:b < s.heap.objs.size:=by
    simp at hb
    rcases hb with rfl | rfl
    ·exact Heap.lt_size h1
    ·obtain ⟨o,q,r⟩:=h5
     exact Heap.lt_size q
   rw [ze2 (Nat.ne_of_lt lt)]
   exact (hf b hb).1
 done:=by
  rintro X hP hw hK hc k pins s σ H E I hf ⟨⟨old,h1⟩,h5⟩ hg
  subst hP hw hK
  obtain ⟨vs,hq,hend⟩:=hg
  obtain ⟨its,rv,p,hz⟩:=I.list hq
  have hlen:=rv.length
  obtain ⟨f0,f1,f2,f3,f4,f5⟩:=hf it (by simp)
  exact wpAny_pyNext_enum_end (I.ok.hd hc) h1 h5 p.isList (by simp;omega) fun h' eb=>⟨rfl,I.turned (t':=s.toks) (fun b o hb q=>eb b o hb q) f0 f1 f3 f4 f5⟩
 self:=fun _ _ _ _ _ ⟨⟨_,h1⟩,_⟩ h=>wpAny_pyIter_enum h1 h
section
variable {X:Cx} {pos:Pos} {e a b:Expr} {es:List Expr} {fe fa fb:FE} {fs:FA}
noncomputable def iEnumT (K:PySem.W.Frag) (ta:TA):TI:=fun σ H R=>ta σ H fun vs H1=>∃ l ws,vs = [.ref l]∧SqL K H1 l ws∧R (Itn K l) H1
theorem pi_enum {ta:TA} {p:Pos} {elts:List Expr} {x1} {tpos:Pos} (hg:Gl X "enumerate") (hm:X.mg "enumerate" = none) (ha:PA X [a] ta) (hs:starEach [a] X.env = [(false,eval a X.env)]:=by rfl) :
  PI X (.Tuple elts x1 tpos) (.Call (.Name "enumerate" p) [a] [] pos) (iEnumT X.K ta):=by
 intro pins s σ H R I h
 refine Call_ (zx1 I hg hm boot_enumerate (PyProof.Rows.callWith_type1 (thn (ha pos pins s σ H _ I h) fun us s1 ⟨vs,H1,I1,r1,q1⟩=>?_) (by rw [hs];rfl) rfl))
 obtain ⟨l,ws,e,hq,q⟩:=q1
 subst e
 obtain ⟨u1,rfl,ru⟩:=vals1 r1
 cases ru
 obtain ⟨its,rr,pp,hz⟩:=I1.list hq
 refine call_enumerate_list pp.isList fun h' g1 g2 g3 g4=>?_
 have I5:Inv X pins σ H1 { s1 with heap:=h' }:=I1.kept (t':=s1.toks) g4
 refine wpAny_pyIter_enum (s:={ s1 with heap:=h' }) g1 ?_
 refine ⟨s1.heap.objs.size + 1,[s1.heap.objs.size + 1,s1.heap.objs.size],_,_,H1,rfl,I5,ye6 (l:=l) (by show (_:Nat)≠_;omega),⟨⟨_,g1⟩,g2⟩,fun b hb=>?_,q⟩
 have hb':s1.heap.objs.size≤b:=by
  simp at hb
  rcases hb with rfl | rfl <;> (show s1.heap.objs.size≤(_:Nat);omega)
 obtain ⟨f0,f1,f2,f3,f4,f5⟩:=I1.fpOk (H':=H1) hb' (I1.hok.fresh hb')
 exact ⟨f0,f1,f2,f3,f4,f5⟩
noncomputable def zk6 (n:Nat):List D→List D
 | []=>[]
 | d :: r=>.tup [.int n,d] :: zk6 (n + 1) r
theorem zB8:∀ (ds:List D) (n:Nat),(zk6 n ds).length = ds.length
 | [],_=>rfl
 | _ :: r,n=>by simp [zk6,zB8 r]
theorem zB9:∀ {ds:List D} {n i:Nat} {p:D},(zk6 n ds)[i]? = some p→∃ d,ds[i]? = some d∧p = .tup [.int ((n + i:Nat):Int),d]
 | [],_,_,_,h=>by simp [zk6] at h
 | d :: ds,n,0,p,h=>by simp [zk6] at h;exact ⟨d,rfl,by simpa using h.symm⟩
 | d :: ds,n,i + 1,p,h=>by
  obtain ⟨d',h2,h3⟩:=zB9 (n:=n + 1) (i:=i) (by simpa [zk6] using h)
  exact ⟨d',by simpa using h2,by rw [h3];congr 3;show ((n + 1 + i:Nat):Int) = _;congr 1;omega⟩
theorem it_enum {K:PySem.W.Frag} {F1:Hp} {l:Addr} {ds:List D} {vs:List V} (e:SqL K F1 l vs) (r:Reps K F1 ds vs):ItOk K (Itn K l) F1 (zk6 0 ds):=fun i F H f1 f2=>by
 have q:SqL K H l vs:=(f1.trans f2).seq e
 have hl:=zB8 ds 0
 have hr:=r.length
 refine ⟨fun h=>⟨vs,q,by omega⟩,fun p hp=>?_⟩
 obtain ⟨d,h2,rfl⟩:=zB9 hp
 have l2:i < vs.length:=by have:=(List.getElem?_eq_some_iff.mp h2).1;omega
 refine ⟨⟨vs,q,l2⟩,fun y H' yy=>?_⟩
 obtain ⟨pa,v,hp,q',rfl,rfl⟩:=yy
 refine ⟨upd F pa (.tup [.int i,v]),Ext.new f2 hp,?_⟩
 simp only [Rep]
 refine ⟨pa,_,rfl,SqT.of ze6,Reps.cons (by simp only [Rep,Nat.zero_add]) (Reps.cons ?_ Reps.nil)⟩
 obtain ⟨v',hv',rv'⟩:=r.get h2
 have e3:=q' vs q
 rw [hv'] at e3;cases e3
 exact (rv'.mono f1).mono (zk0 (zh1 f2 hp))
noncomputable def lstq:List D→Option (List D)
 | [.lst ds]=>some ds
 | _=>none
theorem lstq_eq {ds xs:List D} (h:lstq ds = some xs):ds = [.lst xs]:=by
 unfold lstq at h;split at h <;> cases h;rfl
noncomputable def iEn (fs:FA):FA:=fun τ=>(fs τ).bind fun ds=>match lstq ds with
 | some xs=>.ok (zk6 0 xs)
 | none=>.no
theorem zL3 {p:Pos} {elts:List Expr} {x1} {tpos:Pos} (hg:Gl X "enumerate") (hm:X.mg "enumerate" = none) (ha:PDA X [a] fs) (hs:starEach [a] X.env = [(false,eval a X.env)]:=by rfl) :
  PDI X (.Tuple elts x1 tpos) (.Call (.Name "enumerate" p) [a] [] pos) (iEn fs):=
 PI.imp (pi_enum hg hm ha hs) fun σ H R ⟨F,τ,Rv,h⟩=>tAs.of Rv h.bind fun ds vs F1 H1 g x R1 r=>by
  cases q1:lstq ds with
  | none=>rw [q1] at g;exact g.elim
  | some xs=>
   rw [q1] at g
   have e:=lstq_eq q1
   subst e
   obtain ⟨v,rfl,r1⟩:=r.one
   simp only [Rep] at r1
   obtain ⟨l,ws,rfl,e1,t⟩:=r1
   exact ⟨l,ws,rfl,SqL.of (R1.fh _ _ e1),g _ F1 H1 x (it_enum (SqL.of e1) t)⟩
theorem zy1:∀ (l:List Str) (t:Nat),Vals (l.map V.str) (strsFrom t l)
 | [],_=>.nil
 | x :: r,t=>.cons ⟨t,rfl⟩ (zy1 r (t + 1))
theorem zQ0 {K:PySem.W.Frag} {F:Hp}:∀ (l:List Str),Reps K F (l.map D.str) (l.map V.str)
 | []=>Reps.nil
 | x :: r=>Reps.cons (by simp only [Rep]) (zQ0 r)
noncomputable def zD7 (x y:Str):Prop:=0 < y.length∧x.length + 2≤sizeLine∧(Txt.split x y).length≤sizeLine
instance (x y:Str):Decidable (zD7 x y):=by unfold zD7;exact inferInstance
noncomputable def zB2 (d:D) (ds:List D):Rs D:=match str11 d ds with
 | some (x,y)=>if zD7 x y then .ok (.lst ((Txt.split x y).map .str)) else .no
 | none=>.no
theorem mt_split:MtR X "str.split" (fun v vs H Q=>∃ x y,v = .str x∧vs = [.str y]∧zD7 x y∧∀ p,H p = none→Q (.ref p) (upd H p (.lst ((Txt.split x y).map .str)))):=by
 intro pins s σ H v vs u us Q I r rs h
 obtain ⟨x,y,rfl,rfl,⟨z1,z2,z3⟩,q⟩:=h
 obtain ⟨t,rfl⟩:=r
 obtain ⟨u',rfl,t',rfl⟩:=vals1 rs
 have hf:H s.heap.objs.size = none:=I.hok.fresh (Nat.le_refl _)
 have hy:(y.length == 0) = false:=by simp;omega
 have fin:∀ (ws:List Value) (tk:Nat),Vals ((Txt.split x y).map V.str) ws→EP X pins σ Q (.ref s.heap.objs.size) { s with heap:=s.heap.push { cls:=.type "list", data:=.seq ws.toArray },toks:=tk }:=fun ws tk hv=>
  ⟨.ref s.heap.objs.size,upd H s.heap.objs.size (.lst ((Txt.split x y).map .str)),I.laid (t':=tk) (fun b u e=>Heap.get?_push_of_some _ e) (Nat.le_refl _) ⟨by simpa using z3,ws,0,hv,Heap.get?_push_size _ rfl⟩,rfl,q _ hf⟩
 unfold Txt.split at fin z3
 cases c1:(decide (x.length < y.length) || decide (Builtin.Str.strKind x < Builtin.Str.strKind y)) with
 | true=>
  rw [c1] at fin
  refine call_meets F.slot_str_split rfl F.entry_str_split (F.args_str_split_2 _ _) (meets_str_split_cannot_occur x y t t' c1) ?_
  exact fin [.str x t] s.toks (.cons ⟨t,rfl⟩ .nil)
 | false=>
  rw [c1] at fin z3
  cases c2:(Builtin.Str.occurrences x y 0 x.length (x.length + 1)).isEmpty with
  | true=>
   rw [c2] at fin
   refine call_meets F.slot_str_split rfl F.entry_str_split (F.args_str_split_2 _ _) (meets_str_split_not_found x y t t' c1 hy c2) ?_
   exact fin [.str x t] s.toks (.cons ⟨t,rfl⟩ .nil)
  | false=>
   rw [c2] at fin z3
   refine call_meets F.slot_str_split rfl F.entry_str_split (F.args_str_split_2 _ _) (meets_str_split_sep x y t t' c1 hy c2 (by omega) z3) ?_
   exact fin _ _ (zy1 _ _)
theorem md_split:MtD X "str.split" zB2:=⟨_,mt_split,fun F H v vs d ds Q fh r rs h=>by
 unfold zB2 at h
 cases q:str11 d ds with
 | none=>rw [q] at h;exact h.elim
 | some xy=>
  obtain ⟨x,y⟩:=xy
  rw [q] at h
  obtain ⟨rfl,rfl⟩:=zX1 q
  simp only [Rep] at r;subst r
  obtain ⟨w,rfl,e⟩:=rs.one
  simp only [Rep] at e;subst e
  obtain ⟨z,h⟩:=zl6 h
  refine ⟨x,y,rfl,rfl,z,fun p hp=>h _ _ _ (Ext.new fh hp) ?_⟩
  simp only [Rep]
  exact ⟨p,_,rfl,ze6,zQ0 _⟩⟩
end
section
variable {X:Cx} {pos:Pos} {e a b:Expr} {es:List Expr} {fe fa fb:FE} {fs:FA}
end
section
variable {X:Cx} {pos:Pos} {e a b:Expr} {es:List Expr} {fe fa fb:FE} {fs:FA}
end
section
variable {X:Cx} {pos:Pos} {e a b:Expr} {es:List Expr} {fe fa fb:FE} {fs:FA}
end
noncomputable def BM (mg:Str→Option Value) (base:Heap):Prop:=∃ bm o,mg "__builtins__" = some (.ref bm)∧bm≠builtinsNs∧base.get? bm = some o∧o.cls = .type "module" ∧ o.dict = some builtinsNs∧o.data = .plain
noncomputable def OnlyM (ts:List Addr) (H:Hp):Prop:=∀ b,H b = none∨(∃ o xs,H b = some (.frz o (.lst xs)))∨(b∈ts∧H b = some (.tbl #[]))
theorem yk6 {P:Program} {w:World} {K:PySem.W.Frag} {mg mb:Str→Option Value} {CX:CXT} {k:Nat} {fa a:Addr} {fd:FuncData} {x:Str} {sp:Sp} {s₁:Shared} {vs:List Value} {ns:List Int} {ts:List Addr}
  (KX:K.In s₁.heap) (hns:s₁.heap.Ns mainGlobals mg) (hb:s₁.heap.Ns builtinsNs mb) (hbb:∀ x:Str,x ≠ "__name__" → mb x = bootBuiltins x) (hlim:s₁.heap.NoLimit) (hg:s₁.gens = #[])
  (ha:s₁.heap.get? a = some { cls:=.type "list", data:=.seq vs.toArray }) (hi:IntsAre vs ns) (hl:ns.length≤sizeLine) (hr:Room k callerA)
  (tb:∀ p∈ts,K.lookup p = none∧s₁.heap.get? p = some (PySem.W.tabObj #[])∧isCodeTable s₁.heap p)
  (hbm:BM mg s₁.heap) (F:∀ base:Heap,K.In base→base.Ns mainGlobals mg→BM mg base→FnOk P w K mg base CX k fa fd [x] sp) (hbind:∀ (s:Shared) (u:Value),BindsTo s fd ⟨[u],[]⟩ [(x,u)])
  (hsp:∀ H F:Hp,OnlyM ts H→Same F H→(∀ p∈ts,F p = none∧H p = some (.tbl #[]))→SqL K F a (ns.map V.int)→sp [.ref a] H (fun v H'=>v = .bl true) fun _ _ _=>False)
  (hCX:∀ H e s',CX [] H s₁ (fun _ _ _=>False) e s'→False) :
  codeAny (model P w) callerA (.call (.ref fa) ⟨[.ref a],[]⟩) (fun r s'=>r = .ok (.ret (.bool true))∧OldK s₁.heap s'.heap∧s'.os = s₁.os∧AllBare s'.gens) s₁:=by
 have rv:=zD5 hi
 have lenV:=hi.length
 have nat:a∉ts:=fun z=>by
  obtain ⟨_,e,_⟩:=tb a z
  rw [ha] at e;cases e
 have core:∀ H F:Hp,OnlyM ts H→Same F H→(∀ p∈ts,F p = none∧H p = some (.tbl #[]))→SqL K F a (ns.map V.int)→HOk P w H s₁.heap→(∀ b,H b≠none→b = a∨b∈ts)→(H a≠none→K.lookup a = none) →
   codeAny (model P w) callerA (.call (.ref fa) ⟨[.ref a],[]⟩) (fun r s'=>r = .ok (.ret (.bool true))∧OldK s₁.heap s'.heap∧s'.os = s₁.os∧AllBare s'.gens) s₁:=by
  intro H Fz hO fh hT hS hok hA hK
  have base_of:∀ {b:Addr} {o:Obj},s₁.heap.get? b = some o→H b = none→(hidT s₁.heap H).get? b = some o:=fun e n=>ya6 e n
  have noA:∀ {b:Addr} {o:Obj} {es:Array DictEntry} {ep:Nat},s₁.heap.get? b = some o→o.data = .dict es ep→H b = none:=fun {b o es ep} e d=>by
   cases q:H b with
   | none=>rfl
   | some u=>
    rcases hA b (by rw [q];simp) with e' | e'
    ·subst e'
     rw [ha] at e;cases e
     have d':Data.seq vs.toArray _ = Data.dict es ep:=d
     cases d'
    ·obtain ⟨_,e2,_⟩:=tb b e'
     rw [e] at e2;cases e2
     cases d
  have nsK:∀ {b:Addr} {m:Str→Option Value},s₁.heap.Ns b m→(hidT s₁.heap H).Ns b m:=fun {b m} ⟨o,es,ep,e,d,r⟩=>⟨o,es,ep,base_of e (noA e d),d,r⟩
  have hKb:K.In (hidT s₁.heap H):=fun b o e=>base_of (KX b o e) (by
   cases q:H b with
   | none=>rfl
   | some u=>
    rcases hA b (by rw [q];simp) with e' | e'
    ·subst e'
     rw [hK (by rw [q];simp)] at e;cases e
    ·rw [(tb b e').1] at e;cases e)
  have hM:Mod K mg (hidT s₁.heap H):=⟨hKb,nsK hns,⟨mb,nsK hb,hbb⟩,let ⟨mc,h1,h2⟩:=hlim;⟨mc,nsK h1,h2⟩⟩
  have e0:Env0 P w K mg (hidT s₁.heap H) callerA [] s₁ H:=⟨rfl,hM,fun b o e=>yi5 e,Nat.le_of_eq (zS9 _ _),trivial,fun b hb=>absurd (show b∈([]:List Addr) from hb) (by simp),hok,.of_eq hg⟩
  have hbb:BM mg (hidT s₁.heap H):=by
   obtain ⟨bm,o,b1,b2,b3,b4,b5,b6⟩:=hbm
   refine ⟨bm,o,b1,b2,base_of b3 ?_,b4,b5,b6⟩
   cases q:H bm with
   | none=>rfl
   | some u=>
    rcases hA bm (by rw [q];simp) with e' | e'
    ·subst e'
     rw [ha] at b3;cases b3;cases b6
    ·obtain ⟨_,e2,_⟩:=tb bm e'
     rw [b3] at e2;cases e2;cases b6
  refine codeAny_mono ((F _ hKb (nsK hns) hbb).run callerA [] s₁ H ⟨[.ref a],[]⟩ [.ref a] [.ref a] _ _ hr e0 (hbind s₁ (.ref a)) (.cons rfl .nil) (hsp H Fz hO fh hT hS)) fun r s' h=>?_
  cases r with
  | error e=>exact (hCX H e s' h).elim
  | ok fl=>
   cases fl with
   | next=>exact False.elim h
   | brk=>exact False.elim h
   | cont=>exact False.elim h
   | ret u=>
    obtain ⟨v,H',os,bare,un,hok',r',q'⟩:=h
    subst q'
    obtain rfl:u = Value.bool true:=r'
    have was:∀ b o,s₁.heap.get? b = some o→asItWas s₁.heap s'.heap b o:=fun b o e=>by
     cases q:H b with
     | none=>exact .inl (un.keep b o e q (by intro z;exact absurd (show b∈([]:List Addr) from z) (by simp)) (by simp))
     | some u=>
      rcases hO b with z | ⟨ob,xs,z⟩ | ⟨hb,z⟩
      ·rw [q] at z;cases z
      ·have z2:=un.frzs b ob _ z
       obtain ⟨e1,_⟩:=hok b _ z
       obtain ⟨e2,_⟩:=hok' b _ z2
       rw [e] at e1;cases e1
       exact .inl e2
      ·obtain ⟨more,z2⟩:=un.tbls b _ z
       have e2:s'.heap.get? b = some { cls:=.none,data:=.fields (#[] ++ more) }:=hok' b _ z2
       obtain ⟨_,e3,e4⟩:=tb b hb
       rw [e] at e3;cases e3
       exact .inr (.inl ⟨e4,rfl,#[],more,rfl,e2⟩)
    refine ⟨rfl,⟨was,fun b o e=>?_⟩,os,bare⟩
    obtain ⟨o',e'⟩:=un.there b o e (by simp)
    exact ⟨o',e'⟩
 cases hk:K.lookup a with
 | some o=>
  have e:=KX a o hk
  rw [ha] at e
  cases e
  refine core (fun b=>if b∈ts then some (.tbl #[]) else none) (fun _=>none) (fun b=>?_) (fun _ _ z=>nomatch z) (fun p hp=>⟨rfl,if_pos hp⟩) (.inr ⟨_,vs.toArray,_,hk,rfl,rfl,rfl,by rw [List.size_toArray,lenV];exact hl,by simpa using rv⟩) (fun b u z=>?_) (fun b z=>?_) fun z=>absurd (if_neg nat) z
  ·by_cases h:b∈ts
   ·exact .inr (.inr ⟨h,if_pos h⟩)
   ·exact .inl (if_neg h)
  ·by_cases h:b∈ts
   ·have z':=(if_pos h).symm.trans z
    cases z'
    exact (tb b h).2.1
   ·have z':=(if_neg h).symm.trans z
    cases z'
  ·by_cases h:b∈ts
   ·exact .inr h
   ·exact absurd (if_neg h) z
 | none=>
  refine core (fun b=>if b∈ts then some (.tbl #[]) else if b = a then some (.frz { cls:=.type "list", data:=.seq vs.toArray } (.lst (ns.map V.int))) else none) (fun b=>if b = a then some (.frz { cls:=.type "list", data:=.seq vs.toArray } (.lst (ns.map V.int))) else none) (fun b=>?_) (fun b o z=>?_) (fun p hp=>⟨if_neg (fun z:p = a=>nat (z ▸ hp)),if_pos hp⟩) (.inl (.inr ⟨{ cls:=.type "list", data:=.seq vs.toArray },if_pos rfl⟩)) (fun b u z=>?_) (fun b z=>?_) fun _=>hk
  ·by_cases h:b∈ts
   ·exact .inr (.inr ⟨h,if_pos h⟩)
   ·by_cases hb:b = a
    ·exact .inr (.inl ⟨_,_,(if_neg h).trans (if_pos hb)⟩)
    ·exact .inl ((if_neg h).trans (if_neg hb))
  ·by_cases hb:b = a
   ·have z':=(if_pos hb).symm.trans z
    cases z'
    subst hb
    exact (if_neg nat).trans (if_pos rfl)
   ·have z':=(if_neg hb).symm.trans z
    cases z'
  ·by_cases h:b∈ts
   ·have z':=(if_pos h).symm.trans z
    cases z'
    exact (tb b h).2.1
   ·have z1:=(if_neg h).symm.trans z
    by_cases hb:b = a
    ·have z':=(if_pos hb).symm.trans z1
     cases z'
     subst hb
     exact ⟨ha,by rw [List.length_map];exact hl,vs,_,rv,ha⟩
    ·have z':=(if_neg hb).symm.trans z1
     cases z'
  ·by_cases h:b∈ts
   ·exact .inr h
   ·by_cases hb:b = a
    ·exact .inl hb
    ·exact absurd ((if_neg h).trans (if_neg hb)) z
theorem zV5 {K:PySem.W.Frag} {p:Addr} (h:p∉K.map (·.1)):K.lookup p = none:=by
 rw [show K.lookup p = List.lookup p K from rfl,List.lookup_eq_none_iff]
 intro q hq
 simp only [bne_iff_ne,ne_eq,beq_eq_false_iff_ne]
 intro z
 exact h (List.mem_map.mpr ⟨q,hq,z.symm⟩)
noncomputable def TabsIn (K:PySem.W.Frag):Prop:=∀ r∈Tabs.rows,∃ c,PySem.W.codeHdIn K c r.1 = true
theorem walkM {l:PySem.W.OpenLaw} {q:Program} {loose:List Str} {XP:(Str→Option Value)→Heap→Prop} {d:DefRec} {K:Params→PySem.W.Frag} {k:Nat} {p:Str} {as ts:List Addr} {has:∀ P,as = (K P).map (·.1)} (hn:l.most = some 63) (hdf:d.params.defaults = []) (hk:Room k callerA)
  (hts:(Tabs.rows.all fun r=>ts.contains r.1 && !as.contains r.1) = true)
  (F:∀ (w:World) (mg:Str→Option Value) (fa:Addr) (h:Heap),(K w.params).In h→h.Ns mainGlobals mg→mg d.name = some (.ref fa)→TabsIn (K w.params) ∧
   ∃ fd:FuncData,(∀ (s:Shared) (u:Value),BindsTo s fd ⟨[u],[]⟩ [(p,u)])∧∀ base:Heap,(K w.params).In base→base.Ns mainGlobals mg→BM mg base→FnOk l.prog w (K w.params) mg base CX0 k fa fd [p] (spLaw (K w.params))) :
  PySem.W.WalkO q loose XP (PySem.W.kmHook K as has ts).says l.row.toRowW d [] (fun f vs=>PySem.call f vs):=by
 refine Att.attach_call hn hdf fun w s₀ s₁ mg mb fa o pm cd doc a vs ns G Y ho hd hcd hmg hobj hints hlen hg=>?_
 have KX:=PySem.W.km_in_of Y
 have hT:=PySem.W.km_tabs_of Y
 obtain ⟨tin,fd,hb,hF⟩:=F w mg fa _ KX G.T.g hmg
 refine yk6 (ts:=Tabs.rows.map (·.1)) (CX:=CX0) (sp:=spLaw (K w.params)) KX G.T.g G.T.b G.T.builtins G.T.nolimit hg hobj hints (Nat.le_trans hlen (by decide)) hk (fun p hp=>?_) ?_ hF hb (fun H Fz hO fh hT hS=>⟨a,ns,Fz,rfl,fh,⟨fun r hr=>?_,fun d b e=>(by rcases hO d with z | ⟨_,_,z⟩ | ⟨_,z⟩ <;> (rw [z] at e;cases e))⟩,hS,hlen,fun _=>rfl⟩) fun H e s' z=>z
 ·obtain ⟨r,hr,rfl⟩:=List.mem_map.mp hp
  have z:=List.all_eq_true.mp hts r hr
  rw [Bool.and_eq_true] at z
  have hp':=hT r.1 (by simpa using z.1)
  obtain ⟨c,hc⟩:=tin r hr
  refine ⟨zV5 (by rw [← has];simpa using z.2),hp',?_⟩
  exact ((PySem.W.codeHd_of_K KX hc).tab hp').isCodeTable
 ·obtain ⟨bm,ob,b1,b2,b3,b4,b5,b6⟩:=G.T.bmain
  exact ⟨bm,ob,b1,b2,b3,b4,b5,b6⟩
 ·obtain ⟨h1,h2⟩:=hT r.1 (List.mem_map.mpr ⟨r,hr,rfl⟩)
  exact ⟨h1,.inl h2⟩
open PySem.W
noncomputable def lxI:List Int→List Int→Bool
 | [],[]=>false
 | [],_ :: _=>true
 | _ :: _,[]=>false
 | a :: x,b :: y=>if a = b then lxI x y else decide (a < b)
theorem zI3:∀ x:List Int,lxI x x = false
 | []=>rfl
 | a :: x=>by rw [lxI,if_pos rfl];exact zI3 x
theorem yj2:∀ x y:List Int,lxI x y = false→lxI y x = false→x = y
 | [],[],_,_=>rfl
 | [],_ :: _,h,_=>by simp [lxI] at h
 | _ :: _,[],_,h=>by simp [lxI] at h
 | a :: x,b :: y,h1,h2=>by
  rw [lxI] at h1 h2
  by_cases e:a = b
  ·subst e
   rw [if_pos rfl] at h1 h2
   rw [yj2 x y h1 h2]
  ·rw [if_neg e] at h1
   rw [if_neg (Ne.symm e)] at h2
   simp only [decide_eq_false_iff_not] at h1 h2
   omega
theorem zs4:∀ x y z:List Int,lxI x y = true→lxI y z = true→lxI x z = true
 | [],[],_,h,_=>by simp [lxI] at h
 | _ :: _,[],_,h,_=>by simp [lxI] at h
 | _,_ :: _,[],_,h=>by simp [lxI] at h
 | [],_ :: _,_ :: _,_,_=>rfl
 | a :: x,b :: y,c :: z,h1,h2=>by
  rw [lxI] at h1 h2 ⊢
  by_cases e:a = b
  ·subst e
   rw [if_pos rfl] at h1
   by_cases e2:a = c
   ·subst e2;rw [if_pos rfl] at h2 ⊢;exact zs4 x y z h1 h2
   ·rw [if_neg e2] at h2 ⊢;exact h2
  ·rw [if_neg e] at h1
   simp only [decide_eq_true_eq] at h1
   by_cases e2:b = c
   ·subst e2;rw [if_neg e];simpa using h1
   ·rw [if_neg e2] at h2
    simp only [decide_eq_true_eq] at h2
    rw [if_neg (by omega)];simp only [decide_eq_true_eq];omega
theorem yj3 {x y:List Int} (h:lxI x y = true):lxI y x = false:=by
 cases q:lxI y x with
 | false=>rfl
 | true=>have:=zs4 x y x h q;rw [zI3] at this;cases this
theorem zN0 {x y:List Int} (h:lxI x y = false) (n:x≠y):lxI y x = true:=by
 cases q:lxI y x with
 | true=>rfl
 | false=>exact absurd (yj2 x y h q) n
noncomputable def Pw {α:Type} (lt:Nat→Nat→Bool) (n:Nat):KasT α→(α→Prop)→Prop
 | .ret a,G=>G a
 | .ask i j k,G=>i < n∧j < n∧Pw lt n (k (lt i j)) G
section
variable {lt:Nat→Nat→Bool} {n:Nat}
theorem pw_t {α:Type} {t u:KasT α} {G:α→Prop} (h:Pw lt n t G):Pw lt n (if true = true then t else u) G:=by rw [if_pos rfl];exact h
theorem pw_f {α:Type} {t u:KasT α} {G:α→Prop} (h:Pw lt n u G):Pw lt n (if false = true then t else u) G:=by rw [if_neg (by simp)];exact h
theorem Pw.bind {α β:Type} {f:α→KasT β} {G:β→Prop}:∀ (t:KasT α),Pw lt n t (fun a=>Pw lt n (f a) G)→Pw lt n (t.bind f) G
 | .ret _,h=>h
 | .ask i j k,h=>⟨h.1,h.2.1,Pw.bind (k (lt i j)) h.2.2⟩
theorem Pw.mono {α:Type} {G G':α→Prop} (hg:∀ a,G a→G' a):∀ (t:KasT α),Pw lt n t G→Pw lt n t G'
 | .ret a,h=>hg a h
 | .ask i j k,h=>⟨h.1,h.2.1,Pw.mono hg (k (lt i j)) h.2.2⟩
theorem Pw.wp {α:Type} {cmp:Nat→Nat→(Bool→Shared→Prop)→Shared→Prop} {s:Shared} (hc:∀ (i j:Nat) (C:Bool→Shared→Prop),i < n→j < n→C (lt i j) s→cmp i j C s) {G:α→Prop} {Q:α→Shared→Prop} (hq:∀ a,G a→Q a s) :
  ∀ (t:KasT α),Pw lt n t G→t.kasWp cmp Q s
 | .ret a,h=>hq a h
 | .ask i j k,h=>hc i j _ h.1 h.2.1 (Pw.wp hc hq (k (lt i j)) h.2.2)
end
section
variable {n:Nat} {κ:Nat→List Int} {p:Array Nat}
noncomputable abbrev ltK (κ:Nat→List Int) (i j:Nat):Bool:=lxI (κ i) (κ j)
noncomputable abbrev gK (κ:Nat→List Int) (p:Array Nat) (k:Nat):List Int:=κ (p.getD k 0)
noncomputable abbrev PmK (n:Nat) (p:Array Nat):Prop:=p.toList.Perm (List.range n)
theorem zr6 {p:Array Nat} (k:Nat):p.getD k 0 = (p[k]?).getD 0:=by simp
theorem zK8 (h:PmK n p):p.size = n:=by have:=h.length_eq;simpa using this
theorem pm_lt (h:PmK n p) (hn:0 < n) (k:Nat):p.getD k 0 < n:=by
 rw [zr6]
 cases q:p[k]? with
 | none=>exact hn
 | some v=>
  have hv:v∈p.toList:=by
   have q':p.toList[k]? = some v:=by rw [← q];simp
   exact List.mem_of_getElem? q'
  have:=h.mem_iff.mp hv
  simpa using this
theorem pm_inj (h:PmK n p) {i j:Nat} (hi:i < n) (hj:j < n) (hij:i≠j):p.getD i 0≠p.getD j 0:=by
 have nd:p.toList.Nodup:=h.symm.nodup List.nodup_range
 have sz:=zK8 h
 have key:∀ a b:Nat,a < b→b < n→p.getD a 0≠p.getD b 0:=fun a b hab hb=>by
  have ha':a < p.toList.length:=by simp [sz];omega
  have hb':b < p.toList.length:=by simp [sz];omega
  have:=List.pairwise_iff_getElem.mp nd a b ha' hb' hab
  rw [zr6,zr6]
  have ea:p[a]? = some p.toList[a]:=by rw [Array.getElem_toList];exact Array.getElem?_eq_getElem _
  have eb:p[b]? = some p.toList[b]:=by rw [Array.getElem_toList];exact Array.getElem?_eq_getElem _
  rw [ea,eb]
  exact this
 rcases Nat.lt_or_ge i j with z | z
 ·exact key i j z hj
 ·exact (key j i (by omega) hi).symm
noncomputable def Srt (κ:Nat→List Int) (p:Array Nat) (a:Nat):Prop:=∀ i j,i < j→j < a→lxI (gK κ p i) (gK κ p j) = true
noncomputable def Dsc (κ:Nat→List Int) (p:Array Nat) (a:Nat):Prop:=∀ i j,i < j→j < a→lxI (gK κ p j) (gK κ p i) = true
variable (inj:∀ i j,i < n→j < n→κ i = κ j→i = j)
include inj
theorem g_ne (h:PmK n p) {i j:Nat} (hi:i < n) (hj:j < n) (hij:i≠j):gK κ p i≠gK κ p j:=fun e=>
 pm_inj h hi hj hij (inj _ _ (pm_lt h (by omega) i) (pm_lt h (by omega) j) e)
theorem srt_succ (h:PmK n p) {a:Nat} (hs:Srt κ p a) (h1:1≤a) (ha:a < n) (e:lxI (gK κ p a) (gK κ p (a - 1)) = false):Srt κ p (a + 1):=fun i j hij hj=>by
 rcases Nat.lt_or_ge j a with z | z
 ·exact hs i j hij z
 ·obtain rfl:j = a:=by omega
  have l:=zN0 e (g_ne inj h ha (by omega) (by omega))
  by_cases hi:i = j - 1
  ·subst hi;exact l
  ·exact zs4 _ _ _ (hs i (j - 1) (by omega) (by omega)) l
omit inj in
theorem yb3 {a:Nat} (hs:Dsc κ p a) (h1:1≤a) (e:lxI (gK κ p a) (gK κ p (a - 1)) = true):Dsc κ p (a + 1):=fun i j hij hj=>by
 rcases Nat.lt_or_ge j a with z | z
 ·exact hs i j hij z
 ·obtain rfl:j = a:=by omega
  by_cases hi:i = j - 1
  ·subst hi;exact e
  ·exact zs4 _ _ _ e (hs i (j - 1) (by omega) (by omega))
theorem yo5 (hp:PmK n p):∀ (f a:Nat),1≤a→a + f≤n→Srt κ p a →
  Pw (ltK κ) n (kas_asc p f a) fun m=>a≤m∧m≤a + f∧Srt κ p m∧(m < a + f→lxI (gK κ p m) (gK κ p (m - 1)) = true)
 | 0,a,h1,h2,hs=>⟨Nat.le_refl _,Nat.le_refl _,hs,fun z=>absurd z (Nat.lt_irrefl _)⟩
 | f + 1,a,h1,h2,hs=>by
  unfold kas_asc
  refine ⟨pm_lt hp (by omega) _,pm_lt hp (by omega) _,?_⟩
  cases e:ltK κ (p.getD a 0) (p.getD (a - 1) 0) with
  | true=>
   refine pw_t ?_
   exact ⟨Nat.le_refl _,by omega,hs,fun _=>e⟩
  | false=>
   refine pw_f ?_
   refine Pw.mono (fun m ⟨q1,q2,q3,q4⟩=>⟨by omega,by omega,q3,fun z=>q4 (by omega)⟩) _ (yo5 hp f (a + 1) (by omega) (by omega) (srt_succ inj hp hs h1 (by omega) e))
theorem yn0 (hp:PmK n p):∀ (f a:Nat),1≤a→a + f≤n→Dsc κ p a →
  Pw (ltK κ) n (kas_desc f p a 0) fun r=>r.1 = p∧r.2.2 = 0∧a≤r.2.1∧r.2.1≤a + f∧Dsc κ p r.2.1
 | 0,a,h1,h2,hs=>⟨rfl,rfl,Nat.le_refl _,Nat.le_refl _,hs⟩
 | f + 1,a,h1,h2,hs=>by
  unfold kas_desc
  refine ⟨pm_lt hp (by omega) _,pm_lt hp (by omega) _,?_⟩
  cases e:ltK κ (p.getD a 0) (p.getD (a - 1) 0) with
  | true=>
   refine pw_t ?_
   rw [if_neg (by omega)]
   refine Pw.mono (fun m ⟨q1,q2,q3,q4,q5⟩=>⟨q1,q2,by omega,by omega,q5⟩) _ (yn0 hp f (a + 1) (by omega) (by omega) (yb3 hs h1 e))
  | false=>
   refine pw_f ?_
   refine ⟨pm_lt hp (by omega) _,pm_lt hp (by omega) _,?_⟩
   have e2:ltK κ (p.getD (a - 1) 0) (p.getD a 0) = true:=zN0 e (g_ne inj hp (by omega) (by omega) (by omega))
   rw [e2]
   refine pw_t ?_
   exact ⟨rfl,rfl,Nat.le_refl _,Nat.le_add_right _ _,hs⟩
omit inj in
theorem g_rev (hp:PmK n p) {m:Nat} (hm:m≤n) (k:Nat):gK κ (kas_rev p 0 m) k = if k < m then gK κ p (m - 1 - k) else gK κ p k:=by
 unfold gK
 rw [zr6,show (kas_rev p 0 m)[k]? = _ from getElem?_mirror_all (by rw [zK8 hp];exact hm) k]
 by_cases z:k < m
 ·rw [if_pos ⟨Nat.zero_le _,z⟩,if_pos z,← zr6,Nat.zero_add]
 ·rw [if_neg (fun y=>z y.2),if_neg z,← zr6]
omit inj in
theorem pm_rev (hp:PmK n p) (i j:Nat):PmK n (kas_rev p i j):=(Array.perm_iff_toList_perm.mp (mirror_perm p i j ((j - i) / 2))).trans hp
omit inj in
theorem srt_rev (hp:PmK n p) {m:Nat} (hm:m≤n) (hd:Dsc κ p m):Srt κ (kas_rev p 0 m) m:=fun i j hij hj=>by
 rw [g_rev hp hm,g_rev hp hm,if_pos (by omega),if_pos hj]
 exact hd _ _ (by omega) (by omega)
theorem tail3_pw (hp:PmK n p) {m:Nat} (h1:1≤m) (hm:m≤n) (hd:Dsc κ p m):Pw (ltK κ) n (kas_tail3 m n p) fun r=>PmK n r.2∧1≤r.1∧r.1≤n∧Srt κ r.2 r.1:=by
 unfold kas_tail3
 refine Pw.bind _ (Pw.mono (fun m' ⟨q1,q2,q3,q4⟩=>?_) _ (yo5 inj (pm_rev hp 0 m) (n - m) m h1 (by omega) (srt_rev hp hm hd)))
 exact ⟨pm_rev hp 0 m,by omega,by omega,q3⟩
theorem count_pw (hp:PmK n p) (hn:2≤n):Pw (ltK κ) n (kas_count n p) fun r=>PmK n r.2∧1≤r.1∧r.1≤n∧Srt κ r.2 r.1:=by
 unfold kas_count
 refine Pw.bind _ (Pw.mono (fun m ⟨q1,q2,q3,q4⟩=>?_) _ (yo5 inj hp (n - 1) 1 (Nat.le_refl _) (by omega) fun i j hij hj=>by omega))
 by_cases e:m = n
 ·rw [if_pos (by simpa using e)]
  exact ⟨hp,by omega,by omega,q3⟩
 ·rw [if_neg (by simpa using e)]
  have l:=q4 (by omega)
  by_cases z:m > 1
  ·rw [if_pos z]
   refine ⟨pm_lt hp (by omega) _,pm_lt hp (by omega) _,?_⟩
   have:ltK κ (p.getD 0 0) (p.getD (m - 1) 0) = true:=q3 0 (m - 1) (by omega) (by omega)
   rw [this]
   refine pw_t ?_
   exact ⟨hp,by omega,by omega,q3⟩
  ·rw [if_neg z]
   obtain rfl:m = 1:=by omega
   unfold kas_descPart
   have d1:Dsc κ p 1:=fun i j hij hj=>by omega
   refine Pw.bind _ (Pw.mono (fun r ⟨r1,r2,r3,r4,r5⟩=>?_) _ (yn0 inj hp (n - (1 + 1)) (1 + 1) (by omega) (by omega) (yb3 d1 (Nat.le_refl _) l)))
   rw [if_neg (by omega),r1]
   exact tail3_pw inj hp (by omega) (by omega) r5
theorem zK9 (hp:PmK n p) {k:Nat} (hk:k < n) (hs:Srt κ p k):∀ (f l r:Nat),l≤r→r≤k→r - l≤f→(∀ i,i < l→lxI (gK κ p i) (gK κ p k) = true)→(∀ i,r≤i→i < k→lxI (gK κ p k) (gK κ p i) = true) →
  Pw (ltK κ) n (kas_place p k f l r) fun m=>m≤k∧(∀ i,i < m→lxI (gK κ p i) (gK κ p k) = true)∧(∀ i,m≤i→i < k→lxI (gK κ p k) (gK κ p i) = true)
 | 0,l,r,h1,h2,h3,h4,h5=>by
  obtain rfl:l = r:=by omega
  exact ⟨h2,h4,h5⟩
 | f + 1,l,r,h1,h2,h3,h4,h5=>by
  unfold kas_place
  by_cases z:l ≥ r
  ·rw [if_pos z]
   obtain rfl:l = r:=by omega
   exact ⟨h2,h4,h5⟩
  ·rw [if_neg z]
   refine ⟨pm_lt hp (by omega) _,pm_lt hp (by omega) _,?_⟩
   cases e:ltK κ (p.getD k 0) (p.getD ((l + r) / 2) 0) with
   | true=>
    refine pw_t ?_
    refine zK9 hp hk hs f l ((l + r) / 2) (by omega) (by omega) (by omega) h4 fun i hi hik=>?_
    by_cases q:i = (l + r) / 2
    ·subst q;exact e
    ·exact zs4 _ _ _ e (hs _ i (by omega) hik)
   | false=>
    refine pw_f ?_
    refine zK9 hp hk hs f ((l + r) / 2 + 1) r (by omega) (by omega) (by omega) (fun i hi=>?_) h5
    have e2:=zN0 e (g_ne inj hp hk (by omega) (by omega))
    by_cases q:i = (l + r) / 2
    ·subst q;exact e2
    ·exact zs4 _ _ _ (hs i _ (by omega) (by omega)) e2
omit inj in
theorem g_bub (hp:PmK n p) {k l:Nat} (hk:k < n) (hl:l≤k) (i:Nat):gK κ (bubble p k (k - l)) i = if i = l then gK κ p k else if l < i∧i≤k then gK κ p (i - 1) else gK κ p i:=by
 unfold gK
 rw [zr6,getElem?_bubble (by rw [zK8 hp];exact hk) (k - l) (by omega) i,show k - (k - l) = l by omega]
 split
 ·rw [← zr6]
 ·split
  ·rw [← zr6]
  ·rw [← zr6]
theorem bin_pw:∀ (f:Nat) (p:Array Nat) (k:Nat),PmK n p→k + f = n→Srt κ p k→Pw (ltK κ) n (kas_bin f p k) fun q=>PmK n q∧Srt κ q n
 | 0,p,k,hp,e,hs=>by
  obtain rfl:k = n:=by omega
  exact ⟨hp,hs⟩
 | f + 1,p,k,hp,e,hs=>by
  unfold kas_bin
  refine Pw.bind _ (Pw.mono (fun l ⟨q1,q2,q3⟩=>?_) _ (zK9 inj hp (by omega) hs k 0 k (Nat.zero_le _) (Nat.le_refl _) (by omega) (fun i hi=>by omega) (fun i hi hik=>by omega)))
  refine bin_pw f _ (k + 1) ((Array.perm_iff_toList_perm.mp (bubble_perm p k (k - l))).trans hp) (by omega) fun i j hij hj=>?_
  rw [g_bub hp (by omega) q1,g_bub hp (by omega) q1]
  by_cases a1:i = l
  ·rw [if_pos a1,if_neg (by omega),if_pos (by omega)]
   exact q3 _ (by omega) (by omega)
  ·rw [if_neg a1]
   by_cases a2:l < i∧i≤k
   ·rw [if_pos a2,if_neg (by omega),if_pos (by omega)]
    exact hs _ _ (by omega) (by omega)
   ·rw [if_neg a2]
    by_cases b1:j = l
    ·rw [if_pos b1];exact q2 _ (by omega)
    ·rw [if_neg b1]
     by_cases b2:l < j∧j≤k
     ·rw [if_pos b2]
      by_cases c:i = j - 1
      ·omega
      ·exact hs _ _ (by omega) (by omega)
     ·rw [if_neg b2];exact hs _ _ hij (by omega)
theorem sort_pw (hn:2≤n):Pw (ltK κ) n (kas_sort n) fun q=>PmK n q∧Srt κ q n:=by
 unfold kas_sort
 refine Pw.bind _ (Pw.mono (fun r ⟨q1,q2,q3,q4⟩=>?_) _ (count_pw inj (p:=List.toArray (List.range n)) (by show (List.toArray (List.range n)).toList.Perm _;simp) hn))
 by_cases z:r.1 < n
 ·rw [if_pos z,Nat.max_eq_left q2]
  exact bin_pw inj _ _ _ q1 (by omega) q4
 ·rw [if_neg z]
  obtain e:r.1 = n:=by omega
  rw [e] at q4
  exact ⟨q1,q4⟩
end
noncomputable def insK {α:Type} (x:List Int×α):List (List Int×α)→List (List Int×α)
 | []=>[x]
 | y :: r=>if lxI x.1 y.1 = true then x :: y :: r else y :: insK x r
noncomputable def sortK {α:Type}:List (List Int×α)→List (List Int×α)
 | []=>[]
 | x :: r=>insK x (sortK r)
theorem zF8 {α:Type} (x:List Int×α):∀ l,(insK x l).Perm (x :: l)
 | []=>List.Perm.refl _
 | y :: r=>by
  unfold insK
  split
  ·exact List.Perm.refl _
  ·exact ((zF8 x r).cons y).trans (List.Perm.swap x y r)
theorem zw0 {α:Type}:∀ l:List (List Int×α),(sortK l).Perm l
 | []=>List.Perm.refl _
 | x :: r=>(zF8 x _).trans ((zw0 r).cons x)
theorem ya4 {α:Type} (x:List Int×α):∀ l:List (List Int×α),l.Pairwise (fun a b=>lxI a.1 b.1 = true)→(∀ y∈l,y.1≠x.1)→(insK x l).Pairwise fun a b=>lxI a.1 b.1 = true
 | [],_,_=>by unfold insK;simp
 | y :: r,h,hd=>by
  unfold insK
  obtain ⟨h1,h2⟩:=List.pairwise_cons.mp h
  split
  ·rename_i z
   refine List.pairwise_cons.mpr ⟨fun a ha=>?_,h⟩
   rcases List.mem_cons.mp ha with rfl | ha
   ·exact z
   ·exact zs4 _ _ _ z (h1 a ha)
  ·rename_i z
   have z':lxI y.1 x.1 = true:=zN0 (by simpa using z) (hd y List.mem_cons_self).symm
   refine List.pairwise_cons.mpr ⟨fun a ha=>?_,ya4 x r h2 fun a ha=>hd a (List.mem_cons_of_mem _ ha)⟩
   rcases List.mem_cons.mp ((zF8 x r).mem_iff.mp ha) with rfl | ha
   ·exact z'
   ·exact h1 a ha
theorem zP2 {α:Type}:∀ l:List (List Int×α),(l.map (·.1)).Nodup→(sortK l).Pairwise fun a b=>lxI a.1 b.1 = true
 | [],_=>by unfold sortK;exact List.Pairwise.nil
 | x :: r,h=>by
  unfold sortK
  rw [List.map_cons,List.nodup_cons] at h
  refine ya4 x _ (zP2 r h.2) fun y hy e=>h.1 ?_
  rw [← e]
  exact List.mem_map.mpr ⟨y,(zw0 r).mem_iff.mp hy,rfl⟩
theorem zQ3 {α:Type} {r:α→α→Prop} (as:∀ a b,r a b→r b a→False):∀ {l m:List α},l.Perm m→l.Pairwise r→m.Pairwise r→l = m
 | [],m,p,_,_=>(List.Perm.nil_eq p)
 | a :: l,[],p,_,_=>by have:=p.length_eq;simp at this
 | a :: l,b :: m,p,h1,h2=>by
  obtain ⟨x1,x2⟩:=List.pairwise_cons.mp h1
  obtain ⟨y1,y2⟩:=List.pairwise_cons.mp h2
  by_cases e:a = b
  ·subst e
   rw [zQ3 as ((List.perm_cons a).mp p) x2 y2]
  ·have ha:a∈b :: m:=p.mem_iff.mp List.mem_cons_self
   have hb:b∈a :: l:=p.mem_iff.mpr List.mem_cons_self
   rcases List.mem_cons.mp ha with z | z
   ·exact absurd z e
   ·rcases List.mem_cons.mp hb with w | w
    ·exact absurd w.symm e
    ·exact (as a b (x1 b w) (y1 a z)).elim
theorem yc2 {α:Type} {l m:List (List Int×α)} (p:l.Perm m) (h:l.Pairwise fun a b=>lxI a.1 b.1 = true) (nd:(m.map (·.1)).Nodup):l = sortK m:=
 zQ3 (fun a b x y=>by rw [yj3 x] at y;cases y) (p.trans (zw0 m).symm) h (zP2 m nd)
theorem zX3 {α:Type} {ks:List (List Int)} {ds:List α} {q:Array Nat} {d:α} (hl:ks.length = ds.length) (nd:ks.Nodup) (hp:q.toList.Perm (List.range ds.length)) (hs:Srt (fun i=>ks.getD i []) q ds.length) :
  q.toList.map (fun i=>ds.getD i d) = (sortK (ks.zip ds)).map (·.2):=by
 have hz:(ks.zip ds).map (·.1) = ks:=List.map_fst_zip (by omega)
 have e0:(List.range ds.length).map (fun i=>(ks.getD i [],ds.getD i d)) = ks.zip ds:=by
  apply List.ext_getElem
  ·simp [hl]
  ·intro i h1 h2
   have a1:i < ds.length:=by simpa using h1
   have a2:i < ks.length:=by omega
   simp [a1,a2]
 have key:q.toList.map (fun i=>(ks.getD i [],ds.getD i d)) = sortK (ks.zip ds):=by
  refine yc2 (by rw [← e0];exact hp.map _) ?_ (by rw [hz];exact nd)
  rw [List.pairwise_map,List.pairwise_iff_getElem]
  intro i j hi hj hij
  have sz:q.size = ds.length:=zK8 hp
  have:=hs i j hij (by simpa [sz] using hj)
  unfold gK at this
  rw [zr6,zr6] at this
  have ea:q[i]? = some q.toList[i]:=by rw [Array.getElem_toList];exact Array.getElem?_eq_getElem _
  have eb:q[j]? = some q.toList[j]:=by rw [Array.getElem_toList];exact Array.getElem?_eq_getElem _
  rw [ea,eb] at this
  exact this
 rw [← key,List.map_map]
 rfl
open PySem.W
noncomputable def KTs (h:Heap):List Value→List (List Int)→Prop
 | [],[]=>True
 | v :: vs,k :: ks=>(∃ a o its n,v = Value.ref a∧h.get? a = some o∧o.cls = .type "tuple" ∧ o.data = .seq its n∧IntsAre its.toList k∧k≠[])∧KTs h vs ks
 | _,_=>False
theorem KTs.len {h:Heap}:∀ {vs:List Value} {ks:List (List Int)},KTs h vs ks→vs.length = ks.length
 | [],[],_=>rfl
 | _ :: vs,_ :: ks,r=>by rw [List.length_cons,List.length_cons,KTs.len r.2]
 | [],_ :: _,r=>r.elim
 | _ :: _,[],r=>r.elim
theorem KTs.get {h:Heap}:∀ {vs:List Value} {ks:List (List Int)} {i:Nat},KTs h vs ks→i < ks.length→∃ a o its n,vs.getD i Value.none = Value.ref a∧h.get? a = some o∧o.cls = .type "tuple" ∧ o.data = .seq its n∧IntsAre its.toList (ks.getD i [])∧ks.getD i []≠[]
 | [],[],_,_,hi=>by simp at hi
 | _ :: vs,_ :: ks,0,r,_=>by simpa using r.1
 | _ :: vs,_ :: ks,i + 1,r,hi=>by
  obtain ⟨a,o,its,n,q⟩:=KTs.get (i:=i) r.2 (by simpa using hi)
  exact ⟨a,o,its,n,by simpa using q⟩
 | [],_ :: _,_,r,_=>r.elim
 | _ :: _,[],_,r,_=>r.elim
theorem KTs.firsts {h:Heap}:∀ {vs:List Value} {ks:List (List Int)},KTs h vs ks→∃ fs:List Value,KatTups h vs fs∧fs.length = vs.length∧∀ v∈fs,∃ n t,v = Value.int n t
 | [],[],_=>⟨[],KatTups.nil,rfl,fun _ z=>nomatch z⟩
 | v :: vs,k :: ks,⟨⟨a,o,its,n,e1,e2,e3,e4,e5,e6⟩,r⟩=>by
  obtain ⟨fs,q1,q2,q3⟩:=KTs.firsts r
  subst e1
  have:∃ i t,its[0]? = some (Value.int i t):=by
   obtain ⟨l⟩:=its
   cases e5 with
   | nil=>exact absurd rfl e6
   | cons i t _=>exact ⟨i,t,rfl⟩
  obtain ⟨i,t,h0⟩:=this
  refine ⟨_,KatTups.cons e2 e3 e4 h0 q1,by simp [q2],fun v hv=>?_⟩
  rcases List.mem_cons.mp hv with rfl | hv
  ·exact ⟨_,_,rfl⟩
  ·exact q3 v hv
 | [],_ :: _,r=>r.elim
 | _ :: _,[],r=>r.elim
section
variable {prog:Program} {w:World} {A:Around} {E:Value→Shared→Prop} {s:Shared}
theorem zS5 {vs:List Value} {ks:List (List Int)} {Q:SortKind→Shared→Prop} (h:KTs s.heap vs ks) (hn:0 < vs.length) (q:Q (tuples' true) s):wpAny (model prog w) A (keyKind' vs.toArray) Q E s:=by
 obtain ⟨fs,q1,q2,q3⟩:=h.firsts
 refine kat_kind (T:=.type "int") q1 (by omega) (fun v hv=>?_) (by decide) q
 obtain ⟨i,t,rfl⟩:=q3 v hv
 exact Looks.now
theorem zZ4 {Q:Bool→Shared→Prop} {fin:Bool}:∀ {xs ys:List Int} {us ws:List Value} (i:Nat),IntsAre us xs→IntsAre ws ys→fin = decide (xs.length < ys.length)→Q (lxI xs ys) s→KatLex prog w A true fin Q (us.zip ws) i s
 | _,_,_,_,i,.nil,.nil,e,q=>by
  have e:fin = false:=by simpa using e
  subst e
  exact kat_nil q
 | _,_,_,_,i,.nil,.cons _ _ _,e,q=>by
  have e:fin = true:=by simpa using e
  subst e
  exact kat_nil q
 | _,_,_,_,i,.cons _ _ _,.nil,e,q=>by
  have e:fin = false:=by simpa using e
  subst e
  exact kat_nil q
 | _,_,_,_,i,.cons a t r1,.cons b u r2,e,q=>by
  rw [lxI] at q
  refine kat_cons (wpAny_eqBool_int ?_)
  by_cases z:a = b
  ·subst z
   rw [if_pos rfl] at q
   rw [beq_self_eq_true]
   exact kat_yes (zZ4 (i + 1) r1 r2 (by rw [e];simp) q)
  ·rw [if_neg z] at q
   rw [show (a == b) = false by simpa using z]
   refine kat_no ?_
   cases hi:(true && i == 0) with
   | true=>exact oneLt_int q
   | false=>exact kat_one _ _ (PyProof.Rows.lt_int (show PySem.W.BoolBack Q (.bool (decide (a < b))) s from q))
theorem ask_tups {vs:List Value} {ks:List (List Int)} {n:Nat} (h:KTs s.heap vs ks) (hn:ks.length = n) (i j:Nat) (C:Bool→Shared→Prop) (hi:i < n) (hj:j < n) (q:C (ltK (fun i=>ks.getD i []) i j) s):kas_ask prog w A (tuples' true) vs i j C s:=by
 obtain ⟨a,o,its,m,e1,e2,e3,e4,e5,e6⟩:=h.get (i:=i) (by omega)
 obtain ⟨a',o',its',m',f1,f2,f3,f4,f5,f6⟩:=h.get (i:=j) (by omega)
 unfold kas_ask
 rw [e1,f1]
 refine kat_lt e2 e4 f2 f4 (zZ4 0 e5 f5 ?_ q)
 have l1:=e5.length
 have l2:=f5.length
 rw [Array.length_toList] at l1 l2
 rw [l1,l2]
theorem zX6 {vs us:List Value} {ks:List (List Int)} {Q:SortSt→Shared→Prop} (h:KTs s.heap vs ks) (hl:vs.length = us.length) (h2:2≤us.length) (h64:us.length < 64) (nd:ks.Nodup)
  (q:∀ (p:Array Nat) (st:SortSt),PmK us.length p→Srt (fun i=>ks.getD i []) p us.length→(arrOf st).map (·.2) = List.toArray (p.toList.map fun i=>us.getD i Value.none)→failedOf st = none→Q st s) :
  wpAny (model prog w) A ((sortRuns').run (SortSt.mk' (tuples' true) (vs.toArray.zip us.toArray) #[] 7 none)) (fun r s'=>Q r.2 s') E s:=by
 have hk:ks.length = us.length:=by rw [← h.len,hl]
 refine kat_run (G:=fun p s'=>s' = s∧PmK us.length p∧Srt (fun i=>ks.getD i []) p us.length) hl h2 h64 (fun p st' s' h1 h3 h4 h5=>?_) ?_
 ·obtain ⟨rfl,h5,h6⟩:=h5
  exact q p st' h5 h6 (kat_snds hl h3) h4
 ·have inj:∀ i j,i < us.length→j < us.length→ks.getD i [] = ks.getD j []→i = j:=fun i j hi hj e=>by
   have key:∀ a b:Nat,a < b→b < us.length→ks.getD a []≠ks.getD b []:=fun a b hab hb=>by
    have:=List.pairwise_iff_getElem.mp nd a b (by omega) (by omega) hab
    have ea:ks.getD a [] = ks[a]'(by omega):=by simp [show a < ks.length by omega]
    have eb:ks.getD b [] = ks[b]'(by omega):=by simp [show b < ks.length by omega]
    rw [ea,eb];exact this
   rcases Nat.lt_trichotomy i j with z | z | z
   ·exact absurd e (key i j z hj)
   ·exact z
   ·exact absurd e.symm (key j i z hi)
  exact Pw.wp (fun i j C hi hj=>ask_tups h hk i j C hi hj) (fun p hp=>⟨rfl,hp⟩) _ (sort_pw (κ:=fun i=>ks.getD i []) inj h2)
end
noncomputable def intsD:List D→Option (List Int)
 | []=>some []
 | .int i :: r=>(intsD r).map (i :: ·)
 | _=>none
noncomputable def keyD:D→Option (List Int)
 | .tup ds=>intsD ds
 | _=>none
theorem ya3:∀ {ds:List D} {ns:List Int},intsD ds = some ns→ds = ns.map D.int
 | [],ns,h=>by cases h;rfl
 | .int i :: r,ns,h=>by
  simp only [intsD] at h
  cases q:intsD r with
  | none=>rw [q] at h;cases h
  | some m=>rw [q] at h;cases h;rw [ya3 q];rfl
 | .non :: _,_,h=>by cases h
 | .bl _ :: _,_,h=>by cases h
 | .str _ :: _,_,h=>by cases h
 | .lst _ :: _,_,h=>by cases h
 | .tup _ :: _,_,h=>by cases h
 | .scr _ :: _,_,h=>by cases h
 | .raw _ :: _,_,h=>by cases h
 | .exc _ :: _,_,h=>by cases h
theorem keyD_eq {d:D} {ns:List Int} (h:keyD d = some ns):d = .tup (ns.map D.int):=by
 cases d <;> first | cases h | skip
 rename_i ds
 rw [ya3 (ds:=ds) h]
noncomputable def keysD:List D→Option (List (List Int))
 | []=>some []
 | d :: r=>match keyD d,keysD r with
  | some k,some ks=>some (k :: ks)
  | _,_=>none
theorem zZ7:∀ {ds:List D} {ks:List (List Int)},keysD ds = some ks→ds = ks.map fun k=>D.tup (k.map D.int)
 | [],ks,h=>by cases h;rfl
 | d :: r,ks,h=>by
  simp only [keysD] at h
  cases q:keyD d with
  | none=>rw [q] at h;cases h
  | some k=>
   cases q2:keysD r with
   | none=>rw [q,q2] at h;cases h
   | some ks'=>
    rw [q,q2] at h;cases h
    rw [keyD_eq q,zZ7 q2];rfl
section
variable [Tabs] {X:Cx} {pins:List (Addr×Obj)} {σ:St} {F H:Hp} {s:Shared}
theorem zD2:∀ {ns:List Int} {vs:List V} {us:List Value},Reps X.K F (ns.map D.int) vs→Vals vs us→IntsAre us ns
 | [],_,_,r,v=>by
  simp only [List.map_nil,Reps] at r;subst r
  cases v;exact .nil
 | n :: ns,_,_,r,v=>by
  simp only [List.map_cons,Reps] at r
  obtain ⟨x,xs,rfl,rx,rr⟩:=r
  simp only [Rep] at rx
  subst rx
  cases v with
  | cons e t=>
   rename_i u us
   obtain ⟨t',e⟩:∃ t',u = Value.int n t':=e
   subst e
   exact .cons _ _ (zD2 rr t)
theorem yk7 (I:Inv X pins σ H s) (fh:Same F H):∀ {ks:List (List Int)} {vs:List V} {us:List Value},Reps X.K F (ks.map fun k=>D.tup (k.map D.int)) vs→Vals vs us→(∀ k∈ks,k≠[])→KTs s.heap us ks
 | [],_,_,r,v,_=>by
  simp only [List.map_nil,Reps] at r;subst r
  cases v;exact trivial
 | k :: ks,_,_,r,v,ne=>by
  simp only [List.map_cons,Reps] at r
  obtain ⟨x,xs,rfl,rx,rr⟩:=r
  simp only [Rep] at rx
  obtain ⟨a,ws,rfl,q,t⟩:=rx
  obtain ⟨its,rv,⟨o,eo,hc,n,hd⟩,hz⟩:=I.tuple (Same.seqT fh q)
  cases v with
  | cons e tl=>
   rename_i u us
   have e:u = Value.ref a:=e
   subst e
   exact ⟨⟨a,o,its.toArray,n,rfl,eo,hc,hd,by simpa using zD2 t rv,ne k List.mem_cons_self⟩,yk7 I fh rr tl fun k hk=>ne k (List.mem_cons_of_mem _ hk)⟩
theorem Reps.pick {K:PySem.W.Frag} {ds:List D} {vs:List V} (r:Reps K F ds vs):∀ (q:List Nat),(∀ i∈q,i < ds.length)→Reps K F (q.map fun i=>ds.getD i .non) (q.map fun i=>vs.getD i .non)
 | [],_=>Reps.nil
 | i :: q,h=>by
  have hi:=h i List.mem_cons_self
  obtain ⟨v,e1,e2⟩:=r.get (i:=i) (List.getElem?_eq_getElem hi)
  have z1:ds.getD i .non = ds[i]:=by simp [hi]
  have z2:vs.getD i .non = v:=by simp [e1]
  rw [List.map_cons,List.map_cons,z1,z2]
  exact Reps.cons e2 (Reps.pick r q fun j hj=>h j (List.mem_cons_of_mem _ hj))
theorem zD4 {vs:List V} {us:List Value} (r:Vals vs us):∀ (q:List Nat),(∀ i∈q,i < vs.length)→Vals (q.map fun i=>vs.getD i .non) (q.map fun i=>us.getD i .none)
 | [],_=>.nil
 | i :: q,h=>by
  have hi:=h i List.mem_cons_self
  obtain ⟨u,e1,e2⟩:=r.get (i:=i) (List.getElem?_eq_getElem hi)
  have z1:vs.getD i .non = vs[i]:=by simp [hi]
  have z2:us.getD i .none = u:=by simp [e1]
  rw [List.map_cons,List.map_cons,z1,z2]
  exact .cons e2 (zD4 r q fun j hj=>h j (List.mem_cons_of_mem _ hj))
end
open PySem.W
section
variable {X:Cx} {pins:List (Addr×Obj)} {σ:St} {F H:Hp} {τ:DS} {s:Shared} {Q:VK} {E:Value→Shared→Prop}
theorem Inv.relist (I:Inv X pins σ H s) {a:Addr} {xs ys:List V} {us ws:List Value} {n:Nat} {g:Array Value→Array Value} (e:H a = some (.lst xs)) (o:s.heap.get? a = some (seqObj "list" us.toArray n)) (hg:g us.toArray = ws.toArray) (r:Vals ys ws) (hz:ys.length≤sizeLine) :
  Inv X pins σ (upd H a (.lst ys)) { s with heap:=s.heap.update a (Obj.mapSeq g) }:=by
 have h1:=get?_update_seq o g
 rw [hg] at h1
 exact I.write (t':=s.toks) (by rw [e];exact trivial) (.inl rfl) (fun b u hb q=>by rw [Heap.get?_update_ne _ _ _ _ hb];exact q) ⟨_,h1⟩ ⟨hz,ws,_,r,h1⟩
theorem Inv.settle (I:Inv X (pins ++ [p]) σ H s) {D:Addr} {n:Nat} {ys:List V} {ws:List Value} {g:Array Value→Array Value} (hp:p = (D,seqObj "list" #[] n)) (hg:g #[] = ws.toArray) (r:Vals ys ws) (hz:ys.length≤sizeLine)
  (h0:X.s₀.heap.objs.size≤D) (hc:∀ x c,X.env.cells.lookup x = some c→c≠D) (hn:∀ q∈X.pn ++ pins,q.1≠D):Inv X pins σ (upd H D (.lst ys)) { s with heap:=s.heap.update D (Obj.mapSeq g) }:=by
 subst hp
 obtain ⟨e,nD,neL,nf,_⟩:=I.pin (D,seqObj "list" #[] n) (by simp)
 have J:Inv X pins σ H s:=I.pins_of fun q hq=>I.pin q (List.mem_append_right _ (List.mem_append_left _ hq))
 have h1:=get?_update_seq e g
 rw [hg] at h1
 have kp:∀ b u,b≠D→s.heap.get? b = some u→(s.heap.update D (Obj.mapSeq g)).get? b = some u:=fun b u hb q=>by rw [Heap.get?_update_ne _ _ _ _ hb];exact q
 refine J.step (g':=s.gens) (d':=s.drawn) (t':=s.toks) (ch:=[D]) (fun b hb=>?_) (fun b o _ _ hb q _=>kp b o (by simpa using hb) q) (fun b o _ _ hb q _=>⟨o.slots,kp b o (by simpa using hb) q⟩) (fun b o hb _ q=>by rw [ze2 (by simpa using hb)];exact q)
  (fun b o hb q=>⟨o,kp b o (by simpa using hb) q⟩) (fun b xs q=>by rw [ze2 (zg4 q nD)];exact q) (fun b o u q=>by rw [ze2 (zg4 q nD)];exact q) (fun b ps q=>⟨#[],by rw [ze2 (zg4 q nD),q];simp⟩) (fun m hm=>?_) ?_ J.bare
 ·have:b = D:=by simpa using hb
  subst this
  exact ⟨.inr h0,neL,hc,hn⟩
 ·obtain ⟨o,es,ep,ho,r'⟩:=hm
  exact ⟨o,es,ep,kp _ o (Ne.symm neL) ho,r'⟩
 ·intro b u q
  by_cases hb:b = D
  ·subst hb
   rw [ze6] at q;cases q
   exact ⟨hz,ws,_,r,h1⟩
  ·rw [ze2 hb] at q
   refine (J.hok b u q).stay (fun c v hc' q'=>kp c v ?_ q') (fun c q'=>by rw [ze2 (zg4 q' nD)];exact q') fun c xs q'=>by rw [ze2 (zg4 q' nD)];exact q'
   rcases hc' with z | z
   ·rw [z];exact hb
   ·exact zg4 z nD
theorem ye2:Vals ([]:List V) []:=.nil
theorem ye9 {D kS:Addr} {e1:Nat} {st:SortSt} {kvs ovs:List V} {out:List Value} {P:PySem.Fin→Shared→Prop} {A:Around} (I:Inv X (pins ++ [(D,seqObj "list" #[] e1)]) σ H s) (hk:H kS = some (.lst kvs)) (hout:(arrOf st).map (·.2) = List.toArray out) (hf:failedOf st = none) (hz:out.length < 64)
  (r:Vals ovs out) (hkz:kvs.length≤sizeLine) (h0:X.s₀.heap.objs.size≤D) (hc:∀ x c,X.env.cells.lookup x = some c→c≠D) (hn:∀ q∈X.pn ++ pins,q.1≠D)
  (h:∀ s',Inv X pins σ (upd (upd H kS (.lst [])) D (.lst ovs)) s'→P (.done (.ret .none)) s'):wpAny (model X.prog X.w) A (ksk_tail D false e1 (.ref kS) st) P E s:=by
 obtain ⟨z1,its,n,rk,ek⟩:=I.hok kS _ hk
 have lk:its.length≤sizeLine:=by rw [← rk.length];exact hkz
 have I1:=Inv.relist (g:=fun _=>#[]) I hk ek (ws:=[]) rfl ye2 (Nat.zero_le _)
 obtain ⟨eD,nD,_⟩:=I1.pin (D,seqObj "list" #[] e1) (by simp)
 unfold ksk_tail
 try dsimp only
 refine wpAny_bind (listUpdate_at ek rfl ?_ (by rw [List.size_toArray];exact lk) (Nat.zero_le _))
 refine wpAny_bind (wpAny_letGo ?_)
 refine wpAny_bind (seqEpoch_at eD rfl ?_)
 refine wpAny_bind (listUpdate_at eD rfl ?_ (Nat.zero_le _) ?_)
 ·rw [hf]
  simp only [bne_self_eq_false,Bool.false_eq_true,if_false]
  exact wpAny_pure (h _ (Inv.settle I1 rfl (ws:=out) hout r (by rw [r.length];exact Nat.le_of_lt (zm8 (by omega))) h0 hc hn))
 ·simp only [Bool.false_eq_true,if_false]
  rw [hout,List.size_toArray]
  exact Nat.le_trans (Nat.le_of_lt (zm8 (by omega))) (Nat.le_succ _)
theorem zH5:∀ {kz:List (List Int)} {ds:List D},kz.length = ds.length→ds.length < 2→(sortK (kz.zip ds)).map (·.2) = ds
 | [],[],_,_=>rfl
 | [a],[b],_,_=>rfl
 | [],_ :: _,h,_=>by simp at h
 | [_],[],h,_=>by simp at h
 | [_],_ :: _ :: _,h,_=>by simp at h
 | _ :: _ :: _,ds,h,h2=>by simp at h;omega
theorem end_ok {Da kS:Addr} {e1:Nat} {kvs vs:List V} {us:List Value} {ds:List D} {kz:List (List Int)} {P:PySem.Fin→Shared→Prop} {A:Around} (I:Inv X (pins ++ [(Da,seqObj "list" #[] e1)]) σ H s) (hk:H kS = some (.lst kvs)) {ks:List Value} {n:Nat} (ek:s.heap.get? kS = some (seqObj "list" ks.toArray n)) (rk:Vals kvs ks)
  (fh:Same F H) (kr:Reps X.K F (kz.map fun k=>FD.D.tup (k.map FD.D.int)) kvs) (ne:∀ k∈kz,k≠[]) (nd:kz.Nodup) (hl:kz.length = ds.length) (rs:Reps X.K F ds vs) (rv:Vals vs us) (hz:us.length < 64)
  (h0:X.s₀.heap.objs.size≤Da) (hc:∀ x c,X.env.cells.lookup x = some c→c≠Da) (hn:∀ q∈X.pn ++ pins,q.1≠Da)
  (h:∀ s' ovs,Inv X pins σ (upd (upd H kS (.lst [])) Da (.lst ovs)) s'→Reps X.K F ((sortK (kz.zip ds)).map (·.2)) ovs→P (.done (.ret .none)) s'):wpAny (model X.prog X.w) A (ksk_end Da false us.toArray e1 (.ref kS) ks.toArray) P E s:=by
 have l1:ds.length = us.length:=by rw [rs.length,rv.length]
 have l2:ks.length = us.length:=by rw [← rk.length,← kr.length,List.length_map,hl,l1]
 have hkz:kvs.length≤sizeLine:=by rw [rk.length,l2];exact Nat.le_of_lt (zm8 (by omega))
 unfold ksk_end
 try dsimp only
 simp only [Bool.false_eq_true,if_false]
 by_cases h2:us.length < 2
 ·have h2':us.toArray.size < 2:=by rw [List.size_toArray];exact h2
  rw [if_pos h2',if_pos h2']
  refine wpAny_bind (wpAny_pure ?_)
  rw [StateT.run_pure]
  refine wpAny_bind (wpAny_pure ?_)
  try dsimp only
  refine ye9 (out:=us) (ovs:=vs) I hk ?_ rfl hz rv hkz h0 hc hn fun s' J=>h s' vs J ?_
  ·show ((ks.toArray.zip us.toArray).map (·.2)) = us.toArray
   apply Array.toList_inj.mp
   rw [Array.toList_map,ksk_zip]
   exact List.map_snd_zip (by simp [l2])
  ·rw [zH5 hl (by omega)];exact rs
 ·have h2':¬ us.toArray.size < 2:=by rw [List.size_toArray];exact h2
  rw [if_neg h2',if_neg h2']
  have kt:=yk7 I fh kr rk ne
  refine wpAny_bind (zS5 kt (by omega) ?_)
  refine wpAny_bind (zX6 (Q:=fun st s'=>wpAny (model X.prog X.w) A (ksk_tail Da false e1 (.ref kS) st) P E s') kt l2 (by omega) hz nd fun p st h3 h4 h5 h6=>?_)
  have hp:∀ i∈p.toList,i < us.length:=fun i hi=>by simpa using h3.mem_iff.mp hi
  refine ye9 (ovs:=p.toList.map fun i=>vs.getD i .non) I hk h5 h6 ?_ (zD4 rv _ fun i hi=>by rw [rv.length];exact hp i hi) hkz h0 hc hn fun s' J=>h s' _ J ?_
  ·rw [List.length_map,h3.length_eq,List.length_range];exact hz
  ·rw [← zX3 (q:=p) (d:=.non) hl nd (by rw [l1];exact h3) (by rw [l1];exact h4)]
   exact Reps.pick rs _ fun i hi=>by rw [l1];exact hp i hi
end
open PySem.W
section
variable {X:Cx} {pins:List (Addr×Obj)} {σ:St} {F H:Hp} {τ:DS} {s:Shared} {Q:VK} {E:Value→Shared→Prop}
theorem yc1 {l f:Addr} {ds:List D} {vs:List V} {kz:List (List Int)} (I:Inv X pins σ H s) (fh:Same F H) (hl:F l = some (.lst vs)) (rs:Reps X.K F ds vs) (h64:ds.length < 64) (hk:kz.length = ds.length) (nd:kz.Nodup) (ne:∀ k∈kz,k≠[])
  (key:∀ (i:Nat) (d:D) (k:List Int),ds[i]? = some d→kz[i]? = some k→∀ (pins':List (Addr×Obj)) (s':Shared) (F' H':Hp) (v:V) (u:Value) (Q':VK),Inv X pins' σ H' s'→(∀ p∈pins,p∈pins')→Ext F H F' H'→Rep X.K F' d v→RelV v u →
   (∀ kv F'' H'',Ext F' H' F'' H''→Rep X.K F'' (.tup (k.map D.int)) kv→Q' kv H'')→wpAny (model X.prog X.w) X.A.in1.in1 (call (.ref f) [u]) (EP X pins' σ Q') (fun _ _=>False) s')
  (hQ:∀ Da F' H',Ext F H F' H'→Rep X.K F' (.lst ((sortK (kz.zip ds)).map (·.2))) (.ref Da)→Q (.ref Da) H') :
  wpAny (model X.prog X.w) X.A (call (.builtin "sorted") [.ref l] [(Str.ofString "key", .ref f)]) (EP X pins σ Q) E s:=by
 obtain ⟨us,rv,⟨o,nn,eo,hc,hd0,hd⟩,hz⟩:=I.list (SqL.of (K:=X.K) (fh _ _ hl))
 have hil:s.heap.IsList l us.toArray:=⟨o,eo,hc,nn,hd⟩
 have l1:ds.length = us.length:=by rw [rs.length,rv.length]
 have sz:us.length≤sizeLine:=Nat.le_of_lt (zm8 (by omega))
 refine call_function_entry_kw kind_sorted plain_sorted entry_sorted (ksk_s1 _ _) ?_
 unfold Builtin.«sorted»
 refine wpAny_bind (m:=checkCount "sorted" 1 1 _) (wpAny_pure ?_)
 refine wpAny_bind (collect_list hil ?_ sz)
 refine wpAny_bind (wpAny_newList ?_ sz)
 have keep1:∀ b u,s.heap.get? b = some u→((s.heap.push (seqObj "list" #[] 0)).update s.heap.objs.size (Obj.mapSeq (· ++ us.toArray))).get? b = some u:=fun b u q=>by
  have hb:b < s.heap.objs.size:=Heap.lt_size q
  rw [Heap.get?_update_ne _ _ _ _ (Nat.ne_of_lt hb),Heap.get?_push_ne _ _ _ (Nat.ne_of_lt hb)]
  exact q
 have size1:s.heap.objs.size≤((s.heap.push (seqObj "list" #[] 0)).update s.heap.objs.size (Obj.mapSeq (· ++ us.toArray))).objs.size:=by rw [Heap.size_update,size_push'];omega
 generalize hh1:(s.heap.push (seqObj "list" #[] 0)).update s.heap.objs.size (Obj.mapSeq (· ++ us.toArray)) = h1 at keep1 size1
 have hD:(h1.push (seqObj "list" us.toArray 0)).get? h1.objs.size = some (seqObj "list" us.toArray 0):=Heap.get?_push_size _ rfl
 have keep2:∀ b u,s.heap.get? b = some u→(h1.push (seqObj "list" us.toArray 0)).get? b = some u:=fun b u q=>Heap.get?_push_of_some _ (keep1 b u q)
 generalize hDa:h1.objs.size = Da at hD size1
 have neD:∀ b u,s.heap.get? b = some u→b≠Da:=fun b u q=>Nat.ne_of_lt (Nat.lt_of_lt_of_le (Heap.lt_size q) size1)
 generalize hh2:h1.push (seqObj "list" us.toArray 0) = h2 at hD keep2
 have ltD:Da < h2.objs.size:=Heap.lt_size hD
 refine wpAny_bind (wpAny_holding (wpAny_call_entry_kw (rest:=[]) slot_list_sort ⟨_,hD,rfl⟩ entry_list_sort ?_ (ksk_l1 _ _)))
 show wpAny (model X.prog X.w) X.A.in1.in1 (Builtin.«list.sort» ⟨[.ref Da],[(Str.ofString "key", .ref f)]⟩) _ _ _
 rw [ksk_t1 f Da]
 unfold ksk_tree
 refine wpAny_bind (listItems_at hD rfl ?_)
 refine wpAny_bind (listUpdate_at hD rfl ?_ (by rw [List.size_toArray];exact sz) (Nat.zero_le _))
 have keep3:∀ b u,s.heap.get? b = some u→(h2.update Da (Obj.mapSeq fun _=>(#[]:Array Value))).get? b = some u:=fun b u q=>by
  rw [Heap.get?_update_ne _ _ _ _ (neD b u q)];exact keep2 b u q
 obtain ⟨e1,hD3⟩:∃ e1,(h2.update Da (Obj.mapSeq fun _=>(#[]:Array Value))).get? Da = some (seqObj "list" #[] e1):=⟨_,get?_update_seq hD fun _=>#[]⟩
 generalize h2.update Da (Obj.mapSeq fun _=>(#[]:Array Value)) = h3 at keep3 hD3
 refine wpAny_bind (seqEpoch_at hD3 rfl ?_)
 refine wpAny_bind (wpAny_newTuple ?_ (by show us.length≤sizeLine;exact sz))
 refine wpAny_bind (wpAny_newList ?_ (Nat.zero_le _))
 refine wpAny_holding ?_
 have hDa0:s.heap.objs.size≤Da:=size1
 have nH:H Da = none:=I.hok.fresh hDa0
 have neL:Da≠X.env.locals:=(Nat.ne_of_lt (Nat.lt_of_lt_of_le I.lt hDa0)).symm
 have pinD:∀ q∈X.pn ++ pins,q.1≠Da:=fun q hq=>neD _ _ (I.pin q hq).1
 have cellD:∀ x c,X.env.cells.lookup x = some c→c≠Da:=fun x c e=>by
  obtain ⟨v,oc,hoc,_⟩:=I.cell x c e
  exact neD _ _ hoc
 have I1:Inv X pins σ H { s with heap:=h3.push (seqObj "tuple" us.toArray 0) }:=I.kept (t':=s.toks) fun b u q=>Heap.get?_push_of_some _ (keep3 b u q)
 have I2:Inv X (pins ++ [(Da,seqObj "list" #[] e1)]) σ H { s with heap:=h3.push (seqObj "tuple" us.toArray 0) }:=I1.pins_of fun q hq=>by
  rcases List.mem_append.mp hq with hq | hq
  ·exact I1.pin q (List.mem_append_right _ hq)
  ·have:q = (Da,seqObj "list" #[] e1):=by simpa using hq
   subst this
   exact ⟨Heap.get?_push_of_some _ hD3,nH,neL,I.nofs hDa0,fun v z=>nomatch z⟩
 have szk:s.heap.objs.size≤(h3.push (seqObj "tuple" us.toArray 0)).objs.size:=Nat.le_of_lt (Nat.lt_of_le_of_lt hDa0 (Heap.lt_size (Heap.get?_push_of_some _ hD3)))
 have hkS:H (h3.push (seqObj "tuple" us.toArray 0)).objs.size = none:=I.hok.fresh szk
 have I3:=I2.laid (t':=s.toks) (a:=(h3.push (seqObj "tuple" us.toArray 0)).objs.size) (o:=.lst []) (h':=(h3.push (seqObj "tuple" us.toArray 0)).push (seqObj "list" #[] 0)) (fun b u q=>Heap.get?_push_of_some _ q) (Nat.le_refl _) ⟨Nat.zero_le _,[],0,.nil,Heap.get?_push_size _ rfl⟩
 generalize hkk:(h3.push (seqObj "tuple" us.toArray 0)).objs.size = kS at hkS I3
 have h0D:X.s₀.heap.objs.size≤Da:=Nat.le_trans I.sz hDa0
 unfold ksk_rest
 refine wpAny_bind (wpAny_rule ?_)
 first
  | rw [List.forIn_toArray]
  | (rw [← Array.forIn_toList];simp only [List.toList_toArray])
 refine wpAny_bind (ksk_fold (fun i s'=>∃ F2 Hm kvs,Ext F H F2 Hm∧Hm kS = none∧Inv X (pins ++ [(Da,seqObj "list" #[] e1)]) σ (upd Hm kS (.lst kvs)) s'∧Reps X.K F2 ((kz.take i).map fun k=>D.tup (k.map D.int)) kvs) us 0 _
  ⟨F,H,[],Ext.refl fh,hkS,I3,by simpa using Reps.nil⟩ ?step ?done)
 case step=>
  rintro j x s' hx ⟨F2,Hm,kvs,x2,hm,I4,rk⟩
  simp only [Nat.zero_add] at rk ⊢
  have hj:j < us.length:=(List.getElem?_eq_some_iff.mp hx).1
  obtain ⟨d,hd⟩:∃ d,ds[j]? = some d:=⟨_,List.getElem?_eq_getElem (by omega)⟩
  obtain ⟨k,hkj⟩:∃ k,kz[j]? = some k:=⟨_,List.getElem?_eq_getElem (by omega)⟩
  obtain ⟨v,hv,rd⟩:=rs.get hd
  obtain ⟨u,hu,ru⟩:=rv.get hv
  rw [hx] at hu;cases hu
  have xo:Ext F2 Hm F2 (upd Hm kS (.lst kvs)):=Ext.open x2.fh hm
  refine wpAny_bind (wpAny_attempt (wpAny_mono (key j d k hd hkj _ s' F2 _ v x (fun kv H''=>∃ F'',Ext F2 (upd Hm kS (.lst kvs)) F'' H''∧Rep X.K F'' (.tup (k.map D.int)) kv) I4 (fun p hp=>List.mem_append_left _ hp) (x2.trans xo) (rd.mono x2.ff) ru (fun kv F'' H'' y r=>⟨F'',y,r⟩)) (fun kval s'' hk''=>?_) fun _ _ z=>z.elim))
  obtain ⟨kv,H'',I5,rkv,F'',x5,rp⟩:=hk''
  have hkS5:H'' kS = some (.lst kvs):=x5.hh _ _ ze6
  obtain ⟨z1,its,n,rki,ek⟩:=I5.hok kS _ hkS5
  have lk:kvs.length = j:=by
   rw [← rk.length,List.length_map,List.length_take];omega
  have li:its.length = j:=by rw [← rki.length];exact lk
  have I6:=Inv.relist (g:=(·.push kval)) I5 hkS5 ek (ws:=its ++ [kval]) (by simp) (rki.append (.cons rkv .nil)) (by rw [List.length_append,lk];exact Nat.le_of_lt (zm8 (by simp;omega)))
  obtain ⟨y1,y2⟩:=zO0 x2 hm x5
  try dsimp only
  refine wpAny_bind (listUpdate_at ek rfl ?_ (by rw [List.size_toArray,li];exact Nat.le_of_lt (zm8 (by omega))) ?_)
  ·refine wpAny_pure ⟨rfl,F'',zu6 H'' kS,kvs ++ [kv],y1,zx7 _ _,by rw [zJ9];exact I6,?_⟩
   have tk:kz.take (j + 1) = kz.take j ++ [k]:=by
    rw [List.take_add_one,hkj];rfl
   rw [tk,List.map_append]
   exact (rk.mono x5.ff).append (Reps.cons rp Reps.nil)
  ·rw [Array.size_push,List.size_toArray,li];exact Nat.le_trans (Nat.le_of_lt (zm8 (by omega))) (Nat.le_succ _)
 case done=>
  rintro s' ⟨F2,Hm,kvs,x2,hm,I4,rk⟩
  simp only [Nat.zero_add] at rk
  rw [List.take_of_length_le (by omega)] at rk
  obtain ⟨z1,ks,n,rki,ek⟩:=I4.hok kS _ ze6
  refine wpAny_bind (listItems_at ek rfl ?_)
  have xo:Ext F2 Hm F2 (upd Hm kS (.lst kvs)):=Ext.open x2.fh hm
  refine end_ok I4 ze6 ek rki xo.fh rk ne nd hk (rs.mono x2.ff) rv (by omega) h0D cellD pinD fun s5 ovs J ro=>?_
  refine ⟨_,rfl,wpAny_pure ⟨_,rfl,.ref Da,_,J,rfl,hQ Da (upd F2 Da (.lst ovs)) _ ?_ ?_⟩⟩
  ·have hmD:Hm Da = none:=by
    obtain ⟨_,nD,_⟩:=I4.pin (Da,seqObj "list" #[] e1) (by simp)
    by_cases z:Da = kS
    ·rw [z];exact hm
    ·rw [ze2 z] at nD;exact nD
   have eq1:upd (upd (upd Hm kS (.lst kvs)) kS (.lst [])) Da (.lst ovs) = upd (upd Hm kS (.lst [])) Da (.lst ovs):=by
    congr 1;funext b;unfold upd;split <;> rfl
   rw [eq1]
   have kD:(upd Hm kS (.lst [])) Da = none:=by
    obtain ⟨_,nD,_⟩:=I4.pin (Da,seqObj "list" #[] e1) (by simp)
    by_cases z:Da = kS
    ·rw [z,ze6] at nD;cases nD
    ·rw [ze2 z];exact hmD
   exact (x2.trans (Ext.open (o:=.lst []) x2.fh hm)).trans (Ext.new ((x2.trans (Ext.open (o:=.lst []) x2.fh hm)).fh) kD)
  ·have hF:F2 Da = none:=by
    obtain ⟨_,nD,_⟩:=I4.pin (Da,seqObj "list" #[] e1) (by simp)
    exact zh1 xo.fh nD
   simp only [Rep]
   exact ⟨Da,ovs,rfl,ze6,ro.mono (zk0 hF)⟩
end
open PySem.W
noncomputable def _root_.L2.Cx.lam (X:Cx) (scope:Scope) (N:List Str) (s:Shared) (H:Hp) (qual:Str) (f:Addr) (cd:Value):Cx:=
 { prog:=X.prog,w:=X.w,K:=X.K,mg:=X.mg,base:=X.base,A:=X.A.in1.in1.deeper (envX qual scope s.heap.objs.size f cd (zr8 scope X.env)),N:=N,s₀:=s,H₀:=H,env:=envX qual scope s.heap.objs.size f cd (zr8 scope X.env),outer:=X.stack,
   stack:=envX qual scope s.heap.objs.size f cd (zr8 scope X.env) :: X.stack,ex:=[],fn:=fun _=>false,calm:=true,pn:=[],xe:=fun _ _=>False }
section
variable {X:Cx} {scope:Scope} {N':List Str} {pins:List (Addr×Obj)} {σ σ':St} {F H:Hp} {τ:DS} {s:Shared}
theorem lam_inv {h1:Heap} {t:Nat} {qual p:Str} {f:Addr} {cd u:Value} {v:V} (S:zo5 X scope) (hd:X.A.handled = none) (I:Inv X pins σ H s) (hp:scope.names.lookup p = some .local) (hN:N'[0]? = some p) (rv:RelV v u)
  (hn:h1.Ns s.heap.objs.size fun x=>([(p,u)]:List (Str×Value)).reverse.lookup x) (hsb:∀ b o,s.heap.get? b = some o→h1.get? b = some o) (hl:σ'.length = N'.length) (h0:σ'[0]? = some (some v))
  (hσ:∀ (i:Nat) (v:V),i≠0→σ'[i]? = some (some v)→∃ (x:Str) (j:Nat),N'[i]? = some x∧X.N[j]? = some x∧σ[j]? = some (some v)∧scope.names.lookup x = some .free) :
  Inv (X.lam scope N' s H qual f cd) [] σ' H { s with heap:=h1,toks:=t }:=by
 have hH:H s.heap.objs.size = none:=I.hok.fresh (Nat.le_refl _)
 have cl:∀ {x c},(zr8 scope X.env).lookup x = some c→X.env.cells.lookup x = some c:=fun h=>zG2 S I.ok h
 have kept:∀ {c v},s.heap.IsCell c v→h1.IsCell c v:=fun ⟨o,e,d⟩=>⟨o,hsb _ o e,d⟩
 have noA:∀ b:Addr,b∉(X.lam scope N' s H qual f cd).ex:=fun b z=>absurd (show b∈([]:List Addr) from z) (by simp)
 refine ⟨⟨I.ok.mod,S.kind,rfl,rfl,Nat.le_refl _,fun x y c e1 e2=>I.ok.inj x y c (cl e1) (cl e2),fun x hx=>?_,fun x c hf _=>absurd hf (by simp [Cx.lam]),fun _=>hd,Around.frames_deeper (show X.A.in1.in1.frames = some X.stack from I.ok.frames),.inr ⟨rfl,rfl⟩,fun b z=>absurd z (noA b),I.bs,Nat.le_trans I.ok.bsz I.sz,fun b _ _=>noA b,fun b z=>absurd z (noA b),I.stack,I.stkFree⟩,
  I.os.symm ▸ rfl,I.bare,Un.kept hsb,⟨_,hn,fun i x v' e1 e2 e3=>?_⟩,fun x c e=>?_,hH,fun x c e=>I.freeC x c (cl e),fun p hp=>absurd (show p∈([]:List (Addr×Obj)) from hp) (by simp),I.hok.kept hsb,hl⟩
 ·have hx:scope.names.lookup x = some .cell∨scope.names.lookup x = some .free:=hx
  rcases hx with z | z
  ·exact absurd rfl (S.nocell _ (PySem.mem_of_lookup z))
  ·exact zz8 (.inl ⟨_,PySem.mem_of_lookup z,rfl,rfl⟩)
 ·have e1:N'[i]? = some x:=e1
  by_cases hi:i = 0
  ·subst hi
   rw [hN] at e1;cases e1
   rw [h0] at e2;cases e2
   exact ⟨u,rv,.inl ⟨hp,by simp [List.lookup]⟩⟩
  ·obtain ⟨x',j,e4,e5,e6,e9⟩:=hσ i v' hi e2
   have hy:=PySem.mem_of_lookup e9
   rw [e1] at e4;cases e4
   have kd:=S.free _ hy rfl
   obtain ⟨m,hm,hl⟩:=I.loc
   obtain ⟨u',ru,lk⟩:=hl j x v' e5 e6 (kd.elim (fun z=>.inr (.inl z)) fun z=>.inr (.inr z))
   refine ⟨u',ru,?_⟩
   rcases lk with ⟨z,_⟩ | ⟨z,c,hc,hcell⟩
   ·rcases kd with k | k <;> rw [k] at z <;> cases z
   ·obtain ⟨c',hc'⟩:=zz8 (env:=X.env) (names:=scope.names) (cs:=[]) (x:=x) (.inl ⟨_,hy,rfl,rfl⟩)
    have:=cl hc'
    rw [hc] at this;cases this
    exact .inr ⟨.inr e9,c,hc',kept hcell⟩
 ·obtain ⟨v,z⟩:=I.cell x c (cl e)
  exact ⟨v,kept z⟩
noncomputable def lamD (idx:List Nat) (fb:FE) (τ:DS) (d:D):Rs D:=fb ((tau0 1 idx τ).set 0 (some (.val d)))
theorem lam_call {f c':Addr} {qual p:Str} {params:Arguments} {body:Expr} {pm ctv u:Value} {v:V} {d dk:D} {fr:List Str} {idx:List Nat} {fb:FE} {Q:VK} (S:zo5 X scope) (hr:Room 3 X.A) (hfr:FreeOk scope X.N fr idx) (hp:scope.names.lookup p = some .local)
  (hco:scope.isCoroutine = false) (hgen:scope.isGenerator = false) (hbind:∀ (pm cd ct:Value) (cl:List (Str×Addr)) (u:Value),bindArgs (kla_fn "<lambda>" qual params body scope cl pm cd ct) ⟨[u],[]⟩ = pure [(p,u)])
  (hb:∀ s H f cd,PDE (X.lam scope (p :: fr) s H qual f cd) body fb)
  (I:Inv X pins σ H s) (R:RV X.K F τ σ H) (ho:s.heap.get? f = some (kla_obj "<lambda>" qual params body scope (zr8 scope X.env) pm c' ctv)) (hc:H c' = some (.ext (zT4 c' qual))) (rd:Rep X.K F d v) (ru:RelV v u) (hk:lamD idx fb τ d = .ok dk)
  (hQ:∀ kv F1 H1,Ext F H F1 H1→Rep X.K F1 dk kv→Q kv H1):wpAny (model X.prog X.w) X.A.in1.in1 (call (.ref f) [u]) (EP X pins σ Q) (fun _ _=>False) s:=by
 have hcd:s.heap.CodeRec (.ref c') qual:=(I.hok c' _ hc).1
 refine wpAny_call (kla_callFunE (args:=⟨[u],[]⟩) (hr.in1.in1).depth ho rfl hco hgen rfl hcd ?_)
 rw [hbind]
 refine wpAny_pure (wpAny_newFunctionEnv S.nocell (fun y hy=>?_) (fun h1 hns hsb=>⟨(I.mod.nolimit.keeps I.bk).fresh _ hsb,?_⟩) S.kind)
 ·have:y = (p,u):=by simpa using hy
  subst this;exact hp
 have keep3:∀ b o,s.heap.get? b = some o→h1.get? b = some o:=fun b o e=>hsb.extBut b o (Nat.ne_of_lt (Heap.lt_size e)) (Heap.get?_push_of_some _ e)
 show codeAny _ _ (.expr body (envX qual scope s.heap.objs.size f (.ref c') (zr8 scope X.env))) _ _
 have hlen:(sig0 1 idx σ).length = (p :: fr).length:=by simp [sig0,hfr.len]
 have hl0:0 < (sig0 1 idx σ).length:=by rw [hlen];simp
 have J:Inv (X.lam scope (p :: fr) s H qual f (.ref c')) [] ((sig0 1 idx σ).set 0 (some v)) H { s with heap:=h1,toks:=s.toks + ([(p,u)]:List (Str×Value)).length }:=
  lam_inv S hr.hd I hp rfl ru hns keep3 (by rw [List.length_set];exact hlen) (by rw [List.getElem?_set_self hl0]) fun i v' hi e=>by
   rw [List.getElem?_set_ne (Ne.symm hi)] at e
   exact zK2 (tn:=[p]) hfr σ i v' e
 refine kla_codeExpr (wpAny_mono (hb s H f (.ref c') [] _ _ H (fun kv H1=>∃ F1,Ext F H F1 H1∧Rep X.K F1 dk kv) J ⟨F,(tau0 1 idx τ).set 0 (some (.val d)),(zU6 1 idx R).set rd,?_⟩) (fun w s5 h5=>?_) fun _ _ z=>z.elim)
 ·have hk:fb ((tau0 1 idx τ).set 0 (some (.val d))) = .ok dk:=hk
  rw [hk]
  exact fun kv F1 H1 x r=>⟨F1,x,r⟩
 ·obtain ⟨kv,H5,I5,r5,F5,x5,rk⟩:=h5
  exact ⟨kv,H5,I.call' (ch:=[]) I5.os I5.base I5.hok I5.bare (fun b z=>absurd z (by simp)),r5,hQ kv F5 H5 x5 rk⟩
end
open PySem.W
noncomputable def TabsU:Prop:=∀ r∈Tabs.rows,∀ r'∈Tabs.rows,r.1 = r'.1→r = r'
theorem zI2 {α β:Type} {f:α→β}:∀ {l:List α},(l.map f).Nodup→∀ r∈l,∀ r'∈l,f r = f r'→r = r'
 | [],_,_,h,_,_,_=>by cases h
 | a :: l,nd,r,h,r',h',e=>by
  rw [List.map_cons,List.nodup_cons] at nd
  rcases List.mem_cons.mp h with z | z
  ·rcases List.mem_cons.mp h' with z' | z'
   ·rw [z,z']
   ·rw [z] at e
    exact absurd (List.mem_map.mpr ⟨r',z',e.symm⟩) nd.1
  ·rcases List.mem_cons.mp h' with z' | z'
   ·rw [z'] at e
    exact absurd (List.mem_map.mpr ⟨r,z,e⟩) nd.1
   ·exact zI2 nd.2 r z r' z' e
theorem TabsU.of (h:(Tabs.rows.map (·.1)).Nodup):TabsU:=zI2 h
section
variable {X:Cx} {scope:Scope} {pins:List (Addr×Obj)} {σ:St} {F H:Hp} {τ:DS} {s:Shared}
theorem lam_make {params:Arguments} {body:Expr} {lpos:Pos} {P c:Addr} {E:Value→Shared→Prop} {Q:Value→Shared→Prop} (tu:TabsU) (S:zo5 X scope) (bm:BM X.mg X.base) (hcode:X.env.code = .ref c) (hcd:codeHdIn X.K c P = true) (hrow:(P,lpos.line,lpos.col,X.env.qual ++ "<lambda>")∈Tabs.rows)
  (hdef:defaultsOf params X.env = ([],[])) (I:Inv X pins σ H s) (fh:Same F H) (tt:TbT F H)
  (h:∀ (f c':Addr) (pm ctv:Value) (H':Hp) (s':Shared),Inv X (pins ++ [(f,kla_obj "<lambda>" (X.env.qual ++ "<lambda>") params body scope (zr8 scope X.env) pm c' ctv)]) σ H' s'→Ext F H F H'→H' c' = some (.ext (zT4 c' (X.env.qual ++ "<lambda>")))→Q (.ref f) s') :
  wpAny (model X.prog X.w) X.A (eval (.Lambda params body scope lpos) X.env) Q E s:=by
 obtain ⟨bma,ob,b1,b2,b3,b4,b5,b6⟩:=bm
 obtain ⟨b3,bH⟩:=I.bs _ _ b3
 have hgs:s.heap.Ns mainGlobals X.mg:=I.mod.glob.keeps I.bk
 have C:CodeHd s.heap c P:=codeHd_of_K (I.mod.kin.keeps I.bk) hcd
 have hcl:closureFor scope X.env = pure (zr8 scope X.env):=zu3 fun y hy e=>by
  obtain ⟨c,hc⟩:=I.ok.has _ (S.free y hy e)
  rw [hc];rfl
 have hbG:bma≠mainGlobals:=fun q=>by
  obtain ⟨o,es,ep,e,hd,_⟩:=hgs
  rw [← q,b3] at e;cases e;rw [b6] at hd;cases hd
 obtain ⟨tF,tt0⟩:=tt.1 _ hrow
 have hPs:∃ ps,H P = some (.tbl ps):=by
  rcases tt0 with e | ⟨c',e,_⟩
  ·exact ⟨_,e⟩
  ·exact ⟨_,e⟩
 obtain ⟨ps0,hP0⟩:=hPs
 have hbP:bma≠P:=fun q=>by rw [q,hP0] at bH;cases bH
 have B:s.heap.BuiltinsAt X.mg P:=⟨bma,ob,b1,b2,hbG,hbP,b3,b4,b5,b6⟩
 refine kla_eval hdef ?_
 rcases tt0 with e | ⟨c',e,ec⟩
 ·-- the first time
  have e:H P = some (.tbl #[]):=e
  have hP:s.heap.get? P = some (tabObj #[]):=I.hok P _ e
  have hgP:mainGlobals≠P:=fun q=>by
   obtain ⟨o,es,ep,e',hd,_⟩:=hgs
   rw [q,hP] at e';cases e';cases hd
  refine kla_makeFunction (mg:=X.mg) hcl I.ok.glob hgs hcode C hP trivial rfl hgP B fun c' ctv h' tk hx hge hlt hrec htb=>?_
  have hc0:H c' = none:=I.hok.fresh hge
  have hPc:P≠c':=fun z=>by rw [z,hc0] at e;cases e
  have hsz:s.heap.objs.size≤h'.objs.size:=Nat.le_trans hge (Nat.le_of_lt hlt)
  have htb:h'.get? P = some (tabObj #[rawInt lpos.line,rawInt lpos.col,.ref c']):=by simpa using htb
  let H':Hp:=upd (upd H P (.tbl #[rawInt lpos.line,rawInt lpos.col,.ref c'])) c' (.ext (zT4 c' (X.env.qual ++ "<lambda>")))
  have hne:∀ b,b≠P→b≠c'→H' b = H b:=fun b z1 z2=>by show upd (upd H P _) c' _ b = H b;rw [ze2 z2,ze2 z1]
  have hP':H' P = some (.tbl #[rawInt lpos.line,rawInt lpos.col,.ref c']):=by show upd (upd H P _) c' _ P = _;rw [ze2 hPc,ze6]
  have hc':H' c' = some (.ext (zT4 c' (X.env.qual ++ "<lambda>"))):=ze6
  let fo:Obj:=kla_obj "<lambda>" (X.env.qual ++ "<lambda>") params body scope (zr8 scope X.env) ((X.mg "__name__").getD .none) c' ctv
  have kp:∀ b o,b≠P→s.heap.get? b = some o→(h'.push fo).get? b = some o:=fun b o z q=>Heap.get?_push_of_some _ (hx b o z q)
  have nc:∀ b o,s.heap.get? b = some o→b≠c':=fun b o q=>Nat.ne_of_lt (Nat.lt_of_lt_of_le (Heap.lt_size q) hge)
  have nP:∀ b,H b = none→b≠P:=fun b q z=>by rw [z,e] at q;cases q
  have J:Inv X pins σ H' { s with heap:=h'.push fo,toks:=tk }:=by
   refine I.un (t':=tk) ⟨fun b o q n _ _=>kp b o (nP b n) q,fun b o q n _ _=>⟨o.slots,kp b o (nP b n) q⟩,fun b o q n _=>by rw [hne b (nP b n) (nc b o q)];exact n,fun b o q _=>?_,fun b xs q=>?_,fun b o u q=>?_,fun b ps q=>?_⟩ fun b u q=>?_
   ·by_cases z:b = P
    ·subst z;exact ⟨_,Heap.get?_push_of_some _ htb⟩
    ·exact ⟨o,kp b o z q⟩
   ·rw [hne b (fun z=>by rw [z,e] at q;cases q) (fun z=>by rw [z,hc0] at q;cases q)];exact q
   ·rw [hne b (fun z=>by rw [z,e] at q;cases q) (fun z=>by rw [z,hc0] at q;cases q)];exact q
   ·by_cases z:b = P
    ·subst z
     rw [e] at q;cases q
     exact ⟨#[rawInt lpos.line,rawInt lpos.col,.ref c'],by rw [hP'];simp⟩
    ·exact ⟨#[],by rw [hne b z (fun z=>by rw [z,hc0] at q;cases q),q];simp⟩
   ·by_cases z2:b = c'
    ·subst z2
     rw [hc'] at q;cases q
     have hr2:(h'.push fo).CodeRec (.ref b) (X.env.qual ++ "<lambda>"):=by
      obtain ⟨c2,oc,vs,t,g1,g2,g3,g4⟩:=hrec
      exact ⟨c2,oc,vs,t,g1,Heap.get?_push_of_some _ g2,g3,g4⟩
     refine ⟨hr2,?_,fun h1 h2 g k=>?_⟩
     ·obtain ⟨c2,oc,vs,t,g1,g2,g3,g4⟩:=hr2
      cases g1
      exact ⟨oc,g2⟩
     ·obtain ⟨c2,oc,vs,t,g1,g2,g3,g4⟩:=g
      cases g1
      exact ⟨_,oc,vs,t,rfl,k _ g2,g3,g4⟩
    ·by_cases z:b = P
     ·subst z
      rw [hP'] at q;cases q
      exact Heap.get?_push_of_some _ htb
     ·rw [hne b z z2] at q
      refine (I.hok b u q).stay (fun d v hd qd=>kp d v ?_ qd) (fun d qd=>?_) fun d xs qd=>?_
      ·rcases hd with y | y
       ·rw [y];exact z
       ·exact fun y'=>by rw [y',e] at y;cases y
      ·rw [hne d (fun y=>by rw [y,e] at qd;cases qd) (fun y=>by rw [y,hc0] at qd;cases qd)];exact qd
      ·rw [hne d (fun y=>by rw [y,e] at qd;cases qd) (fun y=>by rw [y,hc0] at qd;cases qd)];exact qd
  have hfz:s.heap.objs.size≤h'.objs.size:=hsz
  have nf:H' h'.objs.size = none:=by
   rw [hne _ (Nat.ne_of_gt (Nat.lt_of_lt_of_le (Heap.lt_size hP) hfz)) (Nat.ne_of_gt hlt)]
   exact I.hok.fresh hfz
  refine h h'.objs.size c' ((X.mg "__name__").getD .none) ctv H' _ (J.pins_of fun q hq=>?_) ⟨Same.refl F,fun b o q=>?_,fun b o q=>?_,fun _ _ q=>.inl q,fun t=>⟨fun r hr=>?_,fun d b q=>?_⟩⟩ hc'
  ·rcases List.mem_append.mp hq with hq | hq
   ·exact J.pin q (List.mem_append_right _ hq)
   ·have:q = (h'.objs.size,fo):=by simpa using hq
    subst this
    exact ⟨Heap.get?_push_size _ rfl,nf,(Nat.ne_of_lt (Nat.lt_of_lt_of_le I.lt hfz)).symm,I.nofs hfz,fun v z=>nomatch z⟩
  ·by_cases z:b = P
   ·subst z;rw [e] at q;cases q;exact ⟨_,hP'⟩
   ·exact .of (by rw [hne b z (fun z=>by rw [z,hc0] at q;cases q)];exact q)
  ·have q':=fh b o q
   rw [hne b (fun z=>by rw [z,show F P = none from tF] at q;cases q) (fun z=>by rw [z,hc0] at q';cases q')]
   exact q'
  ·by_cases z:r.1 = P
   ·obtain rfl:=tu r hr _ hrow z
    exact ⟨tF,.inr ⟨c',hP',hc'⟩⟩
   ·obtain ⟨t1,t2⟩:=t.1 r hr
    refine ⟨t1,?_⟩
    rcases t2 with q | ⟨c2,q,q2⟩
    ·exact .inl (by rw [hne _ z (fun z=>by rw [z,hc0] at q;cases q)];exact q)
    ·exact .inr ⟨c2,by rw [hne _ z (fun z=>by rw [z,hc0] at q;cases q)];exact q,by rw [hne _ (fun z=>by rw [z,e] at q2;cases q2) (fun z=>by rw [z,hc0] at q2;cases q2)];exact q2⟩
  ·have q:H d = some (.own b):=by
    by_cases z2:d = c'
    ·rw [z2,hc'] at q;cases q
    ·by_cases z:d = P
     ·rw [z,hP'] at q;cases q
     ·rw [hne d z z2] at q;exact q
   obtain ⟨C,dx,vs,q2⟩:=t.2 d b q
   exact ⟨C,dx,vs,by rw [hne b (fun z=>by rw [z,e] at q2;cases q2) (fun z=>by rw [z,hc0] at q2;cases q2)];exact q2⟩
 ·-- again
  have e:H P = some (.tbl #[rawInt lpos.line,rawInt lpos.col,.ref c']):=e
  have hP:s.heap.get? P = some (tabObj #[rawInt lpos.line,rawInt lpos.col,.ref c']):=I.hok P _ e
  refine kla_makeFunctionHit (mg:=X.mg) (cv:=.ref c') hcl I.ok.glob hgs hcode C hP trivial (codeAmong_snoc (c:=.ref c') [] trivial rfl) B fun ctv h' tk hk hsz=>?_
  let fo:Obj:=kla_obj "<lambda>" (X.env.qual ++ "<lambda>") params body scope (zr8 scope X.env) ((X.mg "__name__").getD .none) c' ctv
  have J:Inv X pins σ H { s with heap:=h'.push fo,toks:=tk }:=I.kept (t':=tk) fun b u q=>Heap.get?_push_of_some _ (hk b u q)
  refine h h'.objs.size c' ((X.mg "__name__").getD .none) ctv H _ (J.pins_of fun q hq=>?_) (Ext.refl fh) ec
  rcases List.mem_append.mp hq with hq | hq
  ·exact J.pin q (List.mem_append_right _ hq)
  ·have:q = (h'.objs.size,fo):=by simpa using hq
   subst this
   exact ⟨Heap.get?_push_size _ rfl,I.hok.fresh hsz,(Nat.ne_of_lt (Nat.lt_of_lt_of_le I.lt hsz)).symm,I.nofs hsz,fun v z=>nomatch z⟩
noncomputable def zu2 (idx:List Nat) (fb:FE) (τ:DS):List D→Rs (List D)
 | []=>.ok []
 | d :: r=>match lamD idx fb τ d with
  | .ok k=>match zu2 idx fb τ r with
   | .ok ks=>.ok (k :: ks)
   | _=>.no
  | _=>.no
theorem zF5 {idx:List Nat} {fb:FE} {τ:DS}:∀ {ds ks:List D},zu2 idx fb τ ds = .ok ks→ks.length = ds.length∧∀ (i:Nat) (d k:D),ds[i]? = some d→ks[i]? = some k→lamD idx fb τ d = .ok k
 | [],ks,h=>by cases h;exact ⟨rfl,fun i d k e=>by simp at e⟩
 | d :: r,ks,h=>by
  unfold zu2 at h
  cases q:lamD idx fb τ d with
  | no=>rw [q] at h;cases h
  | ex c=>rw [q] at h;cases h
  | ok k=>
   rw [q] at h
   simp only at h
   cases q2:zu2 idx fb τ r with
   | no=>rw [q2] at h;cases h
   | ex c=>rw [q2] at h;cases h
   | ok ks'=>
    rw [q2] at h;cases h
    obtain ⟨l,g⟩:=zF5 q2
    refine ⟨by simp [l],fun i d' k' e1 e2=>?_⟩
    cases i with
    | zero=>simp at e1 e2;subst e1;subst e2;exact q
    | succ i=>exact g i d' k' (by simpa using e1) (by simpa using e2)
noncomputable def zB3 (ks ds:List D):Rs D:=match keysD ks with
 | some kz=>if ds.length < 64∧kz.Nodup∧(∀ k∈kz,k≠[]) then .ok (.lst ((sortK (kz.zip ds)).map (·.2))) else .no
 | none=>.no
noncomputable def zT2 (idx:List Nat) (fe fb:FE):FE:=fun τ=>(fe τ).bind fun d=>match d with
 | .lst ds=>match zu2 idx fb τ ds with
  | .ok ks=>zB3 ks ds
  | _=>.no
 | _=>.no
theorem zP5 {X:Cx} {ks ds:List D} {P:D→Prop} (h:Ok X (zB3 ks ds) P):∃ kz:List (List Int),ks = kz.map (fun k=>D.tup (k.map D.int))∧ds.length < 64∧kz.Nodup∧(∀ k∈kz,k≠[])∧P (.lst ((sortK (kz.zip ds)).map (·.2))):=by
 unfold zB3 at h
 cases q:keysD ks with
 | none=>rw [q] at h;exact h.elim
 | some kz=>
  rw [q] at h
  simp only at h
  by_cases z:ds.length < 64∧kz.Nodup∧(∀ k∈kz,k≠[])
  ·rw [if_pos z] at h
   exact ⟨kz,zZ7 q,z.1,z.2.1,z.2.2,h⟩
  ·rw [if_neg z] at h;exact h.elim
theorem yh3 {x p:Str} {pp pos lpos kp:Pos} {e body:Expr} {params:Arguments} {fr:List Str} {idx:List Nat} {fe fb:FE} {P c:Addr} (hg:Gl X x) (hm:X.mg x = none) (hv:bootBuiltins x = some (.builtin "sorted")) (he:PDE X e fe)
  (hr:Room 3 X.A) (tu:TabsU) (bm:BM X.mg X.base) (hcode:X.env.code = .ref c) (hcd:codeHdIn X.K c P = true) (hrow:(P,lpos.line,lpos.col,X.env.qual ++ "<lambda>")∈Tabs.rows)
  (hsc:zA8 X.env.scope scope = true) (hfr:FreeOk scope X.N fr idx) (hp:scope.names.lookup p = some .local) (hco:scope.isCoroutine = false) (hgen:scope.isGenerator = false)
  (hbind:∀ (pm cd ct:Value) (cl:List (Str×Addr)) (u:Value),bindArgs (kla_fn "<lambda>" (X.env.qual ++ "<lambda>") params body scope cl pm cd ct) ⟨[u],[]⟩ = pure [(p,u)])
  (hb:∀ s H f cd,PDE (X.lam scope (p :: fr) s H (X.env.qual ++ "<lambda>") f cd) body fb) (hdef:defaultsOf params X.env = ([],[]):=by rfl)
  (hn:x ≠ "__name__" := by decide) (hdb:(x == ("__debug__" : Str)) = false:=by decide) (h1:starEach [e] X.env = (false,eval e X.env) :: starEach [] X.env:=by rfl) :
  PDE X (.Call (.Name x pp) [e] [⟨some "key", .Lambda params body scope lpos,kp⟩] pos) (zT2 idx fe fb):=by
 rintro pins s σ H Q I ⟨F,τ,R,hq⟩
 have S:zo5 X scope:=zt0 hsc
 refine wpAny_Call_Name_kw (zx1 I hg hm hv ?_ hn hdb)
 refine callWith_kw ?_ (by rw [h1];rfl) (by rw [h1];rfl)
 have hqb:=hq.bind
 have ha:PDA X [e] (aCons fe aNil):=za1 he za4 (by rw [h1])
 refine thn (ha pos pins s σ H (fun vs H1=>∃ F1 d v,vs = [v]∧Ext F H F1 H1∧Rep X.K F1 d v∧fe τ = .ok d) I ⟨F,τ,R,?_⟩) fun us s1 hA=>?_
 ·unfold aCons aNil
  cases z:fe τ with
  | no=>rw [z] at hqb;exact hqb.elim
  | ex cc=>rw [z] at hqb;exact hqb
  | ok d=>
   intro vs F1 H1 x1 rr
   obtain ⟨v,rfl,rd⟩:=Reps.one rr
   exact ⟨F1,d,v,rfl,x1,rd,rfl⟩
 obtain ⟨vs,H1,I1,rvs,F1,d,v,rfl,x1,rd,ed⟩:=hA
 obtain ⟨u,rfl,ru⟩:=Vals.one rvs
 rw [ed] at hqb
 have hqb:Ok X (match d with
  | .lst ds=>match zu2 idx fb τ ds with
   | .ok ks=>zB3 ks ds
   | _=>.no
  | _=>.no) (Ev X.K F H Q):=hqb
 cases d with
 | lst ds=>
  simp only at hqb
  cases z:zu2 idx fb τ ds with
  | no=>rw [z] at hqb;exact hqb.elim
  | ex cc=>rw [z] at hqb;exact hqb.elim
  | ok ks=>
   rw [z] at hqb
   obtain ⟨kz,ek,h64,nd,ne,hq⟩:=zP5 (X:=X) hqb
   obtain ⟨lk,hkeys⟩:=zF5 z
   simp only [Rep] at rd
   obtain ⟨l,ws,rfl,hF1,rs⟩:=rd
   obtain rfl:u = Value.ref l:=ru
   refine kws_cons ?_
   refine lam_make (P:=P) (c:=c) tu S bm hcode hcd hrow hdef I1 x1.fh (x1.tt R.tt) fun f c' pm ctv H2 s2 I2 x2 hc2=>?_
   refine kws_nil ?_
   have R2:RV X.K F1 τ σ H2:=(R.ext x1).ext x2
   refine wpAny_mono (yc1 (E:=X.xe) (Q:=Q) (F:=F1) (kz:=kz) I2 x2.fh hF1 rs h64 (by rw [← lk,ek,List.length_map]) nd ne (fun i d k hd hk pins' s' F' H' v u Q' I' hpin x' rd' ru' hQ'=>?_) fun Da F' H' x' r'=>?_) (fun w s3 ⟨v3,H3,I3,r3,q3⟩=>⟨v3,H3,I3.pins_of fun q hq=>I3.pin q (List.mem_append_right _ (List.mem_append_left _ hq)),r3,q3⟩) fun _ _ z=>z
   ·refine lam_call S hr hfr hp hco hgen hbind hb I' (R2.ext x') (I'.pin _ (List.mem_append_right _ (hpin _ (List.mem_append_right _ (List.mem_singleton.mpr rfl))))).1 (x'.hh _ _ hc2) rd' ru' (hkeys i d _ hd ?_) hQ'
    rw [ek,List.getElem?_map,hk];rfl
   ·exact hq _ F' H' ((x1.trans x2).trans x') r'
 | _=>exact hqb.elim
end
section
variable {prog:Program} {w:World} {A:Around} {R:Result→Shared→Prop} {E:Value→Shared→Prop} {I S:Addr} {fp wr:List Addr} {n:Nat} {P:Nat→Value→Prop} {St:Nat→Heap→Prop} {kw:List (Str×Value)}
end
variable [Tabs]
section
variable {X:Cx} {pos pp kp:Pos} {e e2:Expr} {fe f2:FE}
end
open Classical in
noncomputable def frzH (τ:DS) (σ:St) (F H:Hp):Hp:=fun a=>if ∃ (i:Nat) (ds:List D),τ[i]? = some (some (.own ds))∧σ[i]? = some (some (.ref a)) then H a else F a
noncomputable def frzS:Option Sl→Option Sl
 | some (.own ds)=>some (.val (.lst ds))
 | o=>o
noncomputable def frzT (τ:DS):DS:=τ.map frzS
theorem zw7 {τ:DS} {i:Nat} {o:Sl} (h:(frzT τ)[i]? = some (some o)):(∃ d,o = .val d∧τ[i]? = some (some (.val d)))∨(∃ ds,o = .val (.lst ds)∧τ[i]? = some (some (.own ds)))∨(isOb (some o) = true∧τ[i]? = some (some o)):=by
 unfold frzT at h
 rw [List.getElem?_map] at h
 cases q:τ[i]? with
 | none=>rw [q] at h;cases h
 | some x=>
  rw [q] at h
  cases x with
  | none=>cases h
  | some sl=>
   cases sl with
   | val d=>cases h;exact .inl ⟨d,rfl,rfl⟩
   | own ds=>cases h;exact .inr (.inl ⟨ds,rfl,rfl⟩)
   | obj n c fs=>cases h;exact .inr (.inr ⟨rfl,rfl⟩)
   | obr c fs=>cases h;exact .inr (.inr ⟨rfl,rfl⟩)
theorem zs0 {τ:DS} {i:Nat} {o:Sl} (ho:isOb (some o) = true) (h:(frzT τ)[i]? = some (some o)):τ[i]? = some (some o):=by
 rcases zw7 h with ⟨_,e1,_⟩ | ⟨_,e1,_⟩ | ⟨_,e2⟩
 ·subst e1;cases ho
 ·subst e1;cases ho
 ·exact e2
section
variable {K:PySem.W.Frag} {B Z F H:Hp} {τ:DS} {σ:St}
theorem zw6 (R:RV K F τ σ H):Same F (frzH τ σ F H):=fun b o e=>by
 unfold frzH
 split
 ·rename_i h
  obtain ⟨i,ds,h1,h2⟩:=h
  obtain ⟨a,vs,q1,q2,q3,q4⟩:=R.own i ds h1
  rw [h2] at q1;cases q1
  rw [q3] at e;cases e
 ·exact e
theorem RV.frz (R:RV K F τ σ H):RV K (frzH τ σ F H) (frzT τ) σ H:=by
 refine ⟨fun b o e=>?_,by unfold frzT;rw [List.length_map];exact R.len,fun i d e=>?_,fun i ds e=>?_,fun i j ds es a _ h1 _ _ _=>?_,⟨fun r hr=>?_,R.tt.2⟩,?_⟩
 ·unfold frzH at e
  split at e
  ·exact e
  ·exact R.fh b o e
 ·rcases zw7 e with ⟨d',e1,e2⟩ | ⟨ds,e1,e2⟩ | ⟨e1,e2⟩
  ·cases e1
   obtain ⟨v,h1,h2⟩:=R.val i d e2
   exact ⟨v,h1,h2.mono (zw6 R)⟩
  ·cases e1
   obtain ⟨a,vs,q1,q2,q3,q4⟩:=R.own i ds e2
   refine ⟨_,q1,?_⟩
   simp only [Rep]
   refine ⟨a,vs,rfl,?_,q4.mono (zw6 R)⟩
   unfold frzH
   rw [if_pos ⟨i,ds,e2,q1⟩];exact q2
  ·cases e1
 ·rcases zw7 e with ⟨_,e1,_⟩ | ⟨_,e1,_⟩ | ⟨e1,_⟩ <;> cases e1
 ·rcases zw7 h1 with ⟨_,e1,_⟩ | ⟨_,e1,_⟩ | ⟨e1,_⟩ <;> cases e1
 ·obtain ⟨t1,t2⟩:=R.tt.1 r hr
  refine ⟨?_,t2⟩
  unfold frzH
  split
  ·rename_i h
   obtain ⟨i,ds,h1,h2⟩:=h
   obtain ⟨a,vs,q1,q2,q3,q4⟩:=R.own i ds h1
   rw [h2] at q1;cases q1
   rw [q2] at t2
   rcases t2 with z | ⟨_,z,_⟩ <;> cases z
  ·exact t1
 ·have nf:∀ {a:Addr} {u:HO},H a = some u→F a = none→(∀ (i:Nat) (ds:List D),τ[i]? = some (some (.own ds))→σ[i]? = some (some (.ref a))→False)→frzH τ σ F H a = none:=fun {a u} h h3 n=>by
   unfold frzH
   split
   ·rename_i h
    obtain ⟨j,ds,g1,g2⟩:=h
    exact (n j ds g1 g2).elim
   ·exact h3
  have o1:ObsOk K (frzH τ σ F H) τ σ H:=R.ob.keep (zw6 R) (fun _ _ _ _ h=>h) (fun a C dx vs h h3=>nf h h3 fun i ds g1 g2=>by
    obtain ⟨b,ws,q1,q2,q3,q4⟩:=R.own i ds g1
    rw [g2] at q1;cases q1
    rw [q2] at h;cases h) (fun _ _ h=>h) fun i c a l ws h1 h2 h3 h4 h5=>⟨h4,nf h4 h5 fun j ds g1 g2=>R.ob.lo i j c ds a l h1 g1 h2 g2 h3⟩
  have bo:∀ {i:Nat} {c:Str},ObS (frzT τ)[i]? c→ObS τ[i]? c:=fun {i c} h=>by
   rcases h with ⟨n,fs,h⟩ | ⟨fs,h⟩
   ·exact .inl ⟨n,fs,zs0 rfl h⟩
   ·exact .inr ⟨fs,zs0 rfl h⟩
  exact ⟨fun i n c fs h=>o1.at_ i n c fs (zs0 rfl h),fun i j n c c' fs a hij h1 h2=>o1.dis i j n c c' fs a hij (zs0 rfl h1) (bo h2),fun i c fs h=>o1.rd i c fs (zs0 rfl h),fun i j n c c' fs a a' l hij h1 h2=>o1.ll i j n c c' fs a a' l hij (zs0 rfl h1) (bo h2),fun i j c ds a l _ h2=>by
   rcases zw7 h2 with ⟨_,e1,_⟩ | ⟨_,e1,_⟩ | ⟨e1,_⟩ <;> cases e1⟩
theorem RS.frz (R:RS K B Z F τ σ H):RS K B Z (frzH τ σ F H) (frzT τ) σ H:=by
 refine ⟨R.rv.frz,R.bh,R.zf.trans (zw6 R.rv),fun a o e=>?_,fun i ds a h1 _=>?_,fun i n c fs a h1 h2=>R.oo i n c fs a (zs0 rfl h1) h2,fun a0 dx b1 b2 i n c fs h=>R.sf a0 dx b1 b2 i n c fs (zs0 rfl h),fun i c fs a h1 h2=>R.ro i c fs a (zs0 rfl h1) h2⟩
 ·unfold frzH at e
  split at e
  ·rename_i h
   obtain ⟨i,ds,h1,h2⟩:=h
   exact .inr (R.ob i ds a h1 h2)
  ·exact R.nb a o e
 ·rcases zw7 h1 with ⟨_,e1,_⟩ | ⟨_,e1,_⟩ | ⟨e1,_⟩ <;> cases e1
end
section
variable {X:Cx} {pos:Pos} {e tg:Expr} {st:Stmt} {ss:List Stmt} {fe:FE} {fs:FA} {f:FS}
theorem yh0 (h:PDS X st f):PDS X st (fun τ=>f (frzT τ)):=PS.imp h fun E σ H z_=>by obtain ⟨B,Z,F,τ,R,q⟩:=z_;exact ⟨B,Z,_,frzT τ,R.frz,q.same (zw6 R.rv)⟩
theorem pdss_frz (h:PDSs X ss f):PDSs X ss (fun τ=>f (frzT τ)):=PSs.imp h fun E σ H z_=>by obtain ⟨B,Z,F,τ,R,q⟩:=z_;exact ⟨B,Z,_,frzT τ,R.frz,q.same (zw6 R.rv)⟩
noncomputable def scal:D→Bool
 | .non=>true
 | .bl _=>true
 | .int _=>true
 | .str _=>true
 | _=>false
noncomputable def sExt (i:Nat) (fe:FE):FS:=fun τ=>Fl.of (ownAt τ i) fun ds=>Fl.of (fe τ) fun d=>match d with
 | .lst es=>if ds.length + es.length≤sizeLine then .nx (τ.set i (some (.own (ds ++ es)))) else .no
 | _=>.no
theorem pds_ext {i:Nat} {x:Str} {p1 apos cpos:Pos} (hx:PE X (.Name x p1) (tVar i)) (he:PDE X e fe)
  (hfew:((backTo cpos (starEach [e] X.env)).all (fun x=>!x.1) && (backToKw cpos (keywordEach [] X.env)).all (fun x=>x.1.isSome)
   && decide ([e].length + ([]:List Keyword).length + (if ([]:List Keyword).isEmpty then 0 else 1) < 30)) = true:=by rfl)
  (hline:(apos.endLine == cpos.line) = true:=by rfl) (hs:starEach [e] X.env = [(false,eval e X.env)]:=by rfl) (hplain:(backTo cpos (starEach [] X.env)).any (·.1) = false:=by rfl)
  (hbase:attributeBase (.Name x p1) "extend" X.env (eval (.Name x p1) X.env) = eval (.Name x p1) X.env:=by rfl)
  (hsw:swapsWith (.Call (.Attribute (.Name x p1) "extend" apos) [e] [] cpos) none pos.line X.env = pure false:=by rfl) :
  PDS X (.Expr (.Call (.Attribute (.Name x p1) "extend" apos) [e] [] cpos) pos) (sExt i fe):=
 PS.imp (yg0 (pe_bm PySem.F.plainAttrs_list PySem.F.slot_list_extend PySem.F.type_list_extend yj1 hx (zL6 he zY5 (by rw [hs];rfl)) hbase hfew hline (by rw [hs];rfl) hplain) hsw) fun E σ H z_=>by
  obtain ⟨B,Z,F,τ,R,h⟩:=z_
  obtain ⟨ds,h1,h2⟩:=zw1 (X:=X) (Post.of h)
  obtain ⟨a,vs,q1,q2,q3,q4⟩:=R.rv.own i ds h1
  refine ⟨_,q1,.inl ⟨rfl,vs,SqL.of q2⟩,?_⟩
  refine tE.at R h2.of fun d v F1 H1 g x R1 r=>?_
  cases d with
  | lst es=>
   simp only at g
   by_cases z:ds.length + es.length≤sizeLine
   ·rw [if_pos z] at g
    simp only [Rep] at r
    obtain ⟨b,zs,rfl,hb,rb⟩:=r
    refine ⟨a,b,vs,zs,rfl,rfl,x.hh _ _ q2,x.fh _ _ hb,by rw [← q4.length,← rb.length];exact z,?_⟩
    exact g _ F1 _ x.ff (R1.own_upd h1 q1 ((q4.mono x.ff).append rb))
   ·rw [if_neg z] at g;exact g.elim
  | _=>exact g.elim
noncomputable def trip3:D→Option (D×D×D)
 | .tup [x,y,z]=>some (x,y,z)
 | _=>none
theorem trip3_eq {d x y z:D} (h:trip3 d = some (x,y,z)):d = .tup [x,y,z]:=by
 unfold trip3 at h
 split at h
 ·cases h;rfl
 ·cases h
noncomputable def gTr (i j k:Nat):FG:=fun d τ=>match trip3 d with
 | some (x,y,z)=>.ok (((τ.set i (some (.val x))).set j (some (.val y))).set k (some (.val z)))
 | none=>.no
theorem pdg_trip {i j l k:Nat} {x y z:Str} {px py pz:Pos} (hc:X.calm = true) (hN:X.N.Nodup) (hi:X.N[i]? = some x) (hx:Loc X.env.scope x) (hj:X.N[j]? = some y) (hy:Loc X.env.scope y) (hl:X.N[l]? = some z) (hz:Loc X.env.scope z)
  (hf:X.fn x = true∨X.env.scope.names.lookup x = some .local:=by first | exact .inl rfl | exact .inr rfl | assumption) (hf':X.fn y = true∨X.env.scope.names.lookup y = some .local:=by first | exact .inl rfl | exact .inr rfl | assumption) (hf'':X.fn z = true∨X.env.scope.names.lookup z = some .local:=by first | exact .inl rfl | exact .inr rfl | assumption) :
  PDG X (.Tuple [.Name x px,.Name y py,.Name z pz] k pos) (gTr i j l):=
 PG.imp (pg_tup (n:=3) hc (zy6 (zA3 hN hi hx hf) (zy6 (zA3 hN hj hy hf') (zy6 (zA3 hN hl hz hf'') yg8)))) fun v σ H Q z_=>by
  obtain ⟨F,τ,d,R,r,h⟩:=z_
  unfold gTr at h
  cases q1:trip3 d with
  | none=>rw [q1] at h;exact h.elim
  | some xyz=>
   obtain ⟨x,y,z⟩:=xyz
   rw [q1] at h
   have e:=trip3_eq q1
   subst e
   simp only [Rep] at r
   obtain ⟨a,vs,rfl,q,t⟩:=r
   simp only [Reps] at t
   obtain ⟨v1,w1,rfl,r1,v2,w2,rfl,r2,v3,w3,rfl,r3,rfl⟩:=t
   exact ⟨a,_,rfl,Same.seqT R.fh q,rfl,v1,[v2,v3],rfl,v2,[v3],rfl,v3,[],rfl,rfl,h _ (((R.set r1).set r2).set r3) (fun B Z R'=>((R'.set r1).set r2).set r3) (by simp)⟩
theorem setOk_tr (i j k:Nat) (hij:i≠j) (hik:i≠k) (hjk:j≠k):SetOk (gTr i j k):=⟨fun d e τ τ1 h=>by
 unfold gTr at h ⊢
 cases q:trip3 e with
 | none=>rw [q] at h;cases h
 | some xyz=>
  obtain ⟨x,y,z⟩:=xyz
  rw [q] at h;cases h
  cases q2:trip3 d with
  | none=>rfl
  | some w=>
   obtain ⟨a,b,c⟩:=w
   simp only
   congr 1
   apply List.ext_getElem?
   intro m
   simp only [List.getElem?_set,List.length_set]
   repeat' split
   all_goals first | rfl | omega,fun d τ τ1 h n=>by
 unfold gTr at h
 cases q:trip3 d with
 | none=>rw [q] at h;cases h
 | some xyz=>
  obtain ⟨x,y,z⟩:=xyz
  rw [q] at h;cases h
  exact zt7 (zt7 (zt7 n))⟩
end
open PySem.W
noncomputable def zE1 (a:Addr) (e1:Nat) (st:SortSt):Sem PySem.Fin:=do
 let srt:=(arrOf st).map (·.2)
 let touched:=(← seqEpoch a) != e1
 Builtin.List.listUpdate (.ref a) (fun _=>srt)
 if let some e:=failedOf st then rule "list.sort.comparison-raised"; (throw e)
 if touched then rule "list.sort.modified"; (raiseError "ValueError" "list modified during sort")
 ret .none
section
variable {X:Cx} {pins:List (Addr×Obj)} {σ:St} {F H:Hp} {τ:DS} {s:Shared} {Q:VK} {E:Value→Shared→Prop}
theorem yf2 {l:Addr} {vs:List V} {kz:List (List Int)} (I:Inv X pins σ H s) (fh:Same F H) (hl:F l = some (.lst vs)) (rs:Reps X.K F (kz.map fun k=>D.tup (k.map D.int)) vs) (h64:kz.length < 64) (nd:kz.Nodup) (ne:∀ k∈kz,k≠[])
  (hQ:∀ Da F' H',Ext F H F' H'→Rep X.K F' (.lst ((sortK (kz.zip (kz.map fun k=>D.tup (k.map D.int)))).map (·.2))) (.ref Da)→Q (.ref Da) H') :
  wpAny (model X.prog X.w) X.A (call (.builtin "sorted") [.ref l]) (EP X pins σ Q) E s:=by
 obtain ⟨us,rv,⟨o,nn,eo,hc,hd0,hd⟩,hz⟩:=I.list (SqL.of (K:=X.K) (fh _ _ hl))
 have hil:s.heap.IsList l us.toArray:=⟨o,eo,hc,nn,hd⟩
 have l0:kz.length = us.length:=by rw [← rv.length,← rs.length,List.length_map]
 have l1:(kz.map fun k=>D.tup (k.map D.int)).length = us.length:=by rw [List.length_map];exact l0
 have sz:us.length≤sizeLine:=Nat.le_of_lt (zm8 (by omega))
 refine Calls.call_function_entry kind_sorted plain_sorted entry_sorted (args_sorted1 _) ?_
 unfold Builtin.«sorted»
 refine wpAny_bind (m:=checkCount "sorted" 1 1 _) (wpAny_pure ?_);refine wpAny_bind (collect_list hil ?_ sz);refine wpAny_bind (wpAny_newList ?_ sz)
 have keep1:∀ b u,s.heap.get? b = some u→((s.heap.push (seqObj "list" #[] 0)).update s.heap.objs.size (Obj.mapSeq (· ++ us.toArray))).get? b = some u:=fun b u q=>by
  have hb:b < s.heap.objs.size:=Heap.lt_size q
  rw [Heap.get?_update_ne _ _ _ _ (Nat.ne_of_lt hb),Heap.get?_push_ne _ _ _ (Nat.ne_of_lt hb)];exact q
 have size1:s.heap.objs.size≤((s.heap.push (seqObj "list" #[] 0)).update s.heap.objs.size (Obj.mapSeq (· ++ us.toArray))).objs.size:=by rw [Heap.size_update,size_push'];omega
 generalize hh1:(s.heap.push (seqObj "list" #[] 0)).update s.heap.objs.size (Obj.mapSeq (· ++ us.toArray)) = h1 at keep1 size1
 have hD:(h1.push (seqObj "list" us.toArray 0)).get? h1.objs.size = some (seqObj "list" us.toArray 0):=Heap.get?_push_size _ rfl
 have keep2:∀ b u,s.heap.get? b = some u→(h1.push (seqObj "list" us.toArray 0)).get? b = some u:=fun b u q=>Heap.get?_push_of_some _ (keep1 b u q)
 generalize hDa:h1.objs.size = Da at hD size1
 have neD:∀ b u,s.heap.get? b = some u→b≠Da:=fun b u q=>Nat.ne_of_lt (Nat.lt_of_lt_of_le (Heap.lt_size q) size1)
 generalize hh2:h1.push (seqObj "list" us.toArray 0) = h2 at hD keep2
 refine wpAny_bind (wpAny_holding (wpAny_call_entry (rest:=[]) slot_list_sort ⟨_,hD,rfl⟩ entry_list_sort ?_ (args_list_sort _)))
 rw [list_sort_plain Da]
 refine wpAny_bind (listItems_at hD rfl ?_);refine wpAny_bind (listUpdate_at hD rfl ?_ (by rw [List.size_toArray];exact sz) (Nat.zero_le _))
 have keep3:∀ b u,s.heap.get? b = some u→(h2.update Da (Obj.mapSeq fun _=>(#[]:Array Value))).get? b = some u:=fun b u q=>by
  rw [Heap.get?_update_ne _ _ _ _ (neD b u q)];exact keep2 b u q
 obtain ⟨e1,hD3⟩:∃ e1,(h2.update Da (Obj.mapSeq fun _=>(#[]:Array Value))).get? Da = some (seqObj "list" #[] e1):=⟨_,get?_update_seq hD fun _=>#[]⟩
 generalize h2.update Da (Obj.mapSeq fun _=>(#[]:Array Value)) = h3 at keep3 hD3
 refine wpAny_bind (seqEpoch_at hD3 rfl ?_);refine wpAny_bind (wpAny_newTuple ?_ (by show us.length≤sizeLine;exact sz));refine wpAny_bind (wpAny_newList ?_ (Nat.zero_le _))
 refine wpAny_holding ?_
 have hDa0:s.heap.objs.size≤Da:=size1
 have nH:H Da = none:=I.hok.fresh hDa0
 have neL:Da≠X.env.locals:=(Nat.ne_of_lt (Nat.lt_of_lt_of_le I.lt hDa0)).symm
 have pinD:∀ q∈X.pn ++ pins,q.1≠Da:=fun q hq=>neD _ _ (I.pin q hq).1
 have cellD:∀ x c,X.env.cells.lookup x = some c→c≠Da:=fun x c e=>by
  obtain ⟨v,oc,hoc,_⟩:=I.cell x c e
  exact neD _ _ hoc
 have keep4:∀ b u,h3.get? b = some u→((h3.push (seqObj "tuple" us.toArray 0)).push (seqObj "list" #[] 0)).get? b = some u:=fun b u q=>Heap.get?_push_of_some _ (Heap.get?_push_of_some _ q)
 have I1:Inv X pins σ H { s with heap:=(h3.push (seqObj "tuple" us.toArray 0)).push (seqObj "list" #[] 0) }:=I.kept (t':=s.toks) fun b u q=>keep4 _ _ (keep3 b u q)
 have I2:Inv X (pins ++ [(Da,seqObj "list" #[] e1)]) σ H { s with heap:=(h3.push (seqObj "tuple" us.toArray 0)).push (seqObj "list" #[] 0) }:=I1.pins_of fun q hq=>by
  rcases List.mem_append.mp hq with hq | hq
  ·exact I1.pin q (List.mem_append_right _ hq)
  ·have:q = (Da,seqObj "list" #[] e1):=by simpa using hq
   subst this
   exact ⟨keep4 _ _ hD3,nH,neL,I.nofs hDa0,fun v z=>nomatch z⟩
 have h0D:X.s₀.heap.objs.size≤Da:=Nat.le_trans I.sz hDa0
 generalize (h3.push (seqObj "tuple" us.toArray 0)).push (seqObj "list" #[] 0) = h4 at I1 I2 keep4
 have eD:h4.get? Da = some (seqObj "list" #[] e1):=keep4 _ _ hD3
 try dsimp only
 have fin:∀ (st:SortSt) (out:List Value) (ovs:List V),(arrOf st).map (·.2) = List.toArray out→failedOf st = none→out.length < 64→Vals ovs out→Reps X.K F ((sortK (kz.zip (kz.map fun k=>D.tup (k.map D.int)))).map (·.2)) ovs →
   wpAny (model X.prog X.w) X.A.in1.in1 (zE1 Da e1 st) (fun fin s'=>∃ v,fin = .done (.ret v)∧wpAny (model X.prog X.w) X.A.in1 (ret (.ref Da)) (fun fin s'=>∃ v,fin = .done (.ret v)∧EP X pins σ Q v s') E s') E { s with heap:=h4 }:=fun st out ovs hout hf hz r ro=>by
  unfold zE1
  try dsimp only
  refine wpAny_bind (seqEpoch_at eD rfl ?_)
  refine wpAny_bind (listUpdate_at eD rfl ?_ (Nat.zero_le _) (by rw [hout,List.size_toArray];exact Nat.le_trans (Nat.le_of_lt (zm8 (by omega))) (Nat.le_succ _)))
  rw [hf]
  simp only [bne_self_eq_false,Bool.false_eq_true,if_false]
  refine wpAny_pure ⟨_,rfl,wpAny_pure ⟨_,rfl,.ref Da,_,Inv.settle I2 rfl (ws:=out) hout r (by rw [r.length];exact Nat.le_of_lt (zm8 (by omega))) h0D cellD pinD,rfl,hQ Da (upd F Da (.lst ovs)) _ (Ext.new fh nH) ?_⟩⟩
  simp only [Rep]
  exact ⟨Da,ovs,rfl,ze6,ro.mono (zk0 (zh1 fh nH))⟩
 by_cases h2:us.length < 2
 ·have h2':us.toArray.size < 2:=by rw [List.size_toArray];exact h2
  rw [if_pos h2',if_pos h2']
  refine wpAny_bind (wpAny_pure ?_)
  rw [StateT.run_pure]
  refine wpAny_bind (wpAny_pure ?_)
  refine fin _ us vs ?_ rfl (by omega) rv ?_
  ·show ((us.toArray.zip us.toArray).map (·.2)) = us.toArray
   apply Array.toList_inj.mp
   rw [Array.toList_map,ksk_zip]
   exact List.map_snd_zip (by simp)
  ·rw [zH5 (by rw [List.length_map]) (by omega)];exact rs
 ·have h2':¬ us.toArray.size < 2:=by rw [List.size_toArray];exact h2
  rw [if_neg h2',if_neg h2']
  have kt:=yk7 I2 fh rs rv ne
  refine wpAny_bind (zS5 kt (by omega) ?_)
  refine wpAny_bind (zX6 (Q:=fun st s'=>wpAny (model X.prog X.w) X.A.in1.in1 (zE1 Da e1 st) (fun fin s'=>∃ v,fin = .done (.ret v)∧wpAny (model X.prog X.w) X.A.in1 (ret (.ref Da)) (fun fin s'=>∃ v,fin = .done (.ret v)∧EP X pins σ Q v s') E s') E s') kt rfl (by omega) (by omega) nd fun p st h3 h4 h5 h6=>?_)
  have hp:∀ i∈p.toList,i < us.length:=fun i hi=>by simpa using h3.mem_iff.mp hi
  refine fin st _ (p.toList.map fun i=>vs.getD i .non) h5 h6 ?_ (zD4 rv _ fun i hi=>by rw [rv.length];exact hp i hi) ?_
  ·rw [List.length_map,h3.length_eq,List.length_range];omega
  ·rw [← zX3 (q:=p) (d:=.non) (by rw [List.length_map]) nd (by rw [l1];exact h3) (by rw [l1];exact h4)]
   exact Reps.pick rs _ fun i hi=>by rw [l1];exact hp i hi
noncomputable def zP4:List D→Rs D
 | [.lst ds]=>zB3 ds ds
 | _=>.no
theorem cd_sortT:CallD X (.builtin "sorted") zP4:=⟨fun vs H Q=>∃ (F:Hp) (l:Addr) (ws:List V) (kz:List (List Int)),vs = [.ref l]∧Same F H∧F l = some (.lst ws)∧Reps X.K F (kz.map fun k=>D.tup (k.map D.int)) ws∧kz.length < 64∧kz.Nodup∧(∀ k∈kz,k≠[]) ∧
  ∀ Da F' H',Ext F H F' H'→Rep X.K F' (.lst ((sortK (kz.zip (kz.map fun k=>D.tup (k.map D.int)))).map (·.2))) (.ref Da)→Q (.ref Da) H',fun pins s σ H vs us Q I r ⟨F,l,ws,kz,e1,fh,hl,rs,h64,nd,ne,q⟩=>by
  subst e1
  obtain ⟨u,rfl,r1⟩:=vals1 r
  cases r1
  exact yf2 I fh hl rs h64 nd ne q,fun F H vs ds Q fh r h=>by
  match ds,r,h with
  | [.lst ds],r,h=>
   obtain ⟨v,rfl,r1⟩:=r.one
   obtain ⟨kz,ek,h64,nd,ne,hq⟩:=zP5 (X:=X) (show Ok X (zB3 ds ds) _ from h)
   simp only [Rep] at r1
   obtain ⟨l,ws,rfl,e1,t⟩:=r1
   subst ek
   exact ⟨F,l,ws,kz,rfl,fh,e1,t,by simpa using h64,nd,ne,fun Da F' H' x rp=>hq _ F' H' x rp⟩
  | [],_,h=>exact h.elim
  | [.non],_,h=>exact h.elim
  | [.bl _],_,h=>exact h.elim
  | [.int _],_,h=>exact h.elim
  | [.str _],_,h=>exact h.elim
  | [.tup _],_,h=>exact h.elim
  | [.scr _],_,h=>exact h.elim
  | [.raw _],_,h=>exact h.elim
  | [.exc _],_,h=>exact h.elim
  | .non :: _ :: _,_,h=>exact h.elim
  | .bl _ :: _ :: _,_,h=>exact h.elim
  | .int _ :: _ :: _,_,h=>exact h.elim
  | .str _ :: _ :: _,_,h=>exact h.elim
  | .lst _ :: _ :: _,_,h=>exact h.elim
  | .tup _ :: _ :: _,_,h=>exact h.elim
  | .scr _ :: _ :: _,_,h=>exact h.elim
  | .raw _ :: _ :: _,_,h=>exact h.elim
  | .exc _ :: _ :: _,_,h=>exact h.elim⟩
end
open PySem.W
structure yo9 (K:PySem.W.Frag) (mg:Str→Option Value) (x:Str) (st:Stmt) (f c T:Addr):Prop where
 ex:∃ (oc:Value) (od:Option Addr) (kV doc pm:Value) (an:Option Addr) (ct:Value) (osl:Array (Option Value)),K.lookup f = some ⟨oc,od,.func (PySem.W.fnOf x x (ze7 st) (zd8 st) (za7 st) .none kV doc pm an (.ref c) ct),osl⟩
 cd:PySem.W.codeIn K (.ref c) x = true
 kp:PySem.W.keepIn K (.ref f) = true
 at_:mg x = some (.ref f)
 tab:codeHdIn K c T = true
section
variable {P:Program} {w:World} {K:PySem.W.Frag} {mg:Str→Option Value} {base:Heap}
theorem DefOk.mkL {x:Str} {st:Stmt} {f c T:Addr} {N ps:List Str} {k n:Nat} {fb:FS} (D:yo9 K mg x st f c T) (S:zf1 N ps (za7 st)) (hn:ps.length = n)
  (hb:∀ (kV doc pm:Value) (an:Option Addr) (cdv ct:Value) (us:List Value),us.length = ps.length→bindArgs (PySem.W.fnOf x x (ze7 st) (zd8 st) (za7 st) .none kV doc pm an cdv ct) ⟨us,[]⟩ = pure (ps.zip us))
  (hbody:∀ (A:Around) (outer:List Env) (s:Shared) (H:Hp) (E:XK),Room k (A.deeper (envOfC x (za7 st) s.heap.objs.size f (.ref c))) →
   PDSs (cxOf CX0 P w K mg base N x (za7 st) f (.ref c) A outer s H E).nox (zd8 st) fb):DefOk P w K mg base x (k + 1) n ps (runF N.length fb):=by
 obtain ⟨oc,od,kV,doc,pm,an,ct,osl,lk⟩:=D.ex
 refine ⟨f,_,?_,.all (hb kV doc pm an (.ref c) ct),D.kp,D.at_⟩
 refine fn_of lk D.cd S (fun vs H Q E h=>by rw [hn];exact h.1) fun A outer s H vs Q E hr h=>⟨_,(show PSs _ _ _ from hbody A outer s H E hr).nox,?_⟩
 obtain ⟨hl,ds,Fz,fh,tt,r,h⟩:=h
 refine ⟨H,Fz,Fz,zg9 N.length ds,zX5 fh tt r,?_⟩
 unfold runF at h
 cases q:fb (zg9 N.length ds) with
 | nx τ=>rw [q] at h;exact fun σ F' H' ff RR=>h .non F' H' RR.out (by simp only [Rep])
 | rt d=>rw [q] at h;exact fun v F' H' x rr=>h v F' H' x rr
 | ro d τ=>rw [q] at h;exact fun v σ F' H' ff RR rr=>h v F' H' RR.out rr
 | rb d τ=>rw [q] at h;exact h.elim
 | bk τ=>rw [q] at h;exact h.elim
 | ct τ=>rw [q] at h;exact h.elim
 | ex c=>rw [q] at h;exact h.elim
 | no=>rw [q] at h;exact h.elim
 | rs c τ=>rw [q] at h;exact h.elim
end
section
variable {X:Cx} {pos:Pos} {e a b:Expr} {es:List Expr} {fe fa fb:FE} {fs:FA}
end
end FD
set_option Elab.async false
set_option linter.all false
namespace STW
open PySem
noncomputable abbrev Ris (l:List Nat):Prop:=l.Pairwise (· < ·)
theorem zK6 {l:List Nat} (h:Ris l) {i k:Nat} (hik:i < k) (hk:k < l.length):l.getD i 0 < l.getD k 0:=by
 have:=List.pairwise_iff_getElem.mp h i k (by omega) hk hik
 simpa [show i < l.length by omega,hk] using this
theorem zO4 (xs:Array Nat) (j:Nat):∀ (fuel lo hi:Nat),lo≤hi→hi≤xs.size→hi - lo≤fuel→Ris xs.toList→(∀ i,i < lo→xs.toList.getD i 0 < j)→(∀ i,hi≤i→i < xs.size→j≤xs.toList.getD i 0) →
  SetTable.below.go xs j fuel lo hi≤xs.size∧(∀ i,i < SetTable.below.go xs j fuel lo hi→xs.toList.getD i 0 < j)∧∀ i,SetTable.below.go xs j fuel lo hi≤i→i < xs.size→j≤xs.toList.getD i 0
 | 0,lo,hi,h1,h2,h3,hr,ha,hb=>by
  have e:lo = hi:=by omega
  subst e
  unfold SetTable.below.go
  exact ⟨h2,ha,hb⟩
 | fuel + 1,lo,hi,h1,h2,h3,hr,ha,hb=>by
  unfold SetTable.below.go
  by_cases c:lo < hi
  ·rw [if_pos c]
   have hm:(lo + hi) / 2 < xs.size:=by omega
   have em:xs.getD ((lo + hi) / 2) j = xs.toList.getD ((lo + hi) / 2) 0:=by
    simp [Array.getD,hm]
   dsimp only
   by_cases d:xs.getD ((lo + hi) / 2) j < j
   ·rw [if_pos d]
    refine zO4 xs j fuel _ hi (by omega) h2 (by omega) hr (fun i hi'=>?_) hb
    rw [em] at d
    by_cases z:i = (lo + hi) / 2
    ·subst z;exact d
    ·exact Nat.lt_trans (zK6 hr (by omega) (by simpa using hm)) d
   ·rw [if_neg d]
    refine zO4 xs j fuel lo _ (by omega) (by omega) (by omega) hr ha fun i hi' hs=>?_
    rw [em] at d
    by_cases z:i = (lo + hi) / 2
    ·subst z;omega
    ·have:=zK6 hr (i:=(lo + hi) / 2) (k:=i) (by omega) (by simpa using hs)
     omega
  ·rw [if_neg c]
   have e:lo = hi:=by omega
   subst e
   exact ⟨h2,ha,hb⟩
theorem yb7 {xs:Array Nat} (hr:Ris xs.toList) (j:Nat):SetTable.below xs j≤xs.size∧(∀ i,i < SetTable.below xs j→xs.toList.getD i 0 < j)∧∀ i,SetTable.below xs j≤i→i < xs.size→j≤xs.toList.getD i 0:=
 zO4 xs j xs.size 0 xs.size (Nat.zero_le _) (Nat.le_refl _) (by omega) hr (fun i h=>by omega) fun i h1 h2=>by omega
noncomputable def TT (L:Bool) (t:SetTable):Prop:=t.led = L∧t.dummies = #[]∧Ris t.place.toList
theorem yc6 {L:Bool} {t:SetTable} (h:TT L t) (j:Nat):t.slot j≠.dummy:=by
 unfold SetTable.slot
 have:SetTable.has t.dummies j = false:=by
  rw [h.2.1];unfold SetTable.has;simp
 dsimp only
 split
 ·simp
 ·rw [this];simp
theorem yc5 {t:SetTable} {j:Nat} (h:t.slot j = .empty):t.place[SetTable.below t.place j]?≠some j:=fun e=>by
 unfold SetTable.slot at h
 dsimp only at h
 rw [e] at h
 simp at h
theorem zY0 {L:Bool} {t:SetTable} (ht:TT L t) (hashAt:Nat→Int) (h:Int):∀ (fuel:Nat) (p:SetTable.Probe) (j:Nat) (d:Option Nat),p.dummy = none→SetTable.probe.go t hashAt h fuel p = some (.empty j d)→t.slot j = .empty∧d = none
 | 0,p,j,d,_,e=>by unfold SetTable.probe.go at e;cases e
 | fuel + 1,p,j,d,hp,e=>by
  unfold SetTable.probe.go at e
  cases q:t.slot p.j with
  | empty=>
   rw [q] at e
   simp only [Option.some.injEq,SetTable.Met.empty.injEq] at e
   obtain ⟨rfl,rfl⟩:=e
   exact ⟨q,hp⟩
  | dummy=>exact absurd q (yc6 ht p.j)
  | live i=>
   rw [q] at e
   dsimp only at e
   split at e
   ·cases e
   ·refine zY0 ht hashAt h fuel _ j d ?_ e
    unfold SetTable.advance
    split
    ·exact hp
    ·exact hp
theorem ym2 {L:Bool} {t:SetTable} (ht:TT L t) {h:Int} {j:Nat} {b:Bool} (e:t.freeSlot h = some (j,b)):t.slot j = .empty:=by
 unfold SetTable.freeSlot at e
 split at e
 ·rename_i j' d q
  unfold SetTable.probe at q
  obtain ⟨q1,q2⟩:=zY0 ht _ h _ _ j' d rfl q
  subst q2
  simp at e
  rw [← e.1];exact q1
 ·cases e
theorem zV9 {α:Type} (xs:Array α) (p:Nat) (x:α) (hp:p≤xs.size):(SetTable.insertAt xs p x).toList = xs.toList.take p ++ x :: xs.toList.drop p:=by
 unfold SetTable.insertAt
 simp [Array.toList_extract,List.extract]
 exact List.take_of_length_le (by simp)
theorem put_ris {L:Bool} {t:SetTable} (ht:TT L t) {j:Nat} (hj:t.slot j = .empty):TT L (t.put j).1:=by
 obtain ⟨b1,b2,b3⟩:=yb7 ht.2.2 j
 have hne:=yc5 hj
 have hd:SetTable.has t.dummies j = false:=by rw [ht.2.1];unfold SetTable.has;simp
 refine ⟨ht.1,?_,?_⟩
 ·show (if SetTable.has t.dummies j = true then _ else t.dummies) = #[]
  rw [hd];simpa using ht.2.1
 ·show Ris (SetTable.insertAt t.place (SetTable.below t.place j) j).toList
  rw [zV9 _ _ _ b1]
  generalize SetTable.below t.place j = p at *
  have hr:=ht.2.2
  refine List.pairwise_append.mpr ⟨hr.sublist (List.take_sublist _ _),List.pairwise_cons.mpr ⟨fun y hy=>?_,hr.sublist (List.drop_sublist _ _)⟩,fun a ha y hy=>?_⟩
  ·obtain ⟨i,hi,rfl⟩:=List.getElem_of_mem hy
   rw [List.getElem_drop]
   rw [List.length_drop] at hi
   have hs:p + i < t.place.size:=by have:=Array.length_toList (xs:=t.place);omega
   have g:=b3 (p + i) (by omega) hs
   have e:t.place.toList.getD (p + i) 0 = t.place.toList[p + i]'(by simpa using hs):=by simp [hs]
   rw [e] at g
   refine Nat.lt_of_le_of_ne g fun z=>?_
   by_cases i0:i = 0
   ·subst i0
    apply hne
    have:t.place[p]? = some (t.place.toList[p + 0]'(by simpa using hs)):=by
     have:p < t.place.size:=by omega
     simp [this]
    rw [this,← z]
   ·have h2:=zK6 hr (i:=p) (k:=p + i) (by omega) (by simpa using hs)
    have h3:=b3 p (Nat.le_refl _) (by omega)
    rw [e] at h2
    omega
  ·have ha':a < j:=by
    obtain ⟨i,hi,rfl⟩:=List.getElem_of_mem ha
    rw [List.getElem_take]
    rw [List.length_take] at hi
    have g:=b2 i (by omega)
    have hi2:i < t.place.size:=by have:=Array.length_toList (xs:=t.place);omega
    simpa [hi2] using g
   rcases List.mem_cons.mp hy with rfl | hy
   ·exact ha'
   ·obtain ⟨i,hi,rfl⟩:=List.getElem_of_mem hy
    rw [List.getElem_drop]
    rw [List.length_drop] at hi
    have hs:p + i < t.place.size:=by have:=Array.length_toList (xs:=t.place);omega
    have g:=b3 (p + i) (by omega) hs
    have e:t.place.toList.getD (p + i) 0 = t.place.toList[p + i]'(by simpa using hs):=by simp [hs]
    rw [e] at g
    omega
theorem zy3 {L:Bool} {t:SetTable} (ht:TT L t) (n:Nat):TT L (t.standIn n):=⟨ht.1,rfl,by
 show Ris (Array.range n).toList
 rw [Array.toList_range];exact List.pairwise_lt_range⟩
theorem or_ris {L:Bool} {t:SetTable} (ht:TT L t) (n:Nat):TT L (t.orStandIn n):=by
 unfold SetTable.orStandIn
 split
 ·exact ht
 ·exact zy3 ht n
theorem lay_ris {L:Bool} {t:SetTable} (ht:TT L t) (es:Array (Int×Value)) (h:Int) (x:Value):TT L (layNew t es h x).2.1:=by
 unfold layNew
 split
 ·rename_i slot wd e
  exact or_ris (put_ris ht (ym2 ht e)) _
 ·exact zy3 ht _
theorem laid_ris {mask finger moves:Nat} {led plain:Bool} {hs:Array Int} {t:SetTable} {o:Array Nat} (e:SetTable.laid mask finger moves led plain hs = some (t,o)):TT led t:=by
 unfold SetTable.laid at e
 cases q:SetTable.layClean mask hs with
 | none=>rw [q] at e;cases e
 | some owner=>
  rw [q] at e
  simp only [Option.bind_eq_bind,Option.bind_some,Option.pure_def,Option.some.injEq,Prod.mk.injEq] at e
  obtain ⟨rfl,_⟩:=e
  refine ⟨rfl,rfl,?_⟩
  show Ris (((List.range (mask + 1)).filterMap fun j=>(owner.getD j none).map (j,·)).map (·.1)).toArray.toList
  show (((List.range (mask + 1)).filterMap fun j=>(owner.getD j none).map (j,·)).map (·.1)).Pairwise (· < ·)
  rw [List.pairwise_map]
  refine (List.Pairwise.filterMap (R:=(· < ·)) _ (fun a a' haa b hb b' hb'=>?_) List.pairwise_lt_range)
  cases z:owner.getD a none with
  | none=>rw [z] at hb;simp at hb
  | some k=>
   cases z':owner.getD a' none with
   | none=>rw [z'] at hb';simp at hb'
   | some k'=>
    rw [z] at hb;rw [z'] at hb'
    simp at hb hb'
    subst hb;subst hb'
    exact haa
theorem yf8 {L:Bool} {t:SetTable} (ht:TT L t) (es:Array (Int×Value)) (wanted:Nat):TT L (relayAll t es wanted).2.1:=by
 unfold relayAll
 split
 ·rename_i t' order e
  dsimp only
  split
  ·unfold SetTable.relaid at e
   have:=laid_ris e
   rw [ht.1] at this
   exact this
  ·exact zy3 ht _
 ·exact zy3 ht _
theorem off_ris {L:Bool} {t:SetTable} (ht:TT L t):TT L { t with plain:=false }:=ht
section
variable {prog:Program} {w:World} {K:Type} [DecidableEq K] {knd:KeyKind prog w K} {A:Around} {E:Value→Shared→Prop} {s:Shared} {L:Bool} {a:Addr} {S:K→Bool} {n:Nat} {k:K} {x:Value}
noncomputable def SetT (knd:KeyKind prog w K) (L:Bool) (h:Heap) (a:Addr) (S:K→Bool) (n:Nat):Prop:=
 ∃ o es ep t,h.get? a = some o∧o.ExactSet∧o.data = .set es ep t∧ElemsOf knd es.toList∧(∀ k,S k = true↔∃ e∈es.toList,knd.is k e.2 = true)∧es.size < scanBound∧t.fits es.size = true∧es.size = n∧TT L t
theorem SetT.at {h h':Heap} (q:SetT knd L h a S n) (k:∀ o,h.get? a = some o→h'.get? a = some o):SetT knd L h' a S n:=by
 obtain ⟨o,es,ep,t,ho,r⟩:=q;exact ⟨o,es,ep,t,k _ ho,r⟩
theorem SetT.congr {h:Heap} {S':K→Bool} {n':Nat} (q:SetT knd L h a S n) (e:∀ k,S k = S' k) (en:n = n'):SetT knd L h a S' n':=by
 have:S = S':=funext e
 subst this;subst en;exact q
theorem stored {h:Heap} {o:Obj} {es:Array (Int×Value)} {ep:Nat} {t:SetTable} (ho:h.get? a = some o) (hx:o.ExactSet) (hd:o.data = .set es ep t) {es':Array (Int×Value)} {t':SetTable} {S':K→Bool} (p1:ElemsOf knd es'.toList)
  (p2:∀ k,S' k = true↔∃ e∈es'.toList,knd.is k e.2 = true) (p3:es'.size < scanBound) (p4:t'.fits es'.size = true) (p5:TT L t') :
  (h.update a (Obj.putSet es' t')).get? a = some { o with data:=.set es' (ep + 1) t' }∧SetT knd L (h.update a (Obj.putSet es' t')) a S' es'.size:=by
 obtain ⟨g,_⟩:=SetOf_store (knd:=knd) ho hx hd p1 p2 p3 p4
 exact ⟨g,_,es',ep + 1,t',g,hx,rfl,p1,p2,p3,p4,rfl,p5⟩
theorem addEnd {g:Bool→Sem Unit} (hg:∀ (b:Bool) (s1:Shared) (Q:Unit→Shared→Prop),Q () s1→wpAny (model prog w) A (g b) Q E s1) {o:Obj} {es:Array (Int×Value)} {ep:Nat} {t:SetTable} (ho:s.heap.get? a = some o) (hx:o.ExactSet) (hd:o.data = .set es ep t)
  {es1:Array (Int×Value)} {t2:SetTable} {S':K→Bool} (p1:ElemsOf knd es1.toList) (p2:∀ k,S' k = true↔∃ e∈es1.toList,knd.is k e.2 = true) (p3:es1.size < scanBound) (p4:t2.fits es1.size = true) (p5:TT L t2) {wasDummy:Bool} {R:Option Bool→Shared→Prop}
  (q:∀ h',Heap.SameBut a s.heap h'→SetT knd L h' a S' es1.size→R (some true) { s with heap:=h' }) :
  wpAny (model prog w) A (do
    storeSet a es1 t2
    if (!wasDummy && t2.tooFull) = true then do
        g (relayAll t2 es1 (SetTable.grown es1.size)).2.2
        storeSet a (relayAll t2 es1 (SetTable.grown es1.size)).1 (relayAll t2 es1 (SetTable.grown es1.size)).2.1
        pure (some true)
     else pure (some true)) R E s:=by
 obtain ⟨g1,g2⟩:=stored (knd:=knd) ho hx hd p1 p2 p3 p4 p5
 have sb:=Heap.SameBut.update s.heap a (Obj.putSet es1 t2)
 refine wpAny_bind (wpAny_storeSet_of ho hd ?_ (fits_of_scanBound p3))
 split
 ·have r1:=relayAll_perm t2 es1 (SetTable.grown es1.size);have r2:=relayAll_fits t2 es1 (SetTable.grown es1.size);have r3:=yf8 p5 es1 (SetTable.grown es1.size)
  generalize relayAll t2 es1 (SetTable.grown es1.size) = Z at r1 r2 r3 ⊢
  obtain ⟨es2,t3,gv⟩:=Z
  dsimp only at r1 r2 r3 ⊢
  have z:es2.size = es1.size:=by rw [← Array.length_toList,r1.length_eq,Array.length_toList]
  have p3':es2.size < scanBound:=by omega
  refine wpAny_bind (hg _ _ _ (wpAny_bind (wpAny_storeSet_of g1 rfl ?_ (fits_of_scanBound p3'))))
  obtain ⟨_,u⟩:=stored (knd:=knd) (L:=L) g1 hx rfl (p1.perm r1) (fun k'=>(p2 k').trans ⟨fun ⟨e,he,y⟩=>⟨e,r1.mem_iff.mpr he,y⟩,fun ⟨e,he,y⟩=>⟨e,r1.mem_iff.mp he,y⟩⟩) p3' r2 r3
  rw [z] at u
  exact wpAny_pure (q _ (sb.trans (Heap.SameBut.update _ a _)) u)
 ·exact wpAny_pure (q _ sb g2)
theorem addOk {Q:Bool→Shared→Prop} (hkey:knd.is k x = true) (hsc:x.scannable = true) (hS:SetT knd L s.heap a S n) (hroom:n + 1 < scanBound)
  (q:∀ h',Heap.SameBut a s.heap h'→SetT knd L h' a (fun k'=>S k' || decide (k' = k)) (if S k then n else n + 1)→Q (!S k) { s with heap:=h' }):wpAny (model prog w) A (setAddHashed a x (knd.hash k)) Q E s:=by
 obtain ⟨o,es,ep,t,ho,hx,hd,hel,hmem,hb,hf,hn,hT⟩:=hS
 have hb1:es.size + 1 < scanBound:=by omega
 unfold setAddHashed setAddHashedIn;refine wpAny_holding (wpAny_bind (wpAny_setState_of ho hd hf ?_))
 dsimp only;rw [byScan_of hsc hb hel];simp only [↓reduceIte];unfold setAddByScan
 refine wpAny_bind (wpAny_bind (wpAny_rule (wpAny_bind (wpAny_setScan_of hkey ho hd hf hel ?_))))
 cases hr:List.findIdx? (fun e=>knd.is k e.2) es.toList with
 | some j=>
  obtain ⟨hj,hpj,_⟩:=List.findIdx?_eq_some_iff_getElem.mp hr
  have hSk:S k = true:=(hmem k).mpr ⟨es.toList[j],List.getElem_mem hj,hpj⟩
  have u:=q s.heap (Heap.SameBut.refl a s.heap) ⟨o,es,ep,t,ho,hx,hd,hel,fun k'=>by
   rw [Bool.or_eq_true,decide_eq_true_eq,← hmem k'];exact ⟨fun z=>z.elim id (fun e=>e ▸ hSk),.inl⟩,hb,hf,by rw [hSk];exact hn,hT⟩
  rw [hSk] at u
  dsimp only
  exact wpAny_pure (wpAny_pure u)
 | none=>
  have hSk:S k = false:=by
   cases hk:S k with
   | false=>rfl
   | true=>obtain ⟨e,he,hp⟩:=(hmem k).mp hk;have:=List.findIdx?_eq_none_iff.mp hr e he;rw [hp] at this;cases this
  have gw:∀ (b:Bool) (s1:Shared) (Q':Unit→Shared→Prop),Q' () s1→wpAny (model prog w) A (match b with | true=>rule "set.scan.the-table-gave-way" | false=>pure ()) Q' E s1:=fun b s1 Q' hq=>by
   cases b <;> first | exact wpAny_pure hq | exact wpAny_rule hq
  have l1:=layNew_perm t es (knd.hash k) x;have l2:=layNew_fits t es (knd.hash k) x;have l3:=lay_ris hT es (knd.hash k) x
  dsimp only
  generalize layNew t es (knd.hash k) x = Z at l1 l2 l3 ⊢
  obtain ⟨es1,t1,wd,gv⟩:=Z
  dsimp only at l1 l2 l3 ⊢
  rw [Array.toList_push] at l1
  have p1:ElemsOf knd es1.toList:=(hel.push hkey hsc).perm l1
  have p2:∀ k',(S k' || decide (k' = k)) = true↔∃ e∈es1.toList,knd.is k' e.2 = true:=mem_push_iff hkey hmem l1
  have z1:es1.size = n + 1:=by rw [← Array.length_toList,l1.length_eq,List.length_append,Array.length_toList,hn];rfl
  have p3:es1.size < scanBound:=by omega
  have fin:∀ h',Heap.SameBut a s.heap h'→SetT knd L h' a (fun k'=>S k' || decide (k' = k)) es1.size→Q true { s with heap:=h' }:=fun h' sb u=>by
   have v:=q h' sb;rw [hSk] at v;rw [z1] at u;exact v u
  refine wpAny_bind (gw _ _ _ ?_)
  split
  ·refine wpAny_bind ?_
   rw [hashByValue_scannable 8 hsc]
   refine wpAny_pure (addEnd (L:=L) gw ho hx hd p1 p2 p3 ?_ ?_ fun h' sb u=>wpAny_pure (fin h' sb u))
   ·split
    ·exact l2
    ·exact SetTable.fits_plain_off l2
   ·split
    ·exact l3
    ·exact off_ris l3
  ·refine wpAny_bind (wpAny_pure ?_)
   simp only [↓reduceIte]
   exact addEnd (L:=L) gw ho hx hd p1 p2 p3 l2 l3 fun h' sb u=>wpAny_pure (fin h' sb u)
end
open PyProof.Rows
section
variable {prog:Program} {w:World} {A:Around} {R:Result→Shared→Prop} {I:Addr} {fp wr:List Addr} {G:Array GenState→Array GenState→Prop} {n:Nat} {P:Nat→Value→Prop} {St:Nat→Shared→Prop} {L:Bool}
theorem updLoop (W:WalksS prog w A.in1 I fp wr G n P St) (Z:Addr) (hZ:Z∉fp) (val:Nat→Int) (hval:∀ i v,P i v→∃ t,v = .int (val i) t) (hb:n + 1 < scanBound) :
  ∀ (k i:Nat) (s:Shared),n - i = k→i≤n→St i s→SetT (intKind prog w) L s.heap Z (fun k'=>(firstMet val i).any (· == k')) (firstMet val i).length →
   (∀ s',Moved (Z :: wr) G s s'→SetT (intKind prog w) L s'.heap Z (fun k'=>(firstMet val n).any (· == k')) (firstMet val n).length→R (.ok (.ret .none)) s') →
   codeAny (model prog w) A (.builtin "set.update.loop" ⟨[.ref Z,.ref I],[]⟩) R s:=by
 have hw:Z∉wr:=fun h=>hZ (W.sub _ h)
 have up:∀ b∈wr,b∈Z :: wr:=fun b h=>List.mem_cons_of_mem _ h
 intro k
 induction k with
 | zero=>
  intro i s hk hi hst hS hR
  obtain rfl:i = n:=by omega
  refine codeAny_builtin PyProof.Rows.F.entry_set_update_loop ?_
  rw [Around.under_plainId PyProof.Rows.F.plain_set_update_loop _]
  show wpAny _ A.in1 (pyNext (.ref I) >>= _) _ _ s;refine wpAny_bind (W.done s _ _ hst fun s' hm=>?_)
  exact wpAny_pure (hR s' (hm.mono up) (hS.at fun o e=>hm.heap Z _ hw e))
 | succ k ih=>
  intro i s hk hi hst hS hR
  refine codeAny_builtin PyProof.Rows.F.entry_set_update_loop ?_
  rw [Around.under_plainId PyProof.Rows.F.plain_set_update_loop _]
  show wpAny _ A.in1 (pyNext (.ref I) >>= _) _ _ s;refine wpAny_bind (W.item i s _ _ (by omega) hst fun v s' hP hst' hm=>?_)
  obtain ⟨t,rfl⟩:=hval i v hP
  have hS1:=hS.at (h':=s'.heap) fun o e=>hm.heap Z _ hw e
  show wpAny _ A.in1 (holding [Value.int (val i) t] (setAdd Z (.int (val i) t)) >>= _) _ _ s';refine wpAny_bind (wpAny_holding ?_)
  unfold setAdd
  refine wpAny_holding (wpAny_bind ((intKind prog w).pyHash (k:=val i) (intKind_is _ _ _ _) ?_))
  have room:(firstMet val i).length + 1 < scanBound:=by have:=firstMet_length_le val i;omega
  refine addOk (knd:=intKind prog w) (s:={ s' with toks:=s'.toks + 1 }) (intKind_is _ _ _ _) rfl hS1 room fun h' sb hS2=>?_
  have hS3:=hS2.congr (S':=fun k'=>(firstMet val (i + 1)).any (· == k')) (n':=(firstMet val (i + 1)).length) (fun k'=>by rw [firstMet_succ,step_any]) (by rw [firstMet_succ,step_length])
  refine wpAny_pure ⟨plainId_quiet PyProof.Rows.F.plain_set_update_loop _,ih (i + 1) _ (by omega) (by omega) (W.frame _ s' _ _ hst' (Nat.le_succ _) fun b hb o e=>?_) hS3 fun s'' hm'' hS''=>?_⟩
  ·rw [sb.2 b (fun h:b = Z=>hZ (by rw [← h];exact hb))];exact e
  ·refine hR s'' (Moved.trans W.gtrans ((hm.mono up).then_heap (Nat.le_succ _) fun b o hb e=>?_) hm'') hS''
   rw [sb.2 b (fun h:b = Z=>hb (by rw [h];exact List.mem_cons_self))];exact e
end
noncomputable def ledOf (w:World):Bool:=!w.params.followText "set-order"
section
variable {prog:Program} {w:World} {A:Around} {E:Value→Shared→Prop} {s:Shared}
theorem newT (a:Value) {Q₁:Value→Shared→Prop}
  (h:Q₁ (.ref s.heap.objs.size) { s with heap:=s.heap.push { cls:=.type "set", dict:=none,data:=.set #[] 0 (.fresh 0 0 (ledOf w)) } }) :
  codeAny (model prog w) A (.call (.builtin "set.__new__") ⟨[.type "set", a],[]⟩) (wants Q₁ E) s:=by
 refine codeAny_of_tree ?_
 show wpAny _ A.in1 (do checkBuiltinCall "set.__new__" ⟨[.type "set", a],[]⟩;again (.builtin "set.__new__" ⟨[.type "set", a],[]⟩)) _ _ s
 refine wpAny_bind (wpAny_of_eq (PySem.F.newCall_set_1 a) (wpAny_pure ⟨plainId_quiet PySem.F.plain_set_new _,codeAny_builtin PySem.F.entry_set_new ?_⟩))
 rw [Around.under_plainId PySem.F.plain_set_new _];unfold Builtin.«set.__new__» Builtin.Frozenset.newClass;have hsub:=sub_set_self
 obtain ⟨hp,g,d,tk,os⟩:=s;dsimp only
 wp_walk
 refine wpAny_askSetting (wpAny_pure ?_);dsimp only;simp only [newObj]
 exact wpAny_bind (wpAny_alloc (wpAny_pure (wpAny_pure h)))
end
open PyProof.Rows
section
variable {prog:Program} {w:World} {A:Around} {E:Value→Shared→Prop} {s:Shared}
noncomputable abbrev fm (ns:List Int) (n:Nat):List Int:=firstMet (fun i=>ns.getD i 0) n
noncomputable abbrev zx2 (b:Bool):Obj:={ cls:=.type "set", dict:=none,data:=.set #[] 0 (.fresh 0 0 b) }
noncomputable def Aft (prog:Program) (w:World) (s:Shared) (ns:List Int) (n:Nat) (r:Value) (s2:Shared):Prop:=
 r = .none∧∃ h' tk,s2 = { s with heap:=h',toks:=tk }∧SetT (intKind prog w) (ledOf w) h' s.heap.objs.size (fun k=>(fm ns n).any (· == k)) (fm ns n).length∧∀ b o,b < s.heap.objs.size→s.heap.get? b = some o→h'.get? b = some o
set_option maxRecDepth 100000 in
set_option maxHeartbeats 3200000 in
theorem callSet {l:Addr} {items:Array Value} {ns:List Int} {Q:Value→Shared→Prop} (hh:A.handled = none) (hl:s.heap.IsList l items) (hi:IntsAre items.toList ns) (hb:items.size + 1 < scanBound)
  (h:∀ (h':Heap) (tk:Nat),SetT (intKind prog w) (ledOf w) h' s.heap.objs.size (fun k=>(fm ns items.size).any (· == k)) (fm ns items.size).length→(∀ b o,b < s.heap.objs.size→s.heap.get? b = some o→h'.get? b = some o)→Q (.ref s.heap.objs.size) { s with heap:=h',toks:=tk }) :
  wpAny (model prog w) A (call (.type "set") [.ref l]) Q E s:=by
 obtain ⟨c,tl,hmro⟩:=PySem.F.called_set.mro;have hmade:=PySem.F.called_set.made;have hsub:=PySem.F.called_set.sub
 refine wpAny_call (codeAny_of_tree ?_);show wpAny _ _ (callAny (.type "set") _) _ _ _
 refine wpAny_pure ⟨Code.quiet_builtin _ (by decide +kernel),codeAny_builtin F.entry_type_call ?_⟩;rw [Around.under_plain (weight_type_call_type "set" [.ref l] []) rfl]
 have h1:=PySem.F.called_set.notType;have h2:=PySem.F.called_set.canCreate;have hct:=PySem.F.typeCall_set_1 (.ref l)
 repeat (any_goals (first | assumption | wp_step))
 refine codeAny_mono (newT (.ref l) (E:=E) (Q₁:=fun obj s1=>obj = .ref s.heap.objs.size∧s1 = { s with heap:=s.heap.push (zx2 (ledOf w)) }) ⟨rfl,rfl⟩) fun r s1 hr=>?_
 cases r with
 | error e=>exact hr
 | ok fl=>
  cases fl with
  | ret obj=>
   obtain ⟨rfl,rfl⟩:=hr
   generalize hled:ledOf w = led at h
   have hS:(s.heap.push (zx2 led)).get? s.heap.objs.size = some (zx2 led):=Heap.get?_push_size _ rfl
   have hT:Shared.TypeIs { s with heap:=s.heap.push (zx2 led) } (.ref s.heap.objs.size) "set" := ⟨_,hS,rfl⟩
   have hli:=PySem.F.called_set.init.lookup;have hbi:=PySem.F.called_set.init.bind (.ref s.heap.objs.size)
   repeat (any_goals (first | assumption | wp_step))
   refine codeAny_mono (codeAny_call_builtin (R:=wants (Aft prog w s ns items.size) E) PySem.F.called_set.init.plain PySem.F.entry_set_init (check_set_init_1 hT ?_)) fun r2 s2 hr2=>?_
   ·obtain ⟨ol,hol,hcl,nl,hdl⟩:=hl
    obtain ⟨ocls,odict,odata,oslots⟩:=ol
    simp only at hcl hdl;subst hcl;subst hdl
    have hol':(s.heap.push (zx2 led)).get? l = some { cls:=.type "list", dict:=odict,data:=.seq items nl,slots:=oslots }:=Heap.get?_push_of_some _ hol
    have hsls:=PySem.F.sub_list_set;have hslf:=PySem.F.sub_list_frozenset
    have hne:(Value.type "list" == Value.type "dict") = false:=by decide
    have hl1:(s.heap.push (zx2 led)).IsList l items:=⟨_,hol',rfl,nl,rfl⟩
    unfold Builtin.«set.__init__» noKeywords Builtin.Frozenset.updateFrom;generalize hPI:pyIter = PI
    wp_walk
    subst hPI
    refine wpAny_pyIter_list hl1 (wpAny_bind (wpAny_runValue ?_))
    have hlS:l < s.heap.objs.size:=Heap.lt_size hol
    have hh3:A.in1.in1.in1.handled = none:=by simp [hh]
    have es:(s.heap.push (zx2 led)).objs.size = s.heap.objs.size + 1:=Heap.size_push _ _
    have hneI:l≠(s.heap.push (zx2 led)).objs.size:=by rw [es];exact Nat.ne_of_lt (Nat.lt_succ_of_lt hlS)
    have hSf:s.heap.objs.size∉[(s.heap.push (zx2 led)).objs.size,l]:=by
     rw [es];simp only [List.mem_cons,List.not_mem_nil,or_false,not_or];exact ⟨Nat.ne_of_lt (Nat.lt_succ_self _),Nat.ne_of_gt hlS⟩
    have hval:∀ (i:Nat) (v:Value),items[i]? = some v→∃ t,v = .int ((fun i=>ns.getD i 0) i) t:=fun i v hv=>IntsAre.int_at hi i v (by rw [Array.getElem?_toList];exact hv)
    refine updLoop (L:=led) ((Walks.list hh3 _ l hneI items).toS) s.heap.objs.size hSf (fun i=>ns.getD i 0) hval hb (items.size - 0) 0 _ (by omega) (Nat.zero_le _) ⟨⟨_,Heap.get?_push_size _ rfl,rfl,rfl⟩,(hl1.push _)⟩ ?hS0 ?hR
    case hS0=>
     refine ⟨zx2 led,#[],0,.fresh 0 0 led,Heap.get?_push_of_some _ hS,⟨rfl,rfl,rfl⟩,rfl,fun e he=>by simp at he,fun k=>by simp [firstMet_zero],by decide,by rfl,rfl,rfl,rfl,List.Pairwise.nil⟩
    case hR=>
     intro s' hm hS'
     obtain ⟨h',g',d',tk',os'⟩:=s'
     have eg:g' = s.gens:=hm.gens;have ed:d' = s.drawn:=hm.drawn;have eo:os' = s.os:=hm.os
     subst eg;subst ed;subst eo
     show wpAny _ _ _ _ _ _;refine wpAny_pure ?_;show wpAny _ _ (ret Value.none) _ _ _
     refine wpAny_pure ⟨rfl,h',tk',rfl,by rw [hled];exact hS',fun b o hb e=>hm.heap b o ?_ (Heap.get?_push_of_some _ (Heap.get?_push_of_some _ e))⟩
     rw [es];simp only [List.mem_cons,List.not_mem_nil,or_false,not_or];exact ⟨Nat.ne_of_lt hb,Nat.ne_of_lt (Nat.lt_succ_of_lt hb)⟩
   ·cases r2 with
    | error e=>exact hr2
    | ok fl2=>
     cases fl2 with
     | ret r=>
      obtain ⟨rfl,h',tk,rfl,hS',hk'⟩:=hr2
      rw [hled] at hS'
      repeat (any_goals (first | assumption | wp_step))
      exact h _ _ hS' hk'
     | _=>exact hr2.elim
  | _=>exact hr.elim
end
open PyProof.Rows
namespace FS
theorem slot_next:Slot "set_iterator" "__next__" "set_iterator.__next__" := .of (owner := "set_iterator") (n := "__next__") (by rw [typeLookup_type,builtinLookup_eq_fast];kernel_rfl) (by decide +kernel) (by decide +kernel) (by decide +kernel) (by first | exact .inl (by decide +kernel) | exact .inr (by decide +kernel)) (by rw [isSubtype_type];kernel_rfl)
theorem slot_self:Slot "set_iterator" "__iter__" "set_iterator.__iter__" := .of (owner := "set_iterator") (n := "__iter__") (by rw [typeLookup_type,builtinLookup_eq_fast];kernel_rfl) (by decide +kernel) (by decide +kernel) (by decide +kernel) (by first | exact .inl (by decide +kernel) | exact .inr (by decide +kernel)) (by rw [isSubtype_type];kernel_rfl)
theorem entry_next:entryFor table "set_iterator.__next__" = some Builtin.«set_iterator.__next__»:=entryFor_of_fast (by kernel_rfl)
theorem entry_self:entryFor table "set_iterator.__iter__" = some Builtin.«dict_keyiterator.__iter__»:=entryFor_alias (id' := "dict_keyiterator.__iter__") (by kernel_rfl) rfl (by decide +kernel) (by kernel_rfl)
theorem entry_iter:entryFor table "set.__iter__" = some Builtin.«frozenset.__iter__»:=entryFor_alias (id' := "frozenset.__iter__") (by kernel_rfl) rfl (by decide +kernel) (by kernel_rfl)
theorem args_next (a:Value):argsOk "set_iterator.__next__" ⟨[a],[]⟩:=by unfold argsOk;kernel_rfl
theorem args_self (a:Value):argsOk "set_iterator.__iter__" ⟨[a],[]⟩:=by unfold argsOk;kernel_rfl
end FS
section
variable {prog:Program} {w:World} {A:Around} {E:Value→Shared→Prop} {s:Shared}
noncomputable def IsIt (h:Heap) (I a:Addr) (f:Value) (i n ep:Nat):Prop:=∃ o,h.get? I = some o∧o.cls = .type "set_iterator" ∧ o.data = .fields #[f,.int i 0,.ref a,.int n 0,.int ep 0]
theorem IsIt.ty {h:Heap} {I a:Addr} {f:Value} {i n ep:Nat} (q:IsIt s.heap I a f i n ep):s.TypeIs (.ref I) "set_iterator" := by obtain ⟨o,h1,h2,_⟩:=q;exact ⟨o,h1,h2⟩
structure SetAt (h:Heap) (a:Addr) (es:Array (Int×Value)) (ep:Nat) (t:SetTable):Prop where
 ex:∃ o,h.get? a = some o∧o.ExactSet∧o.data = .set es ep t
 fit:t.fits es.size = true
theorem SetAt.at {h h':Heap} {a:Addr} {es:Array (Int×Value)} {ep:Nat} {t:SetTable} (q:SetAt h a es ep t) (k:∀ o,h.get? a = some o→h'.get? a = some o):SetAt h' a es ep t:=by
 obtain ⟨⟨o,h1,h2⟩,f⟩:=q;exact ⟨⟨o,k o h1,h2⟩,f⟩
end
open PySem PyProof.Rows
section
variable {prog:Program} {w:World} {A:Around} {E:Value→Shared→Prop} {s:Shared} {I a:Addr} {es:Array (Int×Value)} {ep:Nat} {t:SetTable} {Q:Option Value→Shared→Prop}
noncomputable abbrev itObj (f:Value) (i:Nat) (z:Value) (n ep:Nat):Obj:={ cls:=.type "set_iterator", dict:=none,data:=.fields #[f,.int i 0,z,.int n 0,.int ep 0],slots:=#[] }
theorem itTy {f z:Value} {i n:Nat} (h:s.heap.get? I = some (itObj f i z n ep)):s.TypeIs (.ref I) "set_iterator" := ⟨_,h,rfl⟩
theorem nextInt {sl i nx:Nat} {x:Value} (hit:s.heap.get? I = some (itObj (.int sl 0) i (.ref a) es.size ep)) (hS:SetAt s.heap a es ep t) (hnx:∀ (A':Around) (Q':Option (Value×Nat)→Shared→Prop) (E':Value→Shared→Prop),Q' (some (x,nx)) s→wpAny (model prog w) A' (setNext a sl i ep) Q' E' s)
  (hQ:∀ h',h'.get? I = some (itObj (.int nx 0) (i + 1) (.ref a) es.size ep)→Heap.SameBut I s.heap h'→Q (some x) { s with heap:=h' }):wpAny (model prog w) A (pyNext (.ref I)) Q E s:=by
 obtain ⟨⟨o,ho,_,hd⟩,hf⟩:=hS
 unfold pyNext
 refine wpAny_bind (wpAny_attempt (wpAny_callSpecial?_slot (name:=Str.ofString "__next__") (itTy hit) FS.slot_next (wpAny_call_entry FS.slot_next (itTy hit) FS.entry_next ?_ (FS.args_next _))))
 show wpAny _ _ (fieldsOf (.ref I) >>= _) _ _ s
 refine wpAny_bind (wpAny_fieldsOf hit rfl ?_)
 show wpAny _ _ (setEntries a >>= _) _ _ s
 refine wpAny_bind (wpAny_setEntries_of ho hd hf ?_)
 rw [if_neg (by simp)]
 show wpAny _ _ (setNext a (sl:Int).toNat (i:Int).toNat (ep:Int).toNat >>= _) _ _ s
 simp only [Int.toNat_natCast]
 refine wpAny_bind (hnx _ _ _ ?_)
 refine wpAny_bind (wpAny_setField_rec hit (by simp) fun h1 g1 b1=>wpAny_bind (wpAny_setField_rec g1 (by simp) fun h2 g2 b2=>?_))
 exact wpAny_pure ⟨x,rfl,wpAny_pure (hQ h2 g2 (b1.trans b2))⟩
theorem endInt {sl i:Nat} (hh:A.handled = none) (hit:s.heap.get? I = some (itObj (.int sl 0) i (.ref a) es.size ep)) (hS:SetAt s.heap a es ep t) (hnx:∀ (A':Around) (Q':Option (Value×Nat)→Shared→Prop) (E':Value→Shared→Prop),Q' none s→wpAny (model prog w) A' (setNext a sl i ep) Q' E' s)
  (hQ:∀ h',(∀ b o,b≠I→s.heap.get? b = some o→h'.get? b = some o)→Q none { s with heap:=h' }):wpAny (model prog w) A (pyNext (.ref I)) Q E s:=by
 obtain ⟨⟨o,ho,_,hd⟩,hf⟩:=hS
 unfold pyNext
 refine wpAny_bind (wpAny_attempt (wpAny_callSpecial?_slot (name:=Str.ofString "__next__") (itTy hit) FS.slot_next (wpAny_call_entry FS.slot_next (itTy hit) FS.entry_next ?_ (FS.args_next _))))
 show wpAny _ _ (fieldsOf (.ref I) >>= _) _ _ s
 refine wpAny_bind (wpAny_fieldsOf hit rfl ?_)
 show wpAny _ _ (setEntries a >>= _) _ _ s
 refine wpAny_bind (wpAny_setEntries_of ho hd hf ?_)
 rw [if_neg (by simp)]
 show wpAny _ _ (setNext a (sl:Int).toNat (i:Int).toNat (ep:Int).toNat >>= _) _ _ s
 simp only [Int.toNat_natCast]
 refine wpAny_bind (hnx _ _ _ (wpAny_bind (wpAny_setField_rec hit (by simp) fun h1 g1 b1=>wpAny_bind ?_)))
 simp only [newExc,newTuple];refine wpAny_bind (wpAny_newObj_type ?_ (by size_fits))
 refine wpAny_bind (m:=firstArgMember _ _) (wpAny_of_eq (a:=Value.none) (by first | rfl | (simp only [firstArgMember];rfl)) (wpAny_newObj_type ?_ (by size_fits)))
 simp only [raiseNew];refine wpAny_bind (wpAny_handled ?_)
 rw [show A.in1.handled = none from hh];refine wpAny_bind (wpAny_pure (wpAny_throw ?_))
 refine wpAny_bind (wpAny_isInstance (T := "StopIteration") (b:=true) ⟨_,Heap.get?_push_size _ rfl,rfl⟩ isSubtype_stop (wpAny_pure (hQ _ fun b o n e=>?_)))
 exact Heap.get?_push_of_some _ (Heap.get?_push_of_some _ (by rw [b1.2 b n];exact e))
theorem ye1 (hh:A.handled = none) (hne:a≠I) (ord:List Value) (hl:ord.length = es.size) (fst:Nat→Nat)
  (hnx:∀ (i:Nat) (s':Shared) (A':Around) (Q':Option (Value×Nat)→Shared→Prop) (E':Value→Shared→Prop),i≤es.size→SetAt s'.heap a es ep t→Q' ((ord[i]?).map fun x=>(x,fst (i + 1))) s'→wpAny (model prog w) A' (setNext a (fst i) i ep) Q' E' s') :
  Walks prog w A I [I,a] [I] es.size (fun i v=>ord[i]? = some v) (fun i h=>h.get? I = some (itObj (.int (fst i) 0) i (.ref a) es.size ep)∧SetAt h a es ep t) where
 sub:=fun b hb=>by simp at hb;simp [hb]
 frame:=fun _ _ _ st hk=>⟨hk I (by simp) _ st.1,st.2.at fun o e=>hk a (by simp) o e⟩
 item:=fun i s Q E hi st hQ=>by
  have e:ord[i]? = some ord[i]:=by simp [hl,hi]
  refine nextInt (x:=ord[i]) (nx:=fst (i + 1)) st.1 st.2 (fun A' Q' E' q=>hnx i s A' Q' E' (by omega) st.2 (by rw [e];exact q)) fun h' g b=>?_
  exact hQ _ h' s.toks e ⟨g,st.2.at fun o z=>by rw [b.2 a hne];exact z⟩ fun b' o hb z=>by rw [b.2 b' (fun y=>hb (by simp [y]))];exact z
 done:=fun s Q E st hQ=>by
  have e:ord[es.size]? = none:=by simp [hl]
  exact endInt hh st.1 st.2 (fun A' Q' E' q=>hnx es.size s A' Q' E' (Nat.le_refl _) st.2 (by rw [e];exact q)) fun h' k=>hQ h' s.toks fun b o hb z=>k b o (fun y=>hb (by simp [y])) z
 self:=fun i s Q E st hQ=>by
  refine wpAny_pyIter_slot (itTy st.1) FS.slot_self (wpAny_call_entry FS.slot_self (itTy st.1) FS.entry_self ?_ (FS.args_self _))
  show wpAny _ _ (ret (.ref I)) _ _ s
  exact wpAny_pure ⟨_,rfl, "set_iterator", _,itTy st.1,FS.slot_next.lookup,hQ⟩
end
open PySem PyProof.Rows
theorem zA7 {α:Type}:∀ (l:List α) (i:Nat) (h:i < l.length),(l[i] :: l.eraseIdx i).Perm l
 | [],i,h=>by simp at h
 | a :: l,0,h=>by simp
 | a :: l,i + 1,h=>by
  have ih:=zA7 l i (by simpa using h)
  rw [List.eraseIdx_cons_succ,List.getElem_cons_succ]
  exact (List.Perm.swap a _ _).trans (ih.cons a)
theorem yg4 {α:Type} (next:Nat→Nat):∀ (fuel k:Nat) (left:List α) (out:Array α),left.length≤fuel→(pickOrder.go next fuel k left out).toList.Perm (out.toList ++ left)
 | 0,k,left,out,h=>by
  have:left = []:=List.eq_nil_of_length_eq_zero (by omega)
  subst this
  unfold pickOrder.go;simp
 | fuel + 1,k,left,out,h=>by
  unfold pickOrder.go
  cases q:left[next k % left.length]? with
  | none=>
   have:left = []:=by
    cases left with
    | nil=>rfl
    | cons a l=>
     have hlt:next k % (a :: l).length < (a :: l).length:=Nat.mod_lt _ (by simp)
     rw [List.getElem?_eq_getElem hlt] at q;cases q
   subst this
   simp
  | some x=>
   have hlt:next k % left.length < left.length:=(List.getElem?_eq_some_iff.mp q).1
   refine (yg4 next fuel (k + 1) _ _ (by rw [List.length_eraseIdx_of_lt hlt];omega)).trans ?_
   rw [Array.toList_push,List.append_assoc]
   refine List.Perm.append_left _ ?_
   have hx:left[next k % left.length] = x:=(List.getElem?_eq_some_iff.mp q).2
   show (x :: left.eraseIdx (next k % left.length)).Perm left
   rw [← hx]
   exact zA7 _ _ hlt
theorem zQ2 {α:Type} (next:Nat→Nat) (xs:Array α):(pickOrder next xs).toList.Perm xs.toList:=by
 unfold pickOrder
 have:=yg4 next xs.size 0 xs.toList #[] (by simp)
 simpa using this
section
variable {prog:Program} {w:World} {A:Around} {E:Value→Shared→Prop} {s:Shared} {I a:Addr} {es:Array (Int×Value)} {ep:Nat} {t:SetTable}
theorem chooseOk {src:Source} {n:Nat} {Q:Nat→Shared→Prop} (hn:n≠0) (h:∀ i d',i < n→Q i { s with drawn:=d' }):wpAny (model prog w) A (choose src n) Q E s:=
 fun Γ p hΓ=>⟨hn,h _ _ (Nat.mod_lt _ (Nat.pos_of_ne_zero hn))⟩
theorem drawOk {α:Type}:∀ (n:Nat) (xs:List α) (s:Shared) (Q:List α→Shared→Prop),xs.length = n→(∀ l d',l.Perm xs→Q l { s with drawn:=d' })→wpAny (model prog w) A (drawOrder n xs) Q E s
 | 0,xs,s,Q,h,q=>by
  have:xs = []:=List.eq_nil_of_length_eq_zero h
  subst this
  unfold drawOrder
  exact wpAny_pure (q [] s.drawn (List.Perm.refl _))
 | n + 1,[],s,Q,h,q=>by simp at h
 | n + 1,x :: xs,s,Q,h,q=>by
  unfold drawOrder
  refine wpAny_bind (chooseOk (by simp) fun i d' hi=>?_)
  have e:(x :: xs)[i]? = some (x :: xs)[i]:=List.getElem?_eq_getElem hi
  rw [e]
  refine wpAny_bind (drawOk n _ _ _ (by rw [List.length_eraseIdx_of_lt hi];omega) fun l d'' hp=>?_)
  exact wpAny_pure (q _ d'' ((hp.cons _).trans (zA7 _ _ hi)))
theorem nxText (hb:w.params.followText "set-order" = true) (i:Nat) (s':Shared) (A':Around) (Q':Option (Value×Nat)→Shared→Prop) (E':Value→Shared→Prop) (hS:SetAt s'.heap a es ep t)
  (q:Q' ((((pickOrder (w.params.setOrder a ep) es).toList.map (·.2))[i]?).map fun x=>(x,0)) s'):wpAny (model prog w) A' (setNext a 0 i ep) Q' E' s':=by
 obtain ⟨⟨o,ho,_,hd⟩,hf⟩:=hS
 unfold setNext setsByText
 refine wpAny_bind (wpAny_setState_of ho hd hf ?_)
 refine wpAny_bind (wpAny_bind (wpAny_askSetting (wpAny_pure ?_)))
 show wpAny _ _ (if w.params.followText "set-order" = true then _ else _) _ _ _
 rw [if_pos hb,if_neg (by simp)]
 unfold setWalk setsByText
 refine wpAny_bind (wpAny_bind (wpAny_setState_of ho hd hf ?_))
 refine wpAny_bind (wpAny_bind (wpAny_askSetting (wpAny_pure ?_)))
 show wpAny _ _ (if w.params.followText "set-order" = true then _ else _) _ _ _
 rw [if_pos hb]
 refine wpAny_bind (wpAny_askSetting (wpAny_pure (wpAny_pure ?_)))
 have e:((pickOrder (w.params.setOrder a ep) es)[i]?).map (fun e=>(e.2,0)) = (((pickOrder (w.params.setOrder a ep) es).toList.map (·.2))[i]?).map fun x=>(x,0):=by
  rw [List.getElem?_map,Option.map_map,Array.getElem?_toList];rfl
 rw [← e] at q
 exact q
noncomputable def fstOf (t:SetTable) (i:Nat):Nat:=if i = 0 then 0 else t.place.toList.getD (i - 1) 0 + 1
theorem ym1 {L:Bool} (hT:TT L t) (i:Nat) (hi:i≤t.place.size):SetTable.below t.place (fstOf t i) = i:=by
 obtain ⟨b1,b2,b3⟩:=yb7 hT.2.2 (fstOf t i)
 generalize SetTable.below t.place (fstOf t i) = p at *
 unfold fstOf at b2 b3
 by_cases z:i = 0
 ·rw [if_pos z] at b2
  rcases Nat.eq_zero_or_pos p with y | y
  ·omega
  ·have:=b2 0 y;omega
 ·rw [if_neg z] at b2 b3
  rcases Nat.lt_trichotomy p i with y | y | y
  ·have:=b3 (i - 1) (by omega) (by omega);omega
  ·exact y
  ·have h1:=b2 i y
   have h2:=zK6 hT.2.2 (i:=i - 1) (k:=i) (by omega) (by have:=Array.length_toList (xs:=t.place);omega)
   omega
theorem nxPlace (hb:w.params.followText "set-order" = false) (hT:TT (ledOf w) t) (hnd:(!t.plain && decide (es.size > 1)) = false) (i:Nat) (s':Shared) (A':Around) (Q':Option (Value×Nat)→Shared→Prop) (E':Value→Shared→Prop) (hi:i≤es.size) (hS:SetAt s'.heap a es ep t)
  (q:Q' (((es.toList.map (·.2))[i]?).map fun x=>(x,fstOf t (i + 1))) s'):wpAny (model prog w) A' (setNext a (fstOf t i) i ep) Q' E' s':=by
 obtain ⟨⟨o,ho,_,hd⟩,hf⟩:=hS
 have hsz:t.place.size = es.size:=by
  unfold SetTable.fits at hf
  simp at hf;exact hf.1
 have hled:t.led = true:=by rw [hT.1];unfold ledOf;rw [hb];rfl
 unfold setNext setsByText
 refine wpAny_bind (wpAny_setState_of ho hd hf ?_)
 refine wpAny_bind (wpAny_bind (wpAny_askSetting (wpAny_pure ?_)))
 show wpAny _ _ (if w.params.followText "set-order" = true then _ else _) _ _ _
 rw [if_neg (by rw [hb];simp)]
 show wpAny _ _ (if (!t.plain && decide (es.size > 1)) = true then _ else _) _ _ _
 rw [if_neg (by rw [hnd];simp)]
 show wpAny _ _ ((if (!t.led && !es.isEmpty) = true then unsupported "set:maker-not-led" else pure ()) >>= _) _ _ _
 rw [if_neg (by rw [hled];simp)]
 refine wpAny_bind (wpAny_pure ?_)
 show wpAny _ _ (pure (match es[SetTable.below t.place (fstOf t i)]?,t.place[SetTable.below t.place (fstOf t i)]? with | some (_,x),some j=>some (x,j + 1) | _,_=>none)) _ _ _
 rw [ym1 hT i (by omega)]
 by_cases z:i < es.size
 ·have e1:es[i]? = some es[i]:=by simp [z]
  have e2:t.place[i]? = some (t.place.toList.getD i 0):=by
   have:i < t.place.size:=by omega
   simp [this]
  rw [e1,e2]
  have e3:((es.toList.map (·.2))[i]?).map (fun x=>(x,fstOf t (i + 1))) = some (es[i].2,t.place.toList.getD i 0 + 1):=by
   rw [List.getElem?_map,Array.getElem?_toList,e1]
   simp [fstOf]
  rw [e3] at q
  exact wpAny_pure q
 ·have e1:es[i]? = none:=by simp;omega
  rw [e1]
  have e3:((es.toList.map (·.2))[i]?).map (fun x=>(x,fstOf t (i + 1))) = none:=by
   rw [List.getElem?_map,Array.getElem?_toList,e1];rfl
  rw [e3] at q
  exact wpAny_pure q
end
open PySem PyProof.Rows
section
variable {prog:Program} {w:World} {A:Around} {E:Value→Shared→Prop} {s:Shared} {I a T:Addr} {es:Array (Int×Value)} {ep:Nat} {t:SetTable} {Q:Option Value→Shared→Prop}
noncomputable abbrev plObj (pl:List Nat):Obj:={ cls:=.type "tuple", dict:=none,data:=.seq (pl.map fun (i:Nat)=>rawInt i).toArray 0,slots:=#[] }
theorem pl_at {pl:List Nat} {i:Nat}:(pl.map fun (i:Nat)=>rawInt i).toArray[i]? = (pl[i]?).map fun (p:Nat)=>rawInt p:=by
 rw [List.getElem?_toArray,List.getElem?_map]
theorem ym9 {x:Value} {p i:Nat} (hS:SetAt s.heap a es ep t) (hx:(es.toList.map (·.2))[p]? = some x) {Q:Value→Shared→Prop} (q:Q x s):wpAny (model prog w) A (setNextDrawn a p ep) Q E s:=by
 obtain ⟨⟨o,ho,_,hd⟩,hf⟩:=hS
 unfold setNextDrawn
 refine wpAny_bind (wpAny_setState_of ho hd hf ?_)
 dsimp only
 rw [if_neg (by simp)]
 rw [List.getElem?_map,Array.getElem?_toList] at hx
 cases z:es[p]? with
 | none=>rw [z] at hx;cases hx
 | some y=>rw [z] at hx;cases hx;exact wpAny_pure q
theorem nextTup {pl:List Nat} {i p:Nat} {x:Value} (hit:s.heap.get? I = some (itObj (.ref T) i (.ref a) es.size ep)) (hT:s.heap.get? T = some (plObj pl)) (hS:SetAt s.heap a es ep t) (hp:pl[i]? = some p) (hx:(es.toList.map (·.2))[p]? = some x)
  (hQ:∀ h',h'.get? I = some (itObj (.ref T) (i + 1) (.ref a) es.size ep)→Heap.SameBut I s.heap h'→Q (some x) { s with heap:=h' }):wpAny (model prog w) A (pyNext (.ref I)) Q E s:=by
 obtain ⟨⟨o,ho,_,hd⟩,hf⟩:=id hS
 unfold pyNext
 refine wpAny_bind (wpAny_attempt (wpAny_callSpecial?_slot (name:=Str.ofString "__next__") (itTy hit) FS.slot_next (wpAny_call_entry FS.slot_next (itTy hit) FS.entry_next ?_ (FS.args_next _))))
 show wpAny _ _ (fieldsOf (.ref I) >>= _) _ _ s
 refine wpAny_bind (wpAny_fieldsOf hit rfl ?_)
 show wpAny _ _ (setEntries a >>= _) _ _ s
 refine wpAny_bind (wpAny_setEntries_of ho hd hf ?_)
 rw [if_neg (by simp)]
 show wpAny _ _ (seqItems? (.ref T) >>= _) _ _ s
 refine wpAny_bind (wpAny_seqItems hT rfl ?_)
 show wpAny _ _ (match (pl.map fun (i:Nat)=>rawInt i).toArray[(i:Int).toNat]? with | some (.int place _)=>_ | some _=>_ | none=>_) _ _ s
 rw [Int.toNat_natCast,pl_at,hp]
 show wpAny _ _ (setNextDrawn a (p:Int).toNat (ep:Int).toNat >>= _) _ _ s
 rw [Int.toNat_natCast,Int.toNat_natCast]
 refine wpAny_bind (ym9 (i:=i) hS hx (wpAny_bind (wpAny_setField_rec hit (by simp) fun h1 g1 b1=>?_)))
 exact wpAny_pure ⟨x,rfl,wpAny_pure (hQ h1 g1 b1)⟩
theorem endTup {pl:List Nat} {i:Nat} (hh:A.handled = none) (hit:s.heap.get? I = some (itObj (.ref T) i (.ref a) es.size ep)) (hT:s.heap.get? T = some (plObj pl)) (hS:SetAt s.heap a es ep t) (hp:pl[i]? = none)
  (hQ:∀ h',(∀ b o,b≠I→s.heap.get? b = some o→h'.get? b = some o)→Q none { s with heap:=h' }):wpAny (model prog w) A (pyNext (.ref I)) Q E s:=by
 obtain ⟨⟨o,ho,_,hd⟩,hf⟩:=id hS
 unfold pyNext
 refine wpAny_bind (wpAny_attempt (wpAny_callSpecial?_slot (name:=Str.ofString "__next__") (itTy hit) FS.slot_next (wpAny_call_entry FS.slot_next (itTy hit) FS.entry_next ?_ (FS.args_next _))))
 show wpAny _ _ (fieldsOf (.ref I) >>= _) _ _ s
 refine wpAny_bind (wpAny_fieldsOf hit rfl ?_)
 show wpAny _ _ (setEntries a >>= _) _ _ s
 refine wpAny_bind (wpAny_setEntries_of ho hd hf ?_)
 rw [if_neg (by simp)]
 show wpAny _ _ (seqItems? (.ref T) >>= _) _ _ s
 refine wpAny_bind (wpAny_seqItems hT rfl ?_)
 show wpAny _ _ (match (pl.map fun (i:Nat)=>rawInt i).toArray[(i:Int).toNat]? with | some (.int place _)=>_ | some _=>_ | none=>_) _ _ s
 rw [Int.toNat_natCast,pl_at,hp]
 refine wpAny_bind (wpAny_setField_rec hit (by simp) fun h0 g0 b0=>wpAny_bind (wpAny_setField_rec g0 (by simp) fun h1 g1 b1=>wpAny_bind ?_))
 simp only [newExc,newTuple];refine wpAny_bind (wpAny_newObj_type ?_ (by size_fits))
 refine wpAny_bind (m:=firstArgMember _ _) (wpAny_of_eq (a:=Value.none) (by first | rfl | (simp only [firstArgMember];rfl)) (wpAny_newObj_type ?_ (by size_fits)))
 simp only [raiseNew];refine wpAny_bind (wpAny_handled ?_)
 rw [show A.in1.handled = none from hh];refine wpAny_bind (wpAny_pure (wpAny_throw ?_))
 refine wpAny_bind (wpAny_isInstance (T := "StopIteration") (b:=true) ⟨_,Heap.get?_push_size _ rfl,rfl⟩ isSubtype_stop (wpAny_pure (hQ _ fun b o n e=>?_)))
 exact Heap.get?_push_of_some _ (Heap.get?_push_of_some _ (by rw [b1.2 b n,b0.2 b n];exact e))
theorem walkTup (hh:A.handled = none) (hne:a≠I) (hne2:T≠I) (pl:List Nat) (hp:pl.Perm (List.range es.size)) :
  Walks prog w A I [I,a,T] [I] es.size (fun i v=>((pl.filterMap fun p=>(es.toList.map (·.2))[p]?))[i]? = some v) (fun i h=>h.get? I = some (itObj (.ref T) i (.ref a) es.size ep)∧SetAt h a es ep t∧h.get? T = some (plObj pl)):=by
 have hl:pl.length = es.size:=by rw [hp.length_eq,List.length_range]
 have hin:∀ p∈pl,p < es.size:=fun p h=>by simpa using hp.mem_iff.mp h
 have ev:∀ i p,pl[i]? = some p→∃ x,(es.toList.map (·.2))[p]? = some x:=fun i p h=>by
  have:=hin p (List.mem_of_getElem? h)
  exact ⟨(es.toList.map (·.2))[p]'(by simpa using this),List.getElem?_eq_getElem _⟩
 have fm:∀ (l:List Nat),(∀ p∈l,p < es.size)→l.filterMap (fun p=>(es.toList.map (·.2))[p]?) = l.map fun p=>((es.toList.map (·.2)).getD p .none):=fun l=>by
  induction l with
  | nil=>intro _;rfl
  | cons p l ih=>
   intro h
   have h1:=h p List.mem_cons_self
   have e:(es.toList.map (·.2))[p]? = some ((es.toList.map (·.2)).getD p .none):=by
    have:p < (es.toList.map (·.2)).length:=by simpa using h1
    simp [h1]
   rw [List.filterMap_cons,e,List.map_cons,ih fun q hq=>h q (List.mem_cons_of_mem _ hq)]
 refine ⟨fun b hb=>by simp at hb;simp [hb],fun _ _ _ st hk=>⟨hk I (by simp) _ st.1,st.2.1.at fun o e=>hk a (by simp) o e,hk T (by simp) _ st.2.2⟩,fun i s Q E hi st hQ=>?_,fun s Q E st hQ=>?_,fun i s Q E st hQ=>?_⟩
 ·have e:pl[i]? = some pl[i]:=by simp [hl,hi]
  obtain ⟨x,hx⟩:=ev i _ e
  refine nextTup (x:=x) st.1 st.2.2 st.2.1 e hx fun h' g b=>?_
  refine hQ _ h' s.toks ?_ ⟨g,st.2.1.at fun o z=>by rw [b.2 a hne];exact z,by rw [b.2 T hne2];exact st.2.2⟩ fun b' o hb z=>by rw [b.2 b' (fun y=>hb (by simp [y]))];exact z
  show (pl.filterMap fun p=>(es.toList.map (·.2))[p]?)[i]? = some x
  rw [fm pl hin,List.getElem?_map,e]
  have:(es.toList.map (·.2)).getD pl[i] .none = x:=by rw [List.getD_eq_getElem?_getD,hx];rfl
  rw [← this];rfl
 ·exact endTup hh st.1 st.2.2 st.2.1 (by simp [hl]) fun h' k=>hQ h' s.toks fun b o hb z=>k b o (fun y=>hb (by simp [y])) z
 ·refine wpAny_pyIter_slot (itTy st.1) FS.slot_self (wpAny_call_entry FS.slot_self (itTy st.1) FS.entry_self ?_ (FS.args_self _))
  show wpAny _ _ (ret (.ref I)) _ _ s
  exact wpAny_pure ⟨_,rfl, "set_iterator", _,itTy st.1,FS.slot_next.lookup,hQ⟩
end
open PySem PyProof.Rows
section
variable {prog:Program} {w:World} {A:Around} {E:Value→Shared→Prop} {s:Shared} {a:Addr} {es:Array (Int×Value)} {ep:Nat} {t:SetTable}
theorem ym3 (l:List Value):∀ (ps:List Nat),(∀ p∈ps,p < l.length)→ps.filterMap (fun p=>l[p]?) = ps.map fun p=>l.getD p .none
 | [],_=>rfl
 | p :: ps,h=>by
  have h1:=h p List.mem_cons_self
  have e:l[p]? = some (l.getD p .none):=by simp [h1]
  rw [List.filterMap_cons,e,List.map_cons,ym3 l ps fun q hq=>h q (List.mem_cons_of_mem _ hq)]
noncomputable def Walker (prog:Program) (w:World) (vs:List Value) (h0:Heap) (a I:Addr) (h1:Heap):Prop:=
 ∃ (fp:List Addr) (St:Nat→Heap→Prop) (ord:List Value),ord.Perm vs∧(∀ A':Around,A'.handled = none→Walks prog w A' I fp [I] vs.length (fun i v=>ord[i]? = some v) St)∧St 0 h1∧(∀ b∈fp,b < h1.objs.size∧(b = a∨h0.objs.size≤b))∧I∈fp∧h0.objs.size≤I∧(∀ b o,h0.get? b = some o→h1.get? b = some o)∧∃ o,h1.get? I = some o∧o.cls = .type "set_iterator"
theorem iterSet (hS:SetAt s.heap a es ep t) (hT:TT (ledOf w) t) (hz:es.size < scanBound) {Q:Value→Shared→Prop} (h:∀ I h1 d',Walker prog w (es.toList.map (·.2)) s.heap a I h1→Q (.ref I) { s with heap:=h1,drawn:=d' }):wpAny (model prog w) A (pyIter (.ref a)) Q E s:=by
 obtain ⟨⟨o,ho,hx,hd⟩,hf⟩:=id hS
 have ty:s.TypeIs (.ref a) "set" := ⟨o,ho,hx.1⟩
 have hlt:a < s.heap.objs.size:=Heap.lt_size ho
 have hlen:(es.toList.map (·.2)).length = es.size:=by simp
 refine wpAny_pyIter_slot ty F.slot_set_iter (wpAny_call_entry F.slot_set_iter ty FS.entry_iter ?_ (F.args_set_iter_1 _))
 unfold Builtin.«frozenset.__iter__»
 refine wpAny_bind (m:=Builtin.Frozenset.slot0 "__iter__" _) (wpAny_of_eq (a:=a) rfl ?_)
 refine wpAny_bind (m:=Builtin.Frozenset.sizeOf a) ?_
 unfold Builtin.Frozenset.sizeOf
 refine wpAny_bind (wpAny_setEntries_of ho hd hf (wpAny_pure ?_))
 refine wpAny_bind (m:=setDrawn a) ?_
 unfold setDrawn setsByText
 refine wpAny_bind (wpAny_setState_of ho hd hf ?_)
 refine wpAny_bind (wpAny_bind (wpAny_askSetting (wpAny_pure (wpAny_pure ?_))))
 show wpAny _ _ (if (!w.params.followText "set-order" && (!t.plain && decide (es.size > 1))) = true then _ else _) _ _ _
 have fin:∀ (f:Value) (h1:Heap) (d':_),SetAt h1 a es ep t→(∀ I h2,h2.get? I = some (itObj f 0 (.ref a) es.size ep)→I = h1.objs.size→h2 = h1.push (itObj f 0 (.ref a) es.size ep)→Q (.ref I) { s with heap:=h2,drawn:=d' }) →
   wpAny (model prog w) A.in1 (do ret (← newFields "set_iterator" [f,rawInt 0,.ref a,rawInt es.size,rawInt (← setEpoch a)]):Sem PySem.Fin) (fun fin s'=>∃ v,fin = .done (.ret v)∧∃ T r,s'.TypeIs v T∧typeLookup (.type T) (Str.ofString "__next__") = pure (some r)∧Q v s') E { s with heap:=h1,drawn:=d' }:=fun f h1 d' hS1 q=>by
  obtain ⟨⟨o1,ho1,_,hd1⟩,hf1⟩:=hS1
  refine wpAny_bind (wpAny_setEpoch_of ho1 hd1 hf1 (wpAny_bind (wpAny_newObj_type ?_)))
  refine wpAny_pure ⟨_,rfl, "set_iterator", _,⟨_,Heap.get?_push_size _ rfl,rfl⟩,FS.slot_next.lookup,q _ _ (Heap.get?_push_size _ rfl) rfl rfl⟩
 by_cases hb:w.params.followText "set-order" = true
 ·rw [if_neg (by rw [hb];simp)]
  refine wpAny_bind (wpAny_pure (fin (rawInt 0) s.heap s.drawn hS fun I h2 g e1 e2=>?_))
  refine h I h2 s.drawn ⟨[I,a],fun i h=>h.get? I = some (itObj (.int ((0:Nat):Int) 0) i (.ref a) es.size ep)∧SetAt h a es ep t,(pickOrder (w.params.setOrder a ep) es).toList.map (·.2),(zQ2 _ _).map _,fun A' hh=>?_,⟨g,hS.at fun o z=>by rw [e2];exact Heap.get?_push_of_some _ z⟩,fun b hm=>?_,by simp,by rw [e1];exact Nat.le_refl _,fun b o z=>by rw [e2];exact Heap.get?_push_of_some _ z,_,g,rfl⟩
  ·rw [hlen]
   exact ye1 (t:=t) (ep:=ep) hh (by rw [e1];exact Nat.ne_of_lt hlt) _ (by rw [List.length_map,(zQ2 _ _).length_eq];simp) (fun _=>0) fun i s' A' Q' E' _ hS' q=>nxText hb i s' A' Q' E' hS' q
  ·rw [e2,Heap.size_push]
   rcases List.mem_cons.mp hm with rfl | hm
   ·rw [e1];exact ⟨Nat.lt_succ_self _,.inr (Nat.le_refl _)⟩
   ·obtain rfl:=List.mem_singleton.mp hm;exact ⟨Nat.lt_succ_of_lt hlt,.inl rfl⟩
 ·have hb':w.params.followText "set-order" = false:=by simpa using hb
  by_cases hn:(!t.plain && decide (es.size > 1)) = true
  ·rw [if_pos (by rw [hb',hn];rfl)]
   refine wpAny_bind (drawOk es.size (List.range es.size) s _ List.length_range fun pl d' hp=>wpAny_bind (wpAny_newObj_type ?_ ?_))
   ·have hS1:SetAt (s.heap.push (plObj pl)) a es ep t:=hS.at fun o z=>Heap.get?_push_of_some _ z
    refine fin (.ref s.heap.objs.size) (s.heap.push (plObj pl)) d' hS1 fun I h2 g e1 e2=>?_
    have gT:h2.get? s.heap.objs.size = some (plObj pl):=by rw [e2];exact Heap.get?_push_of_some _ (Heap.get?_push_size _ rfl)
    have sz:(s.heap.push (plObj pl)).objs.size = s.heap.objs.size + 1:=Heap.size_push _ _
    refine h I h2 d' ⟨[I,a,s.heap.objs.size],fun i h=>h.get? I = some (itObj (.ref s.heap.objs.size) i (.ref a) es.size ep)∧SetAt h a es ep t∧h.get? s.heap.objs.size = some (plObj pl),pl.filterMap (fun p=>(es.toList.map (·.2))[p]?),?_,fun A' hh=>?_,⟨g,hS1.at fun o z=>by rw [e2];exact Heap.get?_push_of_some _ z,gT⟩,fun b hm=>?_,by simp,by rw [e1,sz];exact Nat.le_succ _,fun b o z=>by rw [e2];exact Heap.get?_push_of_some _ (Heap.get?_push_of_some _ z),_,g,rfl⟩
    ·refine (hp.filterMap _).trans ?_
     have:(List.range es.size).filterMap (fun p=>(es.toList.map (·.2))[p]?) = es.toList.map (·.2):=by
      rw [← hlen]
      generalize es.toList.map (·.2) = l
      rw [ym3 l _ fun p hp=>List.mem_range.mp hp]
      refine List.ext_getElem (by simp) fun i h1 h2=>?_
      simp [h2]
     rw [this]
    ·rw [hlen]
     exact walkTup (t:=t) hh (by rw [e1,sz];exact Nat.ne_of_lt (Nat.lt_succ_of_lt hlt)) (by rw [e1,sz];exact Nat.ne_of_lt (Nat.lt_succ_self _)) pl hp
    ·rw [e2,Heap.size_push,sz]
     rcases List.mem_cons.mp hm with rfl | hm
     ·rw [e1,sz];exact ⟨Nat.lt_succ_self _,.inr (Nat.le_succ _)⟩
     ·rcases List.mem_cons.mp hm with rfl | hm
      ·exact ⟨Nat.lt_succ_of_lt (Nat.lt_succ_of_lt hlt),.inl rfl⟩
      ·obtain rfl:=List.mem_singleton.mp hm;exact ⟨Nat.lt_succ_of_lt (Nat.lt_succ_self _),.inr (Nat.le_refl _)⟩
   ·show (pl.map fun (i:Nat)=>rawInt i).toArray.size≤sizeLine
    rw [List.size_toArray,List.length_map,hp.length_eq,List.length_range]
    exact fits_of_scanBound hz
  ·have hn':(!t.plain && decide (es.size > 1)) = false:=by simpa using hn
   rw [if_neg (by rw [hn'];simp)]
   refine wpAny_bind (wpAny_pure (fin (rawInt 0) s.heap s.drawn hS fun I h2 g e1 e2=>?_))
   refine h I h2 s.drawn ⟨[I,a],fun i h=>h.get? I = some (itObj (.int ((fstOf t i:Nat):Int) 0) i (.ref a) es.size ep)∧SetAt h a es ep t,es.toList.map (·.2),List.Perm.refl _,fun A' hh=>?_,⟨g,hS.at fun o z=>by rw [e2];exact Heap.get?_push_of_some _ z⟩,fun b hm=>?_,by simp,by rw [e1];exact Nat.le_refl _,fun b o z=>by rw [e2];exact Heap.get?_push_of_some _ z,_,g,rfl⟩
   ·rw [hlen]
    exact ye1 (t:=t) (ep:=ep) hh (by rw [e1];exact Nat.ne_of_lt hlt) _ hlen (fstOf t) fun i s' A' Q' E' hi hS' q=>nxPlace hb' hT hn' i s' A' Q' E' hi hS' q
   ·rw [e2,Heap.size_push]
    rcases List.mem_cons.mp hm with rfl | hm
    ·rw [e1];exact ⟨Nat.lt_succ_self _,.inr (Nat.le_refl _)⟩
    ·obtain rfl:=List.mem_singleton.mp hm;exact ⟨Nat.lt_succ_of_lt hlt,.inl rfl⟩
end
open PySem PyProof.Rows
section
variable {prog:Program} {w:World} {A:Around} {E:Value→Shared→Prop} {s:Shared} {a:Addr} {es:Array (Int×Value)} {ep:Nat} {t:SetTable}
noncomputable abbrev emp:Obj:={ cls:=.type "list", data:=.seq ([]:List Value).toArray }
theorem hintSet (hS:SetAt s.heap a es ep t) {Q:Bool→Shared→Prop} (q:Q false s):wpAny (model prog w) A (Builtin.List.listLengthHint (.ref a)) Q E s:=by
 obtain ⟨⟨o,ho,hx,hd⟩,hf⟩:=hS
 have ty:s.TypeIs (.ref a) "set" := ⟨o,ho,hx.1⟩
 unfold Builtin.List.listLengthHint
 refine wpAny_bind (wpAny_specialOf ty F.slot_set_len.lookup ?_)
 have e1:splitId "set.__len__" = some ("set", "__len__"):=by kernel_rfl
 dsimp only
 rw [e1]
 dsimp only
 refine wpAny_bind (wpAny_isInstance ty sub_set_self ?_)
 rw [if_neg (by simp),if_pos (by kernel_rfl)]
 refine wpAny_bind (wpAny_typeOf ty ?_)
 exact wpAny_pure q
end
open PySem PyProof.Rows
section
variable {prog:Program} {w:World} {A:Around} {E:Value→Shared→Prop} {s:Shared} {a:Addr} {es:Array (Int×Value)} {ep:Nat} {t:SetTable}
theorem yd9 (hS:SetAt s.heap a es ep t) (hT:TT (ledOf w) t) (hz:es.size < scanBound) (hh:A.handled = none) {Q:List Value→Shared→Prop} (q:∀ (ord:List Value) h' d' tk,ord.Perm (es.toList.map (·.2))→(∀ b o,s.heap.get? b = some o→h'.get? b = some o)→s.heap.objs.size < h'.objs.size→Q ord { s with heap:=h',drawn:=d',toks:=tk }) :
  wpAny (model prog w) A (collect (.ref a)) Q E s:=by
 obtain ⟨⟨o,ho,hx,hd⟩,hf⟩:=id hS
 have hlt:a < s.heap.objs.size:=Heap.lt_size ho
 unfold collect
 refine wpAny_bind (wpAny_runValue (codeAny_builtin F.entry_proto_collect ?_));rw [Around.under_plainId F.plain_proto_collect _]
 show wpAny _ A.in1 (newList [] >>= fun l=>again (.builtin "list.__iadd__" ⟨[l,.ref a],[]⟩)) _ _ s
 refine wpAny_bind (wpAny_newObj_type (wpAny_pure ⟨plainId_quiet F.plain_list_iadd _,codeAny_builtin F.entry_list_iadd ?_⟩));rw [Around.under_plainId F.plain_list_iadd _]
 have hS1:SetAt (s.heap.push emp) a es ep t:=hS.at fun o z=>Heap.get?_push_of_some _ z
 show wpAny _ A.in1 (Builtin.List.listExtendWith (.ref s.heap.objs.size) (.ref a) (.ref s.heap.objs.size)) _ _ _
 unfold Builtin.List.listExtendWith
 refine wpAny_bind (wpAny_typeOf (T := "set") ⟨o,Heap.get?_push_of_some _ ho,hx.1⟩ ?_)
 have c1:Builtin.List.listSameRef (.ref s.heap.objs.size) (.ref a) = false:=by
  have:s.heap.objs.size≠a:=Nat.ne_of_gt hlt
  simp [Builtin.List.listSameRef,this]
 have c2:(Value.type "set" == Value.type "list") = false:=by decide
 have c3:(Value.type "set" == Value.type "tuple") = false:=by decide
 simp only [c1,c2,c3,Bool.or_false,Bool.false_eq_true,if_false]
 refine wpAny_bind (iterSet (s:={ s with heap:=s.heap.push emp }) hS1 hT hz fun I h1 d' W=>?_)
 obtain ⟨fp,St,ord,w1,w2,w3,w4,w5,w6,w7,_⟩:=W
 have sz1:(s.heap.push emp).objs.size = s.heap.objs.size + 1:=Heap.size_push _ _
 have hlen:(es.toList.map (·.2)).length = es.size:=by simp
 refine wpAny_bind (wpAny_holding (hintSet (s:={ s with heap:=h1,drawn:=d' }) (hS1.at fun o z=>w7 a o z) ?_))
 rw [if_pos (by kernel_rfl)]
 refine wpAny_bind (wpAny_rule (wpAny_bind ?_))
 show wpAny _ A.in1 (updateSeq s.heap.objs.size (·.push .none) >>= fun _=>updateSeq s.heap.objs.size (·.pop)) _ _ _
 have g1:h1.get? s.heap.objs.size = some emp:=w7 _ _ (Heap.get?_push_size _ rfl)
 refine wpAny_bind (wpAny_updateSeq g1 rfl ?_)
 have g2:=Heap.get?_update_self (Obj.mapSeq (·.push Value.none)) g1 rfl
 refine wpAny_updateSeq g2 rfl ?_
 have g3:=Heap.get?_update_self (Obj.mapSeq (·.pop)) g2 rfl
 have oth:∀ b o,b≠s.heap.objs.size→h1.get? b = some o→((h1.update s.heap.objs.size (Obj.mapSeq (·.push Value.none))).update s.heap.objs.size (Obj.mapSeq (·.pop))).get? b = some o:=fun b o hb e=>
  (Heap.get?_update_other _ _ (Ne.symm hb)).trans ((Heap.get?_update_other _ _ (Ne.symm hb)).trans e)
 have W':=(w2 A.in1 (by simp [hh])).toS
 have hSf:s.heap.objs.size∉fp:=fun hm=>by
  rcases (w4 _ hm).2 with e | e
  ·exact Nat.lt_irrefl _ (e ▸ hlt)
  ·have e':(s.heap.push emp).objs.size≤s.heap.objs.size:=e
   rw [sz1] at e';exact Nat.not_succ_le_self _ e'
 have st1:=W'.frame 0 { s with heap:=h1,drawn:=d' } ((h1.update s.heap.objs.size (Obj.mapSeq (·.push Value.none))).update s.heap.objs.size (Obj.mapSeq (·.pop))) s.toks w3 (by simp) fun b hb o e=>oth b o (fun h=>hSf (h ▸ hb)) e
 refine wpAny_pure ⟨plainId_quiet F.plain_extend_loop _,codeAny_extend_loopS (A:=A) W' (by rw [hlen];exact fits_of_scanBound hz) _ hSf _ _ 0 _ _ _ rfl (Nat.zero_le _) st1 g3 (ItemsOf.nil _) fun s' acc' c' hm hS' hacc=>?_⟩
 show wpAny _ A (load s.heap.objs.size >>= _) _ _ s'
 refine wpAny_bind (wpAny_load hS' (wpAny_pure ?_))
 have eq:s' = { s with heap:=s'.heap,drawn:=d',toks:=s'.toks }:=by
  obtain ⟨_,g,d,o,_⟩:=hm
  cases s';simp only at g d o;subst g;subst d;subst o;rfl
 rw [eq]
 have ea:acc'.toList = ord:=by
  refine List.ext_getElem? fun i=>?_
  by_cases hi:i < acc'.size
  ·have:=hacc.2 i (acc'[i]) (by simp [hi])
   rw [this];simp [hi]
  ·have:ord.length = acc'.size:=by rw [w1.length_eq,hacc.1]
   simp [hi,this]
 rw [ea]
 refine q ord _ _ _ w1 (fun b o hb=>hm.heap b o ?_ ?_) (Heap.lt_size hS')
 ·have hb':=Heap.lt_size hb
  intro h
  rcases List.mem_cons.mp h with e | h
  ·exact Nat.lt_irrefl _ (e ▸ hb')
  ·have e:=List.mem_singleton.mp h
   have e':(s.heap.push emp).objs.size≤I:=w6
   rw [sz1] at e';subst e;exact Nat.lt_irrefl _ (Nat.lt_of_lt_of_le hb' (Nat.le_of_succ_le e'))
 ·exact oth b o (Nat.ne_of_lt (Heap.lt_size hb)) (w7 b o (Heap.get?_push_of_some _ hb))
end
open PySem PyProof.Rows
noncomputable def insU (a:Int):List Int→List Int
 | []=>[a]
 | b :: r=>if a < b then a :: b :: r else if a = b then b :: r else b :: insU a r
noncomputable def setZ:List Int→List Int
 | []=>[]
 | a :: r=>insU a (setZ r)
theorem zN4 (a x:Int):∀ l,x∈insU a l↔x = a∨x∈l
 | []=>by simp [insU]
 | b :: r=>by
  unfold insU;split
  ·simp
  ·split
   ·rename_i h;subst h;simp
   ·rw [List.mem_cons,zN4 a x r,List.mem_cons]
    exact ⟨fun h=>h.elim (fun e=>.inr (.inl e)) fun h=>h.elim .inl fun h=>.inr (.inr h),fun h=>h.elim (fun e=>.inr (.inl e)) fun h=>h.elim .inl fun h=>.inr (.inr h)⟩
theorem zX4 (x:Int):∀ l,x∈setZ l↔x∈l
 | []=>by simp [setZ]
 | a :: r=>by rw [setZ,zN4,zX4 x r,List.mem_cons]
theorem yl5 (a:Int):∀ l:List Int,l.Pairwise (· < ·)→(insU a l).Pairwise (· < ·)
 | [],_=>by simp [insU]
 | b :: r,h=>by
  have h':=List.pairwise_cons.mp h
  unfold insU;split
  ·rename_i z
   refine List.pairwise_cons.mpr ⟨fun x hx=>?_,h⟩
   rcases List.mem_cons.mp hx with rfl | hx
   ·exact z
   ·exact Int.lt_trans z (h'.1 x hx)
  ·split
   ·exact h
   ·refine List.pairwise_cons.mpr ⟨fun x hx=>?_,yl5 a r h'.2⟩
    rcases (zN4 a x r).mp hx with rfl | hx
    ·omega
    ·exact h'.1 x hx
theorem yf5:∀ l:List Int,(setZ l).Pairwise (· < ·)
 | []=>.nil
 | a :: r=>yl5 a _ (yf5 r)
theorem ye4:∀ {l m:List Int},l.Pairwise (· < ·)→m.Pairwise (· < ·)→(∀ x,x∈l↔x∈m)→l = m
 | [],[],_,_,_=>rfl
 | [],b :: m,_,_,h=>by have:=(h b).mpr List.mem_cons_self;cases this
 | a :: l,[],_,_,h=>by have:=(h a).mp List.mem_cons_self;cases this
 | a :: l,b :: m,h1,h2,h=>by
  have g1:=List.pairwise_cons.mp h1
  have g2:=List.pairwise_cons.mp h2
  have e:a = b:=by
   rcases List.mem_cons.mp ((h a).mp List.mem_cons_self) with e | e
   ·exact e
   ·rcases List.mem_cons.mp ((h b).mpr List.mem_cons_self) with e' | e'
    ·exact e'.symm
    ·have:=g2.1 a e;have:=g1.1 b e';omega
  subst e
  refine congrArg _ (ye4 g1.2 g2.2 fun x=>⟨fun hx=>?_,fun hx=>?_⟩)
  ·rcases List.mem_cons.mp ((h x).mp (List.mem_cons_of_mem _ hx)) with e | e
   ·subst e;exact absurd (g1.1 x hx) (Int.lt_irrefl _)
   ·exact e
  ·rcases List.mem_cons.mp ((h x).mpr (List.mem_cons_of_mem _ hx)) with e | e
   ·subst e;exact absurd (g2.1 x hx) (Int.lt_irrefl _)
   ·exact e
theorem setZ_le:∀ l:List Int,(setZ l).length≤l.length
 | []=>Nat.le_refl _
 | a :: r=>by
  have:∀ l:List Int,(insU a l).length≤l.length + 1:=fun l=>by
   induction l with
   | nil=>simp [insU]
   | cons b r ih=>
    unfold insU;split
    ·simp
    ·split
     ·simp
     ·simp only [List.length_cons];omega
  have h1:=this (setZ r);have h2:=setZ_le r
  rw [setZ,List.length_cons];omega
theorem yg9:∀ {m l:List Int},m.Nodup→(∀ x,x∈m→x∈l)→l.length≤m.length→m.Perm l
 | [],l,_,_,h=>by rw [List.length_eq_zero_iff.mp (Nat.le_zero.mp h)]
 | a :: m,l,hn,hs,h=>by
  have h':=List.nodup_cons.mp hn
  have ha:=hs a List.mem_cons_self
  refine ((yg9 (l:=l.erase a) h'.2 (fun x hx=>?_) ?_).cons a).trans (List.perm_cons_erase ha).symm
  ·exact (List.mem_erase_of_ne (fun e:x = a=>h'.1 (by rw [← e];exact hx))).mpr (hs x (List.mem_cons_of_mem _ hx))
  ·rw [List.length_erase_of_mem ha];simp only [List.length_cons] at h;omega
theorem zz7 (val:Nat→Int):∀ n,(firstMet val n).Nodup
 | 0=>.nil
 | n + 1=>by
  rw [firstMet_succ];unfold step_dedup
  split
  ·exact zz7 val n
  ·rename_i h
   have h:val n∉firstMet val n:=fun q=>h (List.any_eq_true.mpr ⟨_,q,by simp⟩)
   first
    | exact List.nodup_append.mpr ⟨zz7 val n,by simp,fun x hx y hy=>by have:=List.mem_singleton.mp hy;subst this;exact fun e=>h (e ▸ hx)⟩
    | exact List.nodup_cons.mpr ⟨h,zz7 val n⟩
theorem fm_mem (ns:List Int) (x:Int):x∈fm ns ns.length↔x∈ns:=by
 have h:=firstMet_any (fun i=>ns.getD i 0) ns.length x
 have e:(List.range ns.length).map (fun i=>ns.getD i 0) = ns:=List.ext_getElem (by simp) fun i h1 h2=>by simp [h2]
 rw [e] at h
 have a:∀ l:List Int,l.any (· == x) = true↔x∈l:=fun l=>by simp
 rw [← a,h,a]
theorem zV7:∀ {vs:List Value},(∀ v∈vs,∃ k,Value.isInt k v = true)→∃ ns,IntsAre vs ns
 | [],_=>⟨[],.nil⟩
 | v :: vs,h=>by
  obtain ⟨k,hk⟩:=h v List.mem_cons_self
  obtain ⟨t,rfl⟩:=Value.isInt_shape hk
  obtain ⟨ns,hn⟩:=zV7 fun v hv=>h v (List.mem_cons_of_mem _ hv)
  exact ⟨k :: ns,.cons k t hn⟩
theorem ya2:∀ {vs:List Value} {ns:List Int},IntsAre vs ns→∀ x,x∈ns↔∃ v∈vs,Value.isInt x v = true
 | _,_,.nil,x=>by simp
 | _,_,.cons n t r,x=>by
  rw [List.mem_cons,ya2 r x]
  constructor
  ·rintro (rfl | ⟨v,hv,h⟩)
   ·exact ⟨_,List.mem_cons_self,by simp [Value.isInt]⟩
   ·exact ⟨v,List.mem_cons_of_mem _ hv,h⟩
  ·rintro ⟨v,hv,h⟩
   rcases List.mem_cons.mp hv with rfl | hv
   ·exact .inl (Value.isInt_inj _ _ _ h (by simp [Value.isInt]))
   ·exact .inr ⟨v,hv,h⟩
noncomputable def intOf:Value→Int
 | .int n _=>n
 | _=>0
theorem zN2:∀ {vs:List Value} {ns:List Int},IntsAre vs ns→ns = vs.map intOf
 | _,_,.nil=>rfl
 | _,_,.cons n t r=>by rw [List.map_cons,← zN2 r];rfl
theorem yl4 {vs us:List Value} {ns:List Int} (h:IntsAre vs ns) (p:us.Perm vs):∃ ms,IntsAre us ms∧ms.Perm ns:=by
 obtain ⟨ms,hm⟩:=zV7 (vs:=us) fun v hv=>by
  have hv':=p.mem_iff.mp hv
  clear p hv
  induction h with
  | nil=>cases hv'
  | cons n t r ih=>
   rcases List.mem_cons.mp hv' with rfl | hv'
   ·exact ⟨n,by simp [Value.isInt]⟩
   ·exact ih hv'
 refine ⟨ms,hm,?_⟩
 rw [zN2 hm,zN2 h];exact p.map _
section
variable {prog:Program} {w:World} {A:Around} {E:Value→Shared→Prop} {s:Shared} {a:Addr} {ns:List Int} {n:Nat}
theorem setVals {h:Heap} (hS:SetT (intKind prog w) (ledOf w) h a (fun k=>(fm ns ns.length).any (· == k)) (fm ns ns.length).length) :
  ∃ es ep t,SetAt h a es ep t∧TT (ledOf w) t∧es.size < scanBound∧∃ ms,IntsAre (es.toList.map (·.2)) ms∧ms.Perm (fm ns ns.length):=by
 obtain ⟨o,es,ep,t,ho,hx,hd,hel,hmem,hb,hf,hn,hT⟩:=hS
 refine ⟨es,ep,t,⟨⟨o,ho,hx,hd⟩,hf⟩,hT,hb,?_⟩
 obtain ⟨ms,hm⟩:=zV7 (vs:=es.toList.map (·.2)) fun v hv=>by
  obtain ⟨e,he,rfl⟩:=List.mem_map.mp hv
  obtain ⟨⟨k,hk,_⟩,_⟩:=hel e he
  exact ⟨k,hk⟩
 refine ⟨ms,hm,(yg9 (zz7 _ _) (fun x hx=>(ya2 hm x).mpr ?_) ?_).symm⟩
 ·obtain ⟨e,he,hk⟩:=(hmem x).mp (List.any_eq_true.mpr ⟨x,hx,by simp⟩)
  exact ⟨e.2,List.mem_map_of_mem he,hk⟩
 ·have:=hm.length;simp only [List.length_map,Array.length_toList] at this;rw [← this,hn];exact Nat.le_refl _
theorem sortSet (hh:A.handled = none) (hS:SetT (intKind prog w) (ledOf w) s.heap a (fun k=>(fm ns ns.length).any (· == k)) (fm ns ns.length).length) (h64:ns.length < 64) {Q:Value→Shared→Prop}
  (q:∀ h' d' tk b (out:List Value) e,h'.get? b = some (seqObj "list" out.toArray e)→IntsAre out (setZ ns)→s.heap.objs.size≤b→(∀ b o,s.heap.get? b = some o→h'.get? b = some o)→Q (.ref b) { s with heap:=h',drawn:=d',toks:=tk }) :
  wpAny (model prog w) A (call (.builtin "sorted") [.ref a]) Q E s:=by
 obtain ⟨es,ep,t,hA,hT,hb,ms,hm,hp⟩:=setVals hS
 refine Calls.call_function_entry kind_sorted plain_sorted entry_sorted (args_sorted1 _) ?_
 unfold Builtin.«sorted»
 refine wpAny_bind (m:=checkCount "sorted" 1 1 _) (wpAny_pure ?_)
 refine wpAny_bind (yd9 hA hT hb (by simp [hh]) fun ord h1 d' tk po hk hz=>?_)
 obtain ⟨ms',hm',hp'⟩:=yl4 hm po
 have hl:ord.length < 64:=by
  have e1:=hm'.length;have e2:=(hp'.trans hp).length_eq;have e3:=firstMet_length_le (fun i=>ns.getD i 0) ns.length
  have e2':ms'.length = (firstMet (fun i=>ns.getD i 0) ns.length).length:=e2
  omega
 refine wpAny_bind (wpAny_newList ?_ (fits_of_scanBound (by rw [po.length_eq,List.length_map,Array.length_toList];exact hb)))
 have hoL:(h1.push (seqObj "list" ord.toArray 0)).get? h1.objs.size = some (seqObj "list" ord.toArray 0):=Heap.get?_push_size _ rfl
 show wpAny _ _ _ _ _ { s with heap:=h1.push (seqObj "list" ord.toArray 0),drawn:=d',toks:=tk }
 refine wpAny_bind (wpAny_holding (wpAny_call_entry slot_list_sort ⟨_,hoL,rfl⟩ entry_list_sort (list_sort_tree (s:={ s with heap:=h1.push (seqObj "list" ord.toArray 0),drawn:=d',toks:=tk }) hoL hm' hl fun out ns' a1 a2 a3=>⟨_,rfl,?_⟩) (args_list_sort _)))
 obtain ⟨e,he⟩:=sortedHeap_at (out:=out) hoL
 have key:ns' = setZ ns:=by
  have nd:ns'.Nodup:=((a2.trans (hp'.trans hp)).nodup_iff).mpr (zz7 _ _)
  refine ye4 ?_ (yf5 ns) fun x=>?_
  ·exact List.Pairwise.imp₂ (fun a b h1 h2=>by omega) a3 nd
  ·rw [zX4,(a2.trans (hp'.trans hp)).mem_iff];exact fm_mem ns x
 subst key
 refine wpAny_pure ⟨_,rfl,q _ _ _ h1.objs.size out.toList e (by rw [Array.toArray_toList];exact he) a1 (Nat.le_of_lt hz) fun b o hb=>?_⟩
 have hb1:=hk b o hb
 have hlt:=Heap.lt_size hb1
 rw [sortedHeap_old (Nat.ne_of_lt hlt) (by rw [size_push'];exact Nat.lt_succ_of_lt hlt)]
 exact Heap.get?_push_of_some _ hb1
end
end STW
set_option Elab.async false
set_option linter.all false
set_option maxRecDepth 100000
namespace FD
open PySem PySem.Spec PyProof.Rows L2
variable [Tabs]
noncomputable def intsL:List D→Option (List Int)
 | []=>some []
 | .int i :: r=>(intsL r).map (i :: ·)
 | _ :: _=>none
omit [Tabs] in
theorem zN3:∀ {ds:List D} {ns:List Int},intsL ds = some ns→ds = ns.map D.int
 | [],ns,h=>by cases h;rfl
 | d :: r,ns,h=>by
  cases d with
  | int i=>
   simp only [intsL] at h
   cases q:intsL r with
   | none=>rw [q] at h;cases h
   | some m=>rw [q] at h;cases h;rw [List.map_cons,← zN3 q]
  | _=>cases h
omit [Tabs] in
theorem zw5 (ns:List Int):intsL (ns.map D.int) = some ns:=by
 induction ns with
 | nil=>rfl
 | cons n ns ih=>rw [List.map_cons,intsL,ih];rfl
omit [Tabs] in
theorem zW7:∀ {vs:List Value} {ns:List Int},IntsAre vs ns→Vals (ns.map V.int) vs
 | _,_,.nil=>.nil
 | _,_,.cons n t r=>.cons ⟨t,rfl⟩ (zW7 r)
noncomputable def setI:List D→Rs (List D)
 | [.lst ds]=>match intsL ds with
  | some ns=>if ns.length < 64 then .ok ((STW.setZ ns).map D.int) else .no
  | none=>.no
 | _=>.no
section
variable {X:Cx} {e:Expr} {pos:Pos} {fs:FA}
theorem yl3 {pins:List (Addr×Obj)} {σ:St} {H:Hp} {s:Shared} (d:Drawn) (I:Inv X pins σ H s):Inv X pins σ H { s with drawn:=d }:=
 ⟨I.ok,I.os,I.bare,I.base,I.loc,I.cell,I.free,I.freeC,I.pin,I.hok,I.len⟩
theorem zE3 {p p2 pos2:Pos} (hc:X.calm = true) (hl:Gl X "sorted") (hml:X.mg "sorted" = none) (hg:Gl X "set") (hm:X.mg "set" = none) (ha:PDA X [e] fs) (hs:starEach [e] X.env = [(false,eval e X.env)]:=by rfl)
  (he:starEach [.Call (.Name "set" p2) [e] [] pos2] X.env = (false,eval (.Call (.Name "set" p2) [e] [] pos2) X.env) :: starEach [] X.env:=by rfl) (hpl:(backTo pos (starEach [] X.env)).any (·.1) = false:=by rfl) :
  PDF X (.Call (.Name "sorted" p) [.Call (.Name "set" p2) [e] [] pos2] [] pos) (fun τ=>(fs τ).bind setI):=by
 rintro pins s σ H Q I ⟨F,τ,R,h⟩
 refine wpAny_Call_Name_kw (zx1 I hl hml PyProof.Rows.boot_sorted ?_)
 refine PyProof.Rows.callWith_builtin1 ?_ he hpl
 rw [he]
 show wpAny _ _ (spliced ((false,eval (.Call (.Name "set" p2) [e] [] pos2) X.env) :: backTo pos (starEach [] X.env))) _ _ s
 refine Calls.spliced_cons ?_
 have h:=h.bind
 generalize hG:(fun ds=>Ok X (setI ds) fun ds=>∀ (p:Addr) (vs:List V) (F' H':Hp),Ext F H F' H'→H' p = none→Reps X.K F' ds vs→Q (V.ref p) (upd H' p (HO.lst vs))) = G at h
 refine Call_ (zx1 I hg hm boot_set (PyProof.Rows.callWith_type1 (thn (ha pos2 pins s σ H (fun vs H1=>∃ ds F1,G ds∧Ext F H F1 H1∧RV X.K F1 τ σ H1∧Reps X.K F1 ds vs) I (tAs.of R h fun ds vs F1 H1 g x R1 r=>⟨ds,F1,g,x,R1,r⟩)) fun us s1 ⟨vs,H1,I1,r1,ds,F1,g,x,R1,r⟩=>?_) hs rfl))
 subst hG
 obtain ⟨ns,e1,h64,gq⟩:∃ ns:List Int,ds = [.lst (ns.map D.int)]∧ns.length < 64∧∀ (p:Addr) (vs:List V) (F' H':Hp),Ext F H F' H'→H' p = none→Reps X.K F' ((STW.setZ ns).map D.int) vs→Q (V.ref p) (upd H' p (HO.lst vs)):=by
  unfold setI at g
  split at g
  ·rename_i ds'
   cases q:intsL ds' with
   | none=>rw [q] at g;exact g.elim
   | some ns=>
    rw [q] at g
    obtain ⟨z,g⟩:=zl6 g
    exact ⟨ns,by rw [zN3 q],z,g⟩
  ·exact g.elim
 subst e1
 obtain ⟨v,rfl,r2⟩:=r.one
 simp only [Rep] at r2
 obtain ⟨l,ws,rfl,e1,t⟩:=r2
 cases r1 with
 | cons ra rr=>
  cases rr;cases ra
  obtain ⟨its,rv,⟨o,nn,eo,hcl,hd0,hd⟩,hz⟩:=I1.list (SqL.of (K:=X.K) (R1.fh _ _ e1))
  have hi:IntsAre its ns:=zD2 t rv
  have hlen:=hi.length
  refine STW.callSet (I1.ok.hd hc) ⟨o,eo,hcl,nn,hd⟩ (by simpa using hi) (by rw [List.size_toArray,hlen];exact Nat.lt_of_le_of_lt (Nat.succ_le_of_lt h64) (by decide)) fun h' tk hS hk=>?_
  have hlen':its.toArray.size = ns.length:=by simpa using hlen
  rw [hlen'] at hS
  refine Calls.spliced_nil ?_
  refine STW.sortSet (s:={ s1 with heap:=h',toks:=tk }) (I1.ok.hd hc) hS h64 fun h2 d2 tk2 b out ep hb ho hsz hk2=>?_
  have kk:∀ c u,s1.heap.get? c = some u→h2.get? c = some u:=fun c u q=>hk2 c u (hk c u (Heap.lt_size q) q)
  have hp:s1.heap.objs.size≤b:=by
   obtain ⟨o2,_,_,_,ho2,_⟩:=hS
   exact Nat.le_trans (Nat.le_of_lt (Heap.lt_size ho2)) hsz
  have I2:=yl3 d2 I1
  have nH:H1 b = none:=I1.hok.fresh hp
  have ll:((STW.setZ ns).map V.int).length≤sizeLine:=by
   rw [List.length_map]
   exact Nat.le_of_lt (zm8 (by have:=STW.setZ_le ns;omega))
  exact ⟨.ref b,_,I2.laid (t':=tk2) (o:=.lst ((STW.setZ ns).map V.int)) kk hp ⟨ll,out,ep,zW7 ho,hb⟩,rfl,gq b _ F1 H1 x nH (Reps.ints _)⟩
end
noncomputable def sumD:List D→Rs D
 | [.lst ds]=>match intsL ds with
  | some ns=>.ok (.int ns.sum)
  | none=>.no
 | _=>.no
section
variable {X:Cx}
theorem cd_sum (hc:X.calm = true):CallD X (.builtin "sum") sumD:=⟨fun vs H Q=>∃ (F:Hp) (l:Addr) (ws:List V) (ns:List Int),vs = [.ref l]∧H l = some (.lst ws)∧Reps X.K F (ns.map D.int) ws∧Q (.int ns.sum) H,fun pins s σ H vs us Q I r z_=>by
  obtain ⟨F,l,ws,ns,e1,hl,rs,q⟩:=z_
  subst e1
  obtain ⟨u,rfl,r1⟩:=vals1 r
  cases r1
  obtain ⟨its,rv,⟨o,nn,eo,hcl,hd0,hd⟩,hz⟩:=I.list (SqL.of (K:=X.K) hl)
  have hi:IntsAre its ns:=zD2 rs rv
  obtain ⟨xs,ex⟩:=hi.allInts.items
  refine sum_intListG (xs:=xs) (I.ok.hd hc) ⟨o,eo,hcl,nn,by rw [hd,ex]⟩ fun h' tk t' hk=>?_
  have en:ns.sum = preSum (numAt xs) xs.size:=by
   rw [preSum_eq,List.take_of_length_le (by simp),← nums_intItems,← ex,show its.toArray.toList = its from rfl,hi.numsOf]
  rw [← en]
  exact ⟨.int _,H,I.kept hk,⟨_,rfl⟩,q⟩,fun F H vs ds Q fh r h=>by
  unfold sumD at h
  split at h
  ·rename_i ds'
   cases q:intsL ds' with
   | none=>rw [q] at h;exact h.elim
   | some ns=>
    rw [q] at h
    obtain ⟨v,rfl,r1⟩:=r.one
    simp only [Rep] at r1
    obtain ⟨l,ws,rfl,e1,t⟩:=r1
    rw [zN3 q] at t
    exact ⟨F,l,ws,ns,rfl,fh _ _ e1,t,h _ F H (Ext.refl fh) (by simp only [Rep])⟩
  ·exact h.elim⟩
end
section
variable {τ:DS} {fa fb fc fe fi:FE} {fs:FA} {op:D→D→Rs D} {d x y:D} {i j k:Int} {n m:Nat}
noncomputable def getV:Option (Option Sl)→Rs D
 | some (some (.val d))=>.ok d
 | _=>.no
noncomputable def getO:Option (Option Sl)→Rs (List D)
 | some (some (.own d))=>.ok d
 | _=>.no
@[simp] theorem zb2:getV (some (some (.val d))) = .ok d:=rfl
@[simp] theorem zc5 {ds:List D}:getO (some (some (.own ds))) = .ok ds:=rfl
theorem zb9:eVar n τ = getV τ[n]?:=rfl
theorem zc8:ownAt τ n = getO τ[n]?:=rfl
theorem eC_ap:eC d τ = .ok d:=rfl
theorem zf4:eOp op fa fb τ = (fa τ).bind fun x=>(fb τ).bind fun y=>op x y:=rfl
theorem zb5:aNil τ = .ok []:=rfl
theorem za9:aCons fa fs τ = (fa τ).bind fun x=>(fs τ).bind fun r=>.ok (x :: r):=rfl
theorem zW2:eLst fs τ = (fs τ).bind fun ds=>if ds.length≤sizeLine then .ok (.lst ds) else .no:=rfl
theorem ym8:eTup fs τ = (fs τ).bind fun ds=>if ds.length≤sizeLine then .ok (.tup ds) else .no:=rfl
theorem zb6 {g:List D→Rs D}:eCall g fs τ = (fs τ).bind fun ds=>noEx (g ds):=rfl
theorem zd4 {g:List D→Rs D}:eBlt g fs τ = (fs τ).bind g:=rfl
theorem zi3 {g:FT}:eIf g fa fb τ = (g τ).bind fun b=>if b = true then fa τ else fb τ:=rfl
theorem zf0:eAnd fa fb τ = (fa τ).bind fun x=>(truD x).bind fun b=>if b = true then fb τ else .ok x:=rfl
theorem zh6:eOr fa fb τ = (fa τ).bind fun x=>(truD x).bind fun b=>if b = true then .ok x else fb τ:=rfl
theorem zg2:eNot fa τ = (fa τ).bind fun x=>(truD x).bind fun b=>.ok (.bl (!b)):=rfl
noncomputable def boolOf:D→Rs Bool
 | .bl b=>.ok b
 | _=>.no
@[simp] theorem zb7 {b:Bool}:boolOf (.bl b) = .ok b:=rfl
theorem tB_ap:FD.tB fe τ = (fe τ).bind boolOf:=rfl
theorem ze3:tTru fe τ = (fe τ).bind truD:=rfl
theorem ze9 {f g:FT}:tAndD f g τ = (f τ).bind fun b=>if b = true then g τ else .ok false:=rfl
theorem zi0 {f g:FT}:tOrD f g τ = (f τ).bind fun b=>if b = true then .ok true else g τ:=rfl
theorem zf5 {f:FT}:tNotD f τ = (f τ).bind fun b=>.ok (!b):=rfl
theorem zf7 {T:String} {g:D→List D→Rs D}:eMt0 T g fa τ = (fa τ).bind fun d=>if isTy T d = true then g d [] else .no:=rfl
theorem zi2 {T:String} {g:D→List D→Rs D}:eMt T g fa fs τ = (fa τ).bind fun d=>if isTy T d = true then (fs τ).bind fun ds=>g d ds else .no:=rfl
theorem zi1 {fl fh:FO}:eSl fe fl fh τ = (fe τ).bind fun d=>(fl τ).bind fun l=>(fh τ).bind fun u=>slD d l u:=rfl
theorem zd9:oNone τ = .ok none:=rfl
noncomputable def yf3:D→Rs (Option Int)
 | .int i=>.ok (some i)
 | _=>.no
@[simp] theorem zb1:yf3 (.int i) = .ok (some i):=rfl
theorem zd1:oSome fe τ = (fe τ).bind yf3:=rfl
noncomputable def Fl.thn (r:Fl) (g:FS):Fl:=match r with
 | .nx τ=>g τ
 | r=>r
@[simp] theorem zf9 {g:FS}:(Fl.nx τ).thn g = g τ:=rfl
@[simp] theorem zi5 {g:FS}:(Fl.rt d).thn g = .rt d:=rfl
theorem zc6 {f g:FS}:sSeq f g τ = (f τ).thn g:=rfl
theorem zd6:sSet n fe τ = Fl.of (fe τ) fun d=>.nx (τ.set n (some (.val d))):=rfl
theorem zc7:sSetO n fs τ = Fl.of (fs τ) fun ds=>.nx (τ.set n (some (.own ds))):=rfl
theorem zh0 {g:FT} {f h:FS}:sIf g f h τ = Fl.of (g τ) fun b=>if b = true then f τ else h τ:=rfl
theorem zc1:sRet fe τ = Fl.of (fe τ) fun d=>.rt d:=rfl
theorem zd0:sRetO n τ = Fl.of (ownAt τ n) fun ds=>.rt (.lst ds):=rfl
theorem zc4:sNext τ = .nx τ:=rfl
theorem ze5 {set:FG} {body:FS}:sFor fs set body τ = Fl.of (fs τ) fun ds=>loopD set body ds τ:=rfl
@[simp] theorem zb8:flRes (.rt d) = .ok d:=rfl
@[simp] theorem zd7:noEx (.ok d) = .ok d:=rfl
@[simp] theorem zd3:addD (.int i) (.int j) = .ok (.int (i + j)):=rfl
theorem yo7 {a b:Str} (h:a.length + b.length≤sizeLine):addD (.str a) (.str b) = .ok (.str (a ++ b)):=if_pos h
@[simp] theorem zg5:subD (.int i) (.int j) = .ok (.int (i - j)):=rfl
theorem zx0 (h:(-(18446744073709551616) < i∧i < 18446744073709551616)∨(-(18446744073709551616) < j∧j < 18446744073709551616)):mulD (.int i) (.int j) = .ok (.int (i * j)):=if_pos h
theorem zR4 (h:0 < j):modD (.int i) (.int j) = .ok (.int (i % j)):=by
 show (if decide (0 < j) = true then _ else _) = _
 rw [if_pos (by simpa using h)]
theorem zN8 (h:0 < j∧j < 1073741824):fdivD (.int i) (.int j) = .ok (.int (i / j)):=by
 show (if decide (0 < j∧j < 1073741824) = true then _ else _) = _
 rw [if_pos (by simpa using h)]
@[simp] theorem ltI_i:ltI (.int i) (.int j) = .ok (.bl (decide (i < j))):=rfl
@[simp] theorem leD_i:leD (.int i) (.int j) = .ok (.bl (decide (i≤j))):=rfl
@[simp] theorem gtD_i:gtD (.int i) (.int j) = .ok (.bl (decide (j < i))):=rfl
@[simp] theorem geD_i:geD (.int i) (.int j) = .ok (.bl (decide (j≤i))):=rfl
@[simp] theorem eqD_i:eqD (.int i) (.int j) = .ok (.bl (i == j)):=rfl
@[simp] theorem eqD_s {a b:Str}:eqD (.str a) (.str b) = .ok (.bl (a == b)):=rfl
@[simp] theorem neD_i:neD (.int i) (.int j) = .ok (.bl (!(i == j))):=rfl
@[simp] theorem neD_s {a b:Str}:neD (.str a) (.str b) = .ok (.bl (!(a == b))):=rfl
@[simp] theorem inD_s {a b:Str}:inD (.str a) (.str b) = .ok (.bl (strIn a b)):=rfl
theorem zp5 (c:Nat) (x:Str):strIn ⟨#[c]⟩ x = decide (c∈x.cps.toList):=StrLaws.found_one x c
@[simp] theorem lenD_scr {ns:List Int}:lenD [.scr ns] = .ok (.int ns.length):=rfl
@[simp] theorem zd2 {ds:List D}:lenD [.lst ds] = .ok (.int ds.length):=rfl
theorem zZ5 {a:Str} (h:a.length≤sizeLine):lenD [.str a] = .ok (.int a.length):=if_pos h
theorem ixD_scr {ns:List Int} {a:Int} (h:atI ns k = some a):ixD (.scr ns) (.int k) = .ok (.int a):=by
 show (match atI ns k with | some d=>Rs.ok (D.int d) | none=>.no) = _
 rw [h]
theorem zV6 {ds:List D} {a:D} (h:atI ds k = some a):ixD (.lst ds) (.int k) = .ok a:=by
 show (match atI ds k with | some d=>Rs.ok d | none=>.no) = _
 rw [h]
theorem zF6 {a:Str} {c:Nat} (h:atI a.cps.toList k = some c) (hz:a.length≤sizeLine):ixD (.str a) (.int k) = .ok (signD c):=by
 show (match atI a.cps.toList k with | some c=>if a.length≤sizeLine then Rs.ok (D.str ⟨#[c]⟩) else .no | none=>.no) = _
 rw [h]
 exact if_pos hz
theorem zJ7 {α:Type} {xs:List α} {a:α} (h0:0≤k) (h:xs[k.toNat]? = some a):atI xs k = some a:=by
 have:=yo4 (j:=k.toNat) h
 rwa [Int.toNat_of_nonneg h0] at this
@[simp] theorem ze1 {b:Bool}:truD (.bl b) = .ok b:=rfl
theorem truD_str {a:Str} (h:a.length≤sizeLine):truD (.str a) = .ok ((a.length:Int) != 0):=if_pos h
theorem zg6 {b:FS} {ds:List D}:runF n b ds = flRes (b (zg9 n ds)):=rfl
end
theorem zJ0 (l:List PyData):PyData.eqvAll l [] = l.isEmpty:=by cases l <;> simp [PyData.eqvAll]
theorem okD_scr (ns:List Int):okD (.scr ns) = true:=by
 have c:∀ l:List Int,PyData.canLayAll0 (l.map PyData.int) = true:=fun l=>by
  induction l with
  | nil=>rfl
  | cons a r ih=>simp [PyData.canLayAll0,PyData.canLay0,ih]
 have d:∀ l:List Int,PyData.depthAll (l.map PyData.int) = 0:=fun l=>by
  induction l with
  | nil=>rfl
  | cons a r ih=>simp [PyData.depthAll,PyData.depth,ih]
 simp [okD,zp7,toPy,PyData.canLay0,PyData.depth,c,d]
theorem zW1 (ns:List Int):eqD (.scr ns) (.lst []) = .ok (.bl ns.isEmpty):=by
 have o2:okD (.lst []) = true:=by decide
 have:eqvD (.scr ns) (.lst []) = ns.isEmpty:=by
  simp only [eqvD,toPy,toPys,PyData.eqv,zJ0]
  cases ns <;> rfl
 simp only [eqD,okD_scr,o2,this,and_self,if_true]
end FD
set_option Elab.async false
set_option linter.all false
set_option maxRecDepth 100000
namespace Law
open PySem PySem.Spec PyProof.Rows L2 FD
instance tabs:FD.Tabs:=⟨[(94,71,28,("in_order" : Str) ++ ".<locals>." ++ "<lambda>")],fun c f=>false⟩
noncomputable def zG7:FS:=(sSeq (sIf (tB (eOp eqD (eVar 0) (eLst aNil))) (sRet (eOp mulD (eC (.int 7)) (eVar 1))) sNext)
  (sRet (eOp addD (eOp ixD (eVar 0) (eOp modD (eVar 1) (eBlt lenD (aCons (eVar 0) aNil)))) (eOp mulD (eC (.int 6553)) (eOp fdivD (eVar 1) (eBlt lenD (aCons (eVar 0) aNil)))))))
noncomputable def zq7 (ds:List D):Rs D:=runF 2 zG7 ds
noncomputable def zC3:FS:=(sSeq (sSet 3 (eOp modD (eOp addD (eOp mulD (eOp modD (eCall zq7 (aCons (eVar 0) (aCons (eVar 1) aNil))) (eC (.int 2147483563))) (eC (.int 69069))) (eOp mulD (eC (.int 104723)) (eOp addD (eVar 1) (eC (.int 1))))) (eC (.int 2147483563))))
  (sSeq (sSet 3 (eOp modD (eOp addD (eOp mulD (eVar 3) (eVar 3)) (eOp fdivD (eVar 3) (eC (.int 3)))) (eC (.int 2147483399))))
  (sRet (eOp modD (eOp fdivD (eOp modD (eOp addD (eOp mulD (eVar 3) (eVar 3)) (eOp fdivD (eVar 3) (eC (.int 7)))) (eC (.int 2147483647))) (eC (.int 11))) (eVar 2)))))
noncomputable def za8 (ds:List D):Rs D:=runF 4 zC3 ds
noncomputable def zG5:FS:=(sSeq (sSet 2 (eC (.str "")))
  (sSeq (sFor (iRg1 (aCons (eOp addD (eC (.int 1)) (eCall za8 (aCons (eVar 0) (aCons (eVar 1) (aCons (eC (.int 10)) aNil))))) aNil)) (gNm 3) (sSet 2 (eOp addD (eVar 2) (eOp ixD (eC (.str "abcabABCab1_-./xyz")) (eCall za8 (aCons (eVar 0) (aCons (eOp addD (eOp addD (eVar 1) (eC (.int 1))) (eVar 3)) (aCons (eC (.int 18)) aNil))))))))
  (sRet (eVar 2))))
noncomputable def zo2 (ds:List D):Rs D:=runF 4 zG5 ds
noncomputable def zv8:FS:=(sSeq (sSetO 3 (eComp 1 [0,1] (iRg1 (aCons (eCall za8 (aCons (eVar 0) (aCons (eVar 1) (aCons (eOp addD (eVar 2) (eC (.int 1))) aNil)))) aNil)) (gNm 0) (fun _=>.ok true) (eCall zo2 (aCons (eVar 1) (aCons (eOp addD (eOp addD (eVar 2) (eC (.int 1))) (eOp mulD (eC (.int 12)) (eVar 0))) aNil)))))
  (sSeq (sIf (tAndD (tB (eOp gtD (eLenO 3) (eC (.int 1)))) (tB (eOp eqD (eCall za8 (aCons (eVar 0) (aCons (eOp addD (eVar 1) (eC (.int 12))) (aCons (eC (.int 5)) aNil)))) (eC (.int 0))))) (sPut 3 (eC (.int 0)) (eIxO 3 (eNeg (eC (.int 1))))) sNext)
  (sRetO 3)))
noncomputable def zo1 (ds:List D):Rs D:=runF 4 zv8 ds
noncomputable def zG6:FS:=(sRet (eOp inD (eVar 0) (eC (.str "_-./"))))
noncomputable def zo3 (ds:List D):Rs D:=runF 1 zG6 ds
noncomputable def zC1:FS:=(sSeq (sSet 4 (eC (.str "")))
  (sSeq (sSet 5 (eC (.int 0)))
  (sSeq (sFor (iRg1 (aCons (eCall za8 (aCons (eVar 0) (aCons (eVar 1) (aCons (eOp addD (eVar 3) (eC (.int 1))) aNil)))) aNil)) (gNm 6) (sSeq (sSet 5 (eBlt min2D (aCons (eOp subD (eBlt lenD (aCons (eVar 2) aNil)) (eC (.int 1))) (aCons (eOp addD (eVar 5) (eCall za8 (aCons (eVar 0) (aCons (eOp addD (eOp addD (eVar 1) (eC (.int 1))) (eOp mulD (eC (.int 3)) (eVar 6))) (aCons (eC (.int 3)) aNil))))) aNil))))
  (sSeq (sSet 7 (eMt0 "str" loD (eOr (eSl (eVar 2) (oSome (eVar 5)) (oSome (eOp addD (eVar 5) (eC (.int 1))))) (eC (.str "a")))))
  (sSeq (sSet 5 (eOp addD (eVar 5) (eC (.int 1))))
  (sSeq (sIf (tB (eOp eqD (eCall za8 (aCons (eVar 0) (aCons (eOp addD (eOp addD (eVar 1) (eC (.int 2))) (eOp mulD (eC (.int 3)) (eVar 6))) (aCons (eC (.int 5)) aNil)))) (eC (.int 0)))) (sSet 7 (eOp ixD (eC (.str "abAB1c")) (eCall za8 (aCons (eVar 0) (aCons (eOp addD (eOp addD (eVar 1) (eC (.int 3))) (eOp mulD (eC (.int 3)) (eVar 6))) (aCons (eC (.int 6)) aNil)))))) sNext)
  (sIf (tNotD (tTru (eCall zo3 (aCons (eVar 7) aNil)))) (sSet 4 (eOp addD (eVar 4) (eVar 7))) sNext))))))
  (sRet (eVar 4)))))
noncomputable def zl7 (ds:List D):Rs D:=runF 8 zC1 ds
noncomputable def zv7:FS:=(sSeq (sSetO 3 (fun τ=>(aNil τ).bind fun ds=>if ds.length≤sizeLine then .ok ds else .no))
  (sSeq (sSet 4 (eOp mulSD (eC (.str " ")) (eCall za8 (aCons (eVar 0) (aCons (eVar 1) (aCons (eC (.int 2)) aNil))))))
  (sSeq (sFor (iRg1 (aCons (eCall za8 (aCons (eVar 0) (aCons (eOp addD (eVar 1) (eC (.int 1))) (aCons (eC (.int 4)) aNil)))) aNil)) (gNm 5) (sSeq (sSet 6 (eOp ixD (eOp addD (eVar 2) (eLst (aCons (eC (.str "abc")) aNil))) (eCall za8 (aCons (eVar 0) (aCons (eOp addD (eOp addD (eVar 1) (eC (.int 2))) (eVar 5)) (aCons (eOp addD (eBlt lenD (aCons (eVar 2) aNil)) (eC (.int 1))) aNil))))))
  (sSeq (sSet 7 (eCall zl7 (aCons (eVar 0) (aCons (eOp addD (eOp addD (eVar 1) (eC (.int 10))) (eOp mulD (eC (.int 12)) (eVar 5))) (aCons (eVar 6) (aCons (eC (.int 3)) aNil))))))
  (sSeq (sIf (tB (eOp neD (eVar 7) (eC (.str "")))) (sApp 3 (eVar 7)) sNext)
  (sSet 4 (eOp addD (eOp addD (eVar 4) (eVar 7)) (eOp mulSD (eC (.str " ")) (eOp addD (eC (.int 1)) (eCall za8 (aCons (eVar 0) (aCons (eOp addD (eOp addD (eVar 1) (eC (.int 6))) (eVar 5)) (aCons (eC (.int 2)) aNil))))))))))))
  (fun τ=>sRet (eTup (aCons (eVar 3) (aCons (eVar 4) aNil))) (frzT τ)))))
noncomputable def zo0 (ds:List D):Rs D:=runF 8 zv7 ds
noncomputable def zu4:FS:=(sSeq (sSet 2 (eBlt zP4 (aCons (fun τ=>((eComp 2 [0] (iAny (eVar 1)) (gPr 0 1) (fun _=>.ok true) (eTup (aCons (eOp subD (eC (.int 0)) (eVar 0)) (aCons (eBlt lenD (aCons (eOp ixD (eVar 2) (eVar 1)) aNil)) (aCons (eVar 1) aNil))))) τ).bind fun ds=>.ok (.lst ds)) aNil)))
  (sRet (fun τ=>((eComp 3 [] (iAny (eVar 2)) (gTr 0 1 2) (fun _=>.ok true) (eTup (aCons (eOp subD (eC (.int 0)) (eVar 0)) (aCons (eVar 2) aNil)))) τ).bind fun ds=>.ok (.lst ds))))
noncomputable def zk8 (ds:List D):Rs D:=runF 3 zu4 ds
noncomputable def yo2:FS:=(sRet (eOr (eOp eqD (eVar 0) (eVar 1)) (eAnd (eOp inD (eVar 0) (eC (.str "abcdefghijklmnopqrstuvwxyz"))) (eOp eqD (eMt0 "str" upD (eVar 0)) (eVar 1)))))
noncomputable def zq1 (ds:List D):Rs D:=runF 2 yo2 ds
noncomputable def zt9:FS:=(sSeq (sSetO 2 (fun τ=>(aNil τ).bind fun ds=>if ds.length≤sizeLine then .ok ds else .no))
  (sSeq (sFor (iRg1 (aCons (eBlt lenD (aCons (eVar 1) aNil)) aNil)) (gNm 3) (sIf (tAndD (tB (eOp ltI (eLenO 2) (eBlt lenD (aCons (eVar 0) aNil)))) (tTru (eCall zq1 (aCons (eOp ixD (eVar 0) (eLenO 2)) (aCons (eOp ixD (eVar 1) (eVar 3)) aNil))))) (sApp 2 (eVar 3)) sNext))
  (sRetO 2)))
noncomputable def zk3 (ds:List D):Rs D:=runF 4 zt9 ds
noncomputable def b_fits:FS:=(sRet (eOp eqD (eBlt lenD (aCons (eCall zk3 (aCons (eVar 0) (aCons (eVar 1) aNil))) aNil)) (eBlt lenD (aCons (eVar 0) aNil))))
noncomputable def zF1 (ds:List D):Rs D:=runF 2 b_fits ds
noncomputable def zB0:FS:=(sRet (fun τ=>((eComp 1 [] (iAny (eMt "str" zB2 (eVar 0) (aCons (eC (.str " ")) aNil))) (gNm 0) (tB (eOp neD (eVar 0) (eC (.str "")))) (eVar 0)) τ).bind fun ds=>.ok (.lst ds)))
noncomputable def zm7 (ds:List D):Rs D:=runF 1 zB0 ds
noncomputable def zx9:FS:=(sRet (eBlt allD (aCons (fun τ=>((eComp 1 [1] (iAny (eCall zm7 (aCons (eVar 0) aNil))) (gNm 0) (fun _=>.ok true) (eCall zF1 (aCons (eVar 0) (aCons (eVar 1) aNil)))) τ).bind fun ds=>.ok (.lst ds)) aNil)))
noncomputable def zj7 (ds:List D):Rs D:=runF 2 zx9 ds
noncomputable def zC2:FS:=(sSeq (sSet 2 (eC (.str "abcdefghijklmnopqrstuvwxyz")))
  (sRet (eOr (eOp eqD (eVar 0) (eVar 1)) (eAnd (eOp inD (eVar 0) (eVar 2)) (eOp eqD (eVar 1) (eOp ixD (eC (.str "ABCDEFGHIJKLMNOPQRSTUVWXYZ")) (eMt "str" idxD (eVar 2) (aCons (eVar 0) aNil))))))))
noncomputable def zl8 (ds:List D):Rs D:=runF 3 zC2 ds
noncomputable def zt4:FS:=(sSeq (sSet 2 (eLst (aCons (eLst aNil) aNil)))
  (sSeq (sFor (iAny (eVar 0)) (gNm 3) (sSeq (sSet 4 (eLst aNil))
  (sSeq (sFor (iAny (eVar 2)) (gNm 5) (sSeq (sSet 6 (eIf (tB (eOp neD (eVar 5) (eLst aNil))) (eOp addD (eOp ixD (eVar 5) (eNeg (eC (.int 1)))) (eC (.int 1))) (eC (.int 0))))
  (sSet 4 (eOp addD (eVar 4) (fun τ=>((eComp 1 [5,3,1] (iRg2 (aCons (eVar 6) (aCons (eBlt lenD (aCons (eVar 1) aNil)) aNil))) (gNm 0) (tTru (eCall zl8 (aCons (eVar 2) (aCons (eOp ixD (eVar 3) (eVar 0)) aNil)))) (eOp addD (eVar 1) (eLst (aCons (eVar 0) aNil)))) τ).bind fun ds=>.ok (.lst ds))))))
  (sSet 2 (eVar 4)))))
  (sRet (eVar 2))))
noncomputable def zk2 (ds:List D):Rs D:=runF 7 zt4 ds
noncomputable def zv9:FS:=(sSeq (sSet 3 (eOp addD (eC (.int 10)) (eBlt intD (aCons (eOp eqD (eVar 0) (eOp ixD (eVar 1) (eVar 2))) aNil))))
  (sSeq (sIf (tB (eOp eqD (eVar 2) (eC (.int 0)))) (sRet (eOp addD (eVar 3) (eC (.int 8)))) sNext)
  (sSeq (sIf (tB (eOp inD (eOp ixD (eVar 1) (eOp subD (eVar 2) (eC (.int 1)))) (eC (.str "_-./")))) (sRet (eOp addD (eVar 3) (eC (.int 6)))) sNext)
  (sSeq (sSet 4 (eOp inD (eOp ixD (eVar 1) (eVar 2)) (eC (.str "ABCDEFGHIJKLMNOPQRSTUVWXYZ"))))
  (sRet (eOp addD (eVar 3) (eOp mulD (eC (.int 5)) (eBlt intD (aCons (eAnd (eVar 4) (eOp inD (eOp ixD (eVar 1) (eOp subD (eVar 2) (eC (.int 1)))) (eC (.str "abcdefghijklmnopqrstuvwxyz0123456789")))) aNil)))))))))
noncomputable def zl9 (ds:List D):Rs D:=runF 5 zv9 ds
noncomputable def zu5:FS:=(sSeq (sSet 3 (eC (.int 0)))
  (sSeq (sFor (iEn (aCons (eVar 2) aNil)) (gPr 4 5) (sSeq (sSet 3 (eOp addD (eVar 3) (eCall zl9 (aCons (eOp ixD (eVar 0) (eVar 4)) (aCons (eVar 1) (aCons (eVar 5) aNil))))))
  (sIf (tB (eOp eqD (eVar 4) (eC (.int 0)))) (sSet 3 (eOp subD (eVar 3) (eBlt min2D (aCons (eC (.int 3)) (aCons (eVar 5) aNil))))) (sIf (tB (eOp eqD (eOp addD (eOp ixD (eVar 2) (eOp subD (eVar 4) (eC (.int 1)))) (eC (.int 1))) (eVar 5))) (sSet 3 (eOp addD (eVar 3) (eC (.int 7)))) (sSet 3 (eOp subD (eVar 3) (eBlt min2D (aCons (eC (.int 5)) (aCons (eOp subD (eOp subD (eVar 5) (eOp ixD (eVar 2) (eOp subD (eVar 4) (eC (.int 1))))) (eC (.int 1))) aNil)))))))))
  (sRet (eVar 3))))
noncomputable def zk9 (ds:List D):Rs D:=runF 6 zu5 ds
noncomputable def zy0:FS:=(sSeq (sSet 2 (eC .non))
  (sSeq (sFor (iAny (eCall zk2 (aCons (eVar 0) (aCons (eVar 1) aNil)))) (gNm 3) (sSeq (sSet 4 (eCall zk9 (aCons (eVar 0) (aCons (eVar 1) (aCons (eVar 3) aNil)))))
  (sIf (tOrD (tB (eOp isD (eVar 2) (eC .non))) (tB (eOp gtD (eVar 4) (eOp ixD (eVar 2) (eC (.int 0)))))) (sSet 2 (eTup (aCons (eVar 4) (aCons (eVar 3) aNil)))) sNext)))
  (sRet (eVar 2))))
noncomputable def zp3 (ds:List D):Rs D:=runF 5 zy0 ds
noncomputable def zB1:FS:=(sRet (zT2 [0] (eVar 1) (eTup (aCons (eNeg (eOp ixD (eVar 0) (eC (.int 0)))) (aCons (eBlt lenD (aCons (eOp ixD (eVar 1) (eOp ixD (eVar 0) (eC (.int 1)))) aNil)) (aCons (eOp ixD (eVar 0) (eC (.int 1))) aNil))))))
noncomputable def zp4 (ds:List D):Rs D:=runF 2 zB1 ds
noncomputable def zv5:FS:=(sRet (eSl (eCall zp4 (aCons (eVar 0) (aCons (eVar 1) aNil))) oNone (oSome (eBlt max2D (aCons (eVar 2) (aCons (eC (.int 0)) aNil))))))
noncomputable def zn9 (ds:List D):Rs D:=runF 3 zv5 ds
noncomputable def zt1:FS:=(sSeq (sIf (tB (eOp eqD (eVar 1) (eC (.int 0)))) (sRet (eC (.int 8))) sNext)
  (sSeq (sSet 2 (eOp ixD (eVar 0) (eOp subD (eVar 1) (eC (.int 1)))))
  (sSeq (sIf (tB (eOp inD (eVar 2) (eC (.str "_-./")))) (sRet (eC (.int 6))) sNext)
  (sSeq (sIf (tAndD (tB (eOp inD (eOp ixD (eVar 0) (eVar 1)) (eC (.str "ABCDEFGHIJKLMNOPQRSTUVWXYZ")))) (tOrD (tB (eOp inD (eVar 2) (eC (.str "abcdefghijklmnopqrstuvwxyz")))) (tB (eOp inD (eVar 2) (eC (.str "0123456789")))))) (sRet (eC (.int 5))) sNext)
  (sRet (eC (.int 0)))))))
noncomputable def zj4 (ds:List D):Rs D:=runF 3 zt1 ds
noncomputable def zC0:FS:=(sSeq (sSet 3 (eIf (tB (eOp eqD (eOp ixD (eVar 1) (eVar 2)) (eVar 0))) (eC (.int 1)) (eC (.int 0))))
  (sRet (eOp addD (eOp addD (eC (.int 10)) (eCall zj4 (aCons (eVar 1) (aCons (eVar 2) aNil)))) (eVar 3))))
noncomputable def zj2 (ds:List D):Rs D:=runF 4 zC0 ds
noncomputable def zt8:FS:=(sRet (fun τ=>((eComp 1 [0,1] (iRg1 (aCons (eBlt lenD (aCons (eVar 1) aNil)) aNil)) (gNm 0) (tTru (eCall zq1 (aCons (eVar 1) (aCons (eOp ixD (eVar 2) (eVar 0)) aNil)))) (eTup (aCons (eCall zj2 (aCons (eVar 1) (aCons (eVar 2) (aCons (eVar 0) aNil)))) (aCons (eLst (aCons (eVar 0) aNil)) aNil)))) τ).bind fun ds=>.ok (.lst ds)))
noncomputable def zh5 (ds:List D):Rs D:=runF 2 zt8 ds
noncomputable def zv6:FS:=(sSeq (sSet 1 (eC .non))
  (sSeq (sFor (iAny (eVar 0)) (gNm 2) (sIf (tOrD (tB (eOp isD (eVar 1) (eC .non))) (tB (eOp gtD (eOp ixD (eVar 2) (eC (.int 0))) (eOp ixD (eVar 1) (eC (.int 0)))))) (sSet 1 (eVar 2)) sNext))
  (sRet (eVar 1))))
noncomputable def zf6 (ds:List D):Rs D:=runF 3 zv6 ds
noncomputable def zz9:FS:=(sSeq (sSet 2 (eOp subD (eOp subD (eVar 1) (eVar 0)) (eC (.int 1))))
  (sSeq (sIf (tB (eOp eqD (eVar 2) (eC (.int 0)))) (sRet (eC (.int 7))) sNext)
  (sRet (eNeg (eBlt min2D (aCons (eVar 2) (aCons (eC (.int 5)) aNil)))))))
noncomputable def zm4 (ds:List D):Rs D:=runF 3 zz9 ds
noncomputable def zx3:FS:=(sRet (fun τ=>((eComp 1 [0] (iAny (eVar 1)) (gNm 0) (tB (eOp gtD (eOp ixD (eOp ixD (eVar 0) (eC (.int 1))) (eC (.int 0))) (eVar 1))) (eTup (aCons (eOp addD (eOp ixD (eVar 0) (eC (.int 0))) (eCall zm4 (aCons (eVar 1) (aCons (eOp ixD (eOp ixD (eVar 0) (eC (.int 1))) (eC (.int 0))) aNil)))) (aCons (eOp ixD (eVar 0) (eC (.int 1))) aNil)))) τ).bind fun ds=>.ok (.lst ds)))
noncomputable def zk1 (ds:List D):Rs D:=runF 2 zx3 ds
noncomputable def zt3:FS:=(sSeq (sSetO 3 (fun τ=>(aNil τ).bind fun ds=>if ds.length≤sizeLine then .ok ds else .no))
  (sSeq (sFor (iRg1 (aCons (eBlt lenD (aCons (eVar 1) aNil)) aNil)) (gNm 4) (sIf (tTru (eCall zq1 (aCons (eVar 0) (aCons (eOp ixD (eVar 1) (eVar 4)) aNil)))) (sSeq (sSet 5 (eCall zf6 (aCons (eCall zk1 (aCons (eVar 4) (aCons (eVar 2) aNil))) aNil)))
  (sIf (tB (eOp zB5 (eVar 5) (eC .non))) (sApp 3 (eTup (aCons (eOp addD (eCall zj2 (aCons (eVar 0) (aCons (eVar 1) (aCons (eVar 4) aNil)))) (eOp ixD (eVar 5) (eC (.int 0)))) (aCons (eOp addD (eLst (aCons (eVar 4) aNil)) (eOp ixD (eVar 5) (eC (.int 1)))) aNil)))) sNext)) sNext))
  (sRetO 3)))
noncomputable def zl3 (ds:List D):Rs D:=runF 6 zt3 ds
noncomputable def zA0:FS:=(sRet (eNeg (eBlt min2D (aCons (eVar 0) (aCons (eC (.int 3)) aNil)))))
noncomputable def zk7 (ds:List D):Rs D:=runF 1 zA0 ds
noncomputable def yo3:FS:=(sSeq (sIf (tB (eOp eqD (eBlt lenD (aCons (eVar 0) aNil)) (eC (.int 0)))) (sRet (eTup (aCons (eC (.int 0)) (aCons (eLst aNil) aNil)))) sNext)
  (sSeq (sSet 2 (eCall zh5 (aCons (eOp ixD (eVar 0) (eNeg (eC (.int 1)))) (aCons (eVar 1) aNil))))
  (sSeq (sFor (iRg3 (aCons (eOp subD (eBlt lenD (aCons (eVar 0) aNil)) (eC (.int 2))) (aCons (eNeg (eC (.int 1))) (aCons (eNeg (eC (.int 1))) aNil)))) (gNm 3) (sSet 2 (eCall zl3 (aCons (eOp ixD (eVar 0) (eVar 3)) (aCons (eVar 1) (aCons (eVar 2) aNil))))))
  (sRet (eCall zf6 (aCons (fun τ=>((eComp 1 [] (iAny (eVar 2)) (gNm 0) (fun _=>.ok true) (eTup (aCons (eOp addD (eOp ixD (eVar 0) (eC (.int 0))) (eCall zk7 (aCons (eOp ixD (eOp ixD (eVar 0) (eC (.int 1))) (eC (.int 0))) aNil))) (aCons (eOp ixD (eVar 0) (eC (.int 1))) aNil)))) τ).bind fun ds=>.ok (.lst ds)) aNil))))))
noncomputable def zz4 (ds:List D):Rs D:=runF 4 yo3 ds
noncomputable def zs8:FS:=(sSeq (sIf (tNotD (tTru (eCall zj7 (aCons (eVar 0) (aCons (eVar 1) aNil))))) (sRet (eC .non)) sNext)
  (sRet (fun τ=>((eComp 1 [1] (iAny (eCall zm7 (aCons (eVar 0) aNil))) (gNm 0) (fun _=>.ok true) (eCall zz4 (aCons (eVar 0) (aCons (eVar 1) aNil)))) τ).bind fun ds=>.ok (.lst ds))))
noncomputable def zh3 (ds:List D):Rs D:=runF 2 zs8 ds
noncomputable def zr1:FS:=(sSeq (sSet 2 (eCall zh3 (aCons (eVar 0) (aCons (eVar 1) aNil))))
  (sSeq (sIf (tB (eOp isD (eVar 2) (eC .non))) (sRet (eC .non)) sNext)
  (sRet (eBlt sumD (aCons (fun τ=>((eComp 2 [] (iAny (eVar 2)) (gPr 0 1) (fun _=>.ok true) (eVar 0)) τ).bind fun ds=>.ok (.lst ds)) aNil)))))
noncomputable def zf8 (ds:List D):Rs D:=runF 3 zr1 ds
noncomputable def zr7:FS:=(sSeq (sSet 3 fun τ=>((eComp 2 [1] (iEn (aCons (eVar 0) aNil)) (gPr 0 1) (fun _=>.ok true) (eTup (aCons (eCall zf8 (aCons (eVar 2) (aCons (eVar 1) aNil))) (aCons (eVar 0) aNil)))) τ).bind fun ds=>.ok (.lst ds))
  (sRet (eCall zn9 (aCons (eVar 0) (aCons (fun τ=>((eComp 1 [] (iAny (eVar 3)) (gNm 0) (tB (eOp zB5 (eOp ixD (eVar 0) (eC (.int 0))) (eC .non))) (eVar 0)) τ).bind fun ds=>.ok (.lst ds)) (aCons (eVar 2) aNil))))))
noncomputable def zh4 (ds:List D):Rs D:=runF 4 zr7 ds
noncomputable def zr2:FS:=(sSeq (sSet 2 (eCall zh3 (aCons (eVar 0) (aCons (eVar 1) aNil))))
  (sSeq (sIf (tB (eOp isD (eVar 2) (eC .non))) (sRet (eC .non)) sNext)
  (sSeq (sSetO 3 (fun τ=>(aNil τ).bind fun ds=>if ds.length≤sizeLine then .ok ds else .no))
  (sSeq (sFor (iAny (eVar 2)) (gPr 4 5) (sExt 3 (eVar 5)))
  (fun τ=>sRet (fun τ=>(((aCons (eVar 3) aNil) τ).bind setI).bind fun ds=>.ok (.lst ds)) (frzT τ))))))
noncomputable def zj0 (ds:List D):Rs D:=runF 6 zr2 ds
noncomputable def b_law:FS:=(sSeq (sSet 1 (eCall zo1 (aCons (eVar 0) (aCons (eC (.int 0)) (aCons (eC (.int 4)) aNil)))))
  (sSeq (sTup (gPr 2 3) (eCall zo0 (aCons (eVar 0) (aCons (eC (.int 80)) (aCons (eVar 1) aNil)))))
  (sSeq (sSetO 4 (fun τ=>(aNil τ).bind fun ds=>if ds.length≤sizeLine then .ok ds else .no))
  (sSeq (sFor (iEn (aCons (eVar 1) aNil)) (gPr 5 6) (sSeq (sSet 7 fun τ=>((eComp 1 [6] (iAny (eVar 2)) (gNm 0) (fun _=>.ok true) (eCall zp3 (aCons (eVar 0) (aCons (eVar 1) aNil)))) τ).bind fun ds=>.ok (.lst ds))
  (sSeq (sSet 8 (eOp zI0 (eC .non) (eVar 7)))
  (sSeq (sSet 9 (eCall zj7 (aCons (eVar 3) (aCons (eVar 6) aNil))))
  (sSeq (sIf (tOrD (tNotD (tTru (eBlt isiD (aCons (eVar 9) (aCons (eC (.raw (.ty "bool"))) aNil))))) (tB (eOp neD (eVar 9) (eVar 8)))) (sRet (eC (.bl false))) sNext)
  (sSeq (sSet 10 (eC .non))
  (sSeq (sSet 11 (eC .non))
  (sSeq (sIf (tTru (eVar 8)) (sSeq (sSet 10 (eBlt sumD (aCons (fun τ=>((eComp 1 [] (iAny (eVar 7)) (gNm 0) (fun _=>.ok true) (eOp ixD (eVar 0) (eC (.int 0)))) τ).bind fun ds=>.ok (.lst ds)) aNil)))
  (sSeq (sSet 11 (eLst aNil))
  (sSeq (sFor (iAny (eVar 7)) (gNm 12) (sSet 11 (eOp addD (eVar 11) (eOp ixD (eVar 12) (eC (.int 1))))))
  (sSeq (sSet 11 (fun τ=>(((aCons (eVar 11) aNil) τ).bind setI).bind fun ds=>.ok (.lst ds)))
  (sApp 4 (eTup (aCons (eVar 10) (aCons (eVar 5) aNil)))))))) sNext)
  (sIf (tOrD (tB (eOp neD (eCall zf8 (aCons (eVar 3) (aCons (eVar 6) aNil))) (eVar 10))) (tB (eOp neD (eCall zj0 (aCons (eVar 3) (aCons (eVar 6) aNil))) (eVar 11)))) (sRet (eC (.bl false))) sNext)))))))))
  (fun τ=>(sSeq (sSet 4 (eCall zk8 (aCons (eVar 1) (aCons (eVar 4) aNil))))
  (sSeq (sSet 13 (eCall za8 (aCons (eVar 0) (aCons (eC (.int 78)) (aCons (eC (.int 6)) aNil)))))
  (sRet (eAnd (eOp eqD (eCall zh4 (aCons (eVar 1) (aCons (eVar 3) (aCons (eC (.int 99)) aNil)))) (eVar 4)) (eOp eqD (eCall zh4 (aCons (eVar 1) (aCons (eVar 3) (aCons (eVar 13) aNil)))) (eSl (eVar 4) oNone (oSome (eVar 13)))))))) (frzT τ))))))
noncomputable def m_law (ds:List D):Rs D:=runF 14 b_law ds
noncomputable def cellZ (ns:List Int) (k:Int):Int:=if ns = [] then 7 * k else ns.getD (k % ns.length).toNat 0 + 6553 * (k / ns.length)
theorem sizeLine_v:sizeLine = 16777216:=sizeLine_eq
theorem cell_ok (ns:List Int) (k:Int) (h63:ns.length≤63) (h0:0≤k):zq7 [.scr ns,.int k] = .ok (.int (cellZ ns k)):=by
 have st:zg9 2 [D.scr ns,.int k] = [some (.val (.scr ns)),some (.val (.int k))]:=rfl
 unfold zq7 zG7
 rw [zg6,st]
 simp only [zc6,zh0,tB_ap,zf4,zb9,zW2,zb5,List.getElem?_cons_zero,List.getElem?_cons_succ,zb2,Rs.bind_ok,List.length_nil,Nat.zero_le,if_true,zW1,zb7,Fl.of_ok]
 cases ns with
 | nil=>
  simp only [List.isEmpty_nil,if_true,zc1,zf4,eC_ap,zb9,List.getElem?_cons_zero,List.getElem?_cons_succ,zb2,Rs.bind_ok,zx0 (i:=7) (j:=k) (.inl ⟨by decide,by decide⟩),Fl.of_ok,zi5,zb8,cellZ]
 | cons a r=>
  have hl:(0:Int) < ((a :: r).length:Int):=by simp only [List.length_cons];omega
  have hm0:=Int.emod_nonneg k (show ((a :: r).length:Int)≠0 by omega)
  have hm1:=Int.emod_lt_of_pos k hl
  have hat:atI (a :: r) (k % ((a :: r).length:Int)) = some ((a :: r).getD (k % ((a :: r).length:Int)).toNat 0):=by
   refine zJ7 hm0 ?_
   have:(k % ((a :: r).length:Int)).toNat < (a :: r).length:=by omega
   rw [List.getD_eq_getElem?_getD,List.getElem?_eq_getElem this];rfl
  have hdv:fdivD (.int k) (.int ((a :: r).length:Int)) = .ok (.int (k / ((a :: r).length:Int))):=zN8 ⟨hl,by omega⟩
  have hmd:modD (.int k) (.int ((a :: r).length:Int)) = .ok (.int (k % ((a :: r).length:Int))):=zR4 hl
  have hml:=zx0 (i:=6553) (j:=k / ((a :: r).length:Int)) (.inl ⟨by decide,by decide⟩)
  simp only [List.isEmpty_cons,Bool.false_eq_true,if_false,zc4,zf9,zc1,zf4,eC_ap,zb9,zd4,za9,zb5,List.getElem?_cons_zero,List.getElem?_cons_succ,zb2,Rs.bind_ok,lenD_scr,hmd,hdv,hml,ixD_scr hat,zd3,Fl.of_ok,zb8]
  simp [cellZ]
noncomputable def d1 (ns:List Int) (k:Int):Int:=(cellZ ns k % 2147483563 * 69069 + 104723 * (k + 1)) % 2147483563
noncomputable def d2 (ns:List Int) (k:Int):Int:=(d1 ns k * d1 ns k + d1 ns k / 3) % 2147483399
noncomputable def drawZ (ns:List Int) (k m:Int):Int:=(d2 ns k * d2 ns k + d2 ns k / 7) % 2147483647 / 11 % m
theorem zq8 (ns:List Int) (k m:Int) (h63:ns.length≤63) (h0:0≤k) (hk:k < 1000000) (hm:0 < m):za8 [.scr ns,.int k,.int m] = .ok (.int (drawZ ns k m)):=by
 have st:zg9 4 [D.scr ns,.int k,.int m] = [some (.val (.scr ns)),some (.val (.int k)),some (.val (.int m)),none]:=rfl
 have b1:0≤d1 ns k∧d1 ns k < 2147483563:=⟨Int.emod_nonneg _ (by decide),Int.emod_lt_of_pos _ (by decide)⟩
 have b2:0≤d2 ns k∧d2 ns k < 2147483399:=⟨Int.emod_nonneg _ (by decide),Int.emod_lt_of_pos _ (by decide)⟩
 have c0:=Int.emod_lt_of_pos (cellZ ns k) (show (0:Int) < 2147483563 by decide)
 have c1:=Int.emod_nonneg (cellZ ns k) (show (2147483563:Int)≠0 by decide)
 have q1:=zx0 (i:=cellZ ns k % 2147483563) (j:=69069) (.inr ⟨by decide,by decide⟩)
 have q2:=zx0 (i:=104723) (j:=k + 1) (.inl ⟨by decide,by decide⟩)
 have q3:=zx0 (i:=d1 ns k) (j:=d1 ns k) (.inl ⟨by omega,by omega⟩)
 have q4:=zx0 (i:=d2 ns k) (j:=d2 ns k) (.inl ⟨by omega,by omega⟩)
 have e1:(cellZ ns k % 2147483563 * 69069 + 104723 * (k + 1)) % 2147483563 = d1 ns k:=rfl
 have e2:(d1 ns k * d1 ns k + d1 ns k / 3) % 2147483399 = d2 ns k:=rfl
 have m1:=fun i=>zR4 (i:=i) (j:=2147483563) (by decide)
 have m2:=fun i=>zR4 (i:=i) (j:=2147483399) (by decide)
 have m3:=fun i=>zR4 (i:=i) (j:=2147483647) (by decide)
 have m4:=fun i=>zR4 (i:=i) (j:=m) hm
 have f3:=fun i=>zN8 (i:=i) (j:=3) ⟨by decide,by decide⟩
 have f7:=fun i=>zN8 (i:=i) (j:=7) ⟨by decide,by decide⟩
 have f11:=fun i=>zN8 (i:=i) (j:=11) ⟨by decide,by decide⟩
 unfold za8 zC3
 rw [zg6,st]
 simp only [zc6,zd6,zc1,zf4,zb9,eC_ap,zb6,za9,zb5,List.getElem?_cons_zero,List.getElem?_cons_succ,zb2,Rs.bind_ok,cell_ok ns k h63 h0,zd7,m1,q1,zd3,q2,e1,Fl.of_ok,zf9,List.set_cons_succ,List.set_cons_zero,q3,f3,m2,e2,q4,f7,m3,f11,m4,zb8]
 rfl
theorem zq9 (ns:List Int) (k:Int) {m:Int} (hm:0 < m):0≤drawZ ns k m∧drawZ ns k m < m:=⟨Int.emod_nonneg _ (by omega),Int.emod_lt_of_pos _ hm⟩
end Law
set_option Elab.async false
set_option linter.all false
namespace FD
open PySem PySem.Spec PyProof.Rows L2
theorem zR7 {set:FG} {body:FS} (f:Nat→D) (S:Nat→DS):∀ (m j:Nat),(∀ k,j≤k→k < j + m→∃ τ1,set (f k) (S k) = .ok τ1∧body τ1 = .nx (S (k + 1)))→loopD set body ((List.range' j m).map f) (S j) = .nx (S (j + m))
 | 0,j,_=>rfl
 | m + 1,j,h=>by
  obtain ⟨τ1,h1,h2⟩:=h j (Nat.le_refl _) (by omega)
  rw [List.range'_succ,List.map_cons,loopD,h1,Fl.of_ok]
  simp only [h2]
  rw [zR7 f S m (j + 1) fun k hk hk2=>h k (by omega) (by omega)]
  congr 2;omega
theorem yd5 {set:FG} {body:FS} (f:Nat→D) (S:Nat→DS) (n:Nat) (h:∀ k,k < n→∃ τ1,set (f k) (S k) = .ok τ1∧body τ1 = .nx (S (k + 1))):loopD set body ((List.range n).map f) (S 0) = .nx (S n):=by
 have:=zR7 f S n 0 fun k _ hk=>h k (by omega)
 rw [Nat.zero_add] at this
 rwa [List.range_eq_range']
theorem zX8 {fs:FA} {τ:DS} {j:Int} (h:fs τ = .ok [.int j]) (h1 : -(2 ^ 62)≤j) (h2:j < 2 ^ 62):iRg1 fs τ = .ok (rngD 0 j.toNat):=by
 unfold iRg1
 rw [h]
 simp only [Rs.bind_ok,int1]
 rw [if_pos ⟨h1,h2⟩]
theorem yf0 (a:List Nat) (c:Nat):(⟨a.toArray⟩:Str) ++ (⟨#[c]⟩:Str) = ⟨(a ++ [c]).toArray⟩:=by
 show Str.mk _ = _
 simp
theorem zg8 {n:Nat} {d:D} {τ:DS}:gNm n d τ = .ok (τ.set n (some (.val d))):=rfl
end FD
namespace Law
open PySem PySem.Spec PyProof.Rows L2 FD
noncomputable def A18:List Nat:=[97,98,99,97,98,65,66,67,97,98,49,95,45,46,47,120,121,122]
noncomputable def nameN (ns:List Int) (a:Int):Nat:=(1 + drawZ ns a 10).toNat
noncomputable def nameC (ns:List Int) (a:Int) (k:Nat):Nat:=A18.getD (drawZ ns (a + 1 + k) 18).toNat 0
noncomputable def nameL (ns:List Int) (a:Int) (n:Nat):List Nat:=(List.range n).map (nameC ns a)
theorem a18:("abcabABCab1_-./xyz" : Str).cps.toList = A18:=by decide +kernel
theorem name_ok (ns:List Int) (a:Int) (h63:ns.length≤63) (h0:0≤a) (ha:a < 900000):zo2 [.scr ns,.int a] = .ok (.str ⟨(nameL ns a (nameN ns a)).toArray⟩):=by
 have st:zg9 4 [D.scr ns,.int a] = [some (.val (.scr ns)),some (.val (.int a)),none,none]:=rfl
 have dl:=zq9 ns a (m:=10) (by decide)
 unfold zo2 zG5
 rw [zg6,st,zc6,zd6,eC_ap,Fl.of_ok,zf9,zc6,ze5]
 have r1:=zX8 (fs:=aCons (eOp addD (eC (.int 1)) (eCall za8 (aCons (eVar 0) (aCons (eVar 1) (aCons (eC (.int 10)) aNil))))) aNil) (τ:=[some (.val (.scr ns)),some (.val (.int a)),some (.val (.str "")),none]) (j:=1 + drawZ ns a 10)
  (by simp only [za9,zb5,zf4,eC_ap,zb6,zb9,List.getElem?_cons_zero,List.getElem?_cons_succ,zb2,Rs.bind_ok,zq8 ns a 10 h63 h0 (by omega) (by decide),zd7,zd3]) (by omega) (by omega)
 simp only [List.set_cons_succ,List.set_cons_zero]
 rw [r1,Fl.of_ok]
 let S:Nat→DS:=fun k=>[some (.val (.scr ns)),some (.val (.int a)),some (.val (.str ⟨(nameL ns a k).toArray⟩)),if k = 0 then none else some (.val (.int ((k:Int) - 1)))]
 have s0:S 0 = [some (.val (.scr ns)),some (.val (.int a)),some (.val (.str "")),none]:=by
  simp only [S,nameL,List.range_zero,List.map_nil,if_true]
  rfl
 rw [← s0]
 have lp:=yd5 (set:=gNm 3) (body:=(sSet 2 (eOp addD (eVar 2) (eOp ixD (eC (.str "abcabABCab1_-./xyz")) (eCall za8 (aCons (eVar 0) (aCons (eOp addD (eOp addD (eVar 1) (eC (.int 1))) (eVar 3)) (aCons (eC (.int 18)) aNil)))))))) (fun (k:Nat)=>D.int (0 + k)) S (1 + drawZ ns a 10).toNat fun k hk=>by
  refine ⟨_,zg8,?_⟩
  have hk':(k:Int) < 20:=by omega
  have dk:=zq9 ns (a + 1 + (0 + (k:Int))) (m:=18) (by decide)
  have hd:=zq8 ns (a + 1 + (0 + (k:Int))) 18 h63 (by omega) (by omega) (by decide)
  have hix:=zF6 (a := "abcabABCab1_-./xyz") (k:=drawZ ns (a + 1 + (0 + (k:Int))) 18) (c:=A18.getD (drawZ ns (a + 1 + (0 + (k:Int))) 18).toNat 0) (zJ7 dk.1 (by
   rw [a18]
   have:(drawZ ns (a + 1 + (0 + (k:Int))) 18).toNat < A18.length:=by
    have:A18.length = 18:=rfl
    omega
   rw [List.getD_eq_getElem?_getD,List.getElem?_eq_getElem this];rfl)) (by decide +kernel)
  have hadd:=yo7 (a:=⟨(nameL ns a k).toArray⟩) (b:=⟨#[A18.getD (drawZ ns (a + 1 + (0 + (k:Int))) 18).toNat 0]⟩) (by
   show (nameL ns a k).toArray.size + 1≤sizeLine
   rw [sizeLine_v,List.size_toArray]
   simp only [nameL,List.length_map,List.length_range];omega)
  simp only [S,List.set_cons_succ,List.set_cons_zero,zd6,zf4,eC_ap,zb6,za9,zb5,zb9,List.getElem?_cons_zero,List.getElem?_cons_succ,zb2,Rs.bind_ok,zd3,hd,zd7,hix,signD,hadd,Fl.of_ok,yf0]
  have e1:nameL ns a k ++ [A18.getD (drawZ ns (a + 1 + (0 + (k:Int))) 18).toNat 0] = nameL ns a (k + 1):=by
   simp only [nameL,List.range_succ,List.map_append,List.map_cons,List.map_nil,nameC,Int.zero_add]
  rw [e1]
  simp
 unfold rngD
 rw [lp,zf9]
 simp only [S,zc1,zb9,List.getElem?_cons_zero,List.getElem?_cons_succ,zb2,Fl.of_ok,zb8]
 rfl
end Law
set_option Elab.async false
set_option linter.all false
namespace FD
open PySem PySem.Spec PyProof.Rows L2
theorem zZ3 {set:FG} {body:FS} (f:Nat→D) (I:Nat→DS→Prop):∀ (m j:Nat) (τ:DS),I j τ→(∀ k τ,j≤k→k < j + m→I k τ→∃ τ1 τ2,set (f k) τ = .ok τ1∧body τ1 = .nx τ2∧I (k + 1) τ2)→∃ τ',loopD set body ((List.range' j m).map f) τ = .nx τ'∧I (j + m) τ'
 | 0,j,τ,h,_=>⟨τ,rfl,h⟩
 | m + 1,j,τ,h,hs=>by
  obtain ⟨τ1,τ2,h1,h2,h3⟩:=hs j τ (Nat.le_refl _) (by omega) h
  obtain ⟨τ',h4,h5⟩:=zZ3 f I m (j + 1) τ2 h3 fun k τ hk hk2=>hs k τ (by omega) (by omega)
  refine ⟨τ',?_,by rw [show j + (m + 1) = j + 1 + m by omega];exact h5⟩
  rw [List.range'_succ,List.map_cons,loopD,h1,Fl.of_ok]
  simp only [h2,h4]
theorem zF2 {set:FG} {body:FS} (f:Nat→D) (I:Nat→DS→Prop) (n:Nat) (τ:DS) (h0:I 0 τ) (h:∀ k τ,k < n→I k τ→∃ τ1 τ2,set (f k) τ = .ok τ1∧body τ1 = .nx τ2∧I (k + 1) τ2):∃ τ',loopD set body ((List.range n).map f) τ = .nx τ'∧I n τ':=by
 obtain ⟨τ',h1,h2⟩:=zZ3 f I n 0 τ h0 fun k τ _ hk hi=>h k τ (by omega) hi
 rw [Nat.zero_add] at h2
 exact ⟨τ',by rw [List.range_eq_range'];exact h1,h2⟩
end FD
namespace Law
open PySem PySem.Spec PyProof.Rows L2 FD
noncomputable def QS:List Nat:=[97,98,99,120,121,122,65,66,49]
noncomputable def MK:List Nat:=[95,45,46,47]
theorem mk_l:("_-./" : Str).cps.toList = MK:=by decide +kernel
theorem mark_ok (c:Nat):zo3 [signD c] = .ok (.bl (decide (c∈MK))):=by
 have st:zg9 1 [signD c] = [some (.val (signD c))]:=rfl
 unfold zo3 zG6
 rw [zg6,st]
 simp only [zc1,zf4,zb9,eC_ap,List.getElem?_cons_zero,zb2,Rs.bind_ok,signD,inD_s,zp5,mk_l,Fl.of_ok,zb8]
theorem slice_ss (x:List Nat) {i j:Int} (h0:0≤i) (h1:i≤j) (h2:j≤x.length):Txt.slice (⟨x.toArray⟩:Str) (some i) (some j) = ⟨((x.drop i.toNat).take (j - i).toNat).toArray⟩:=by
 have:=slice_closesL (x:=⟨x.toArray⟩) (i:=i) (j:=j) h0 h1 (by show j≤((x.toArray.size:Nat):Int);simpa using h2)
 exact eq_of_beq this
theorem yf4 (x:List Nat) (p:Nat) (hp:p < x.length):Txt.slice (⟨x.toArray⟩:Str) (some (p:Int)) (some ((p:Int) + 1)) = ⟨#[x[p]]⟩:=by
 rw [slice_ss x (by omega) (by omega) (by omega)]
 have e1:((p:Int) + 1 - (p:Int)).toNat = 1:=by omega
 have e2:((p:Int)).toNat = p:=by omega
 rw [e1,e2,List.drop_eq_getElem_cons hp]
 rfl
theorem yj7 (c:Nat) (h:c < 128):Txt.lower (⟨#[c]⟩:Str) = ⟨#[lo1 c]⟩:=by
 rw [lower_ascii (x:=⟨#[c]⟩) (by intro d hd;have e:d = c:=(by simpa using hd);omega)]
 simp
noncomputable def NS:List Nat:=[97,98,99,65,66,67,49,95,45,46,47,120,121,122]
theorem yj0 (ns:List Int) (a:Int) (k:Nat) (h:0≤a + 1 + k):nameC ns a k∈NS:=by
 have d:=zq9 ns (a + 1 + k) (m:=18) (by decide)
 have hall:∀ n,n < 18→A18.getD n 0∈NS:=by decide
 exact hall _ (by omega)
noncomputable def S6:List Nat:=[97,98,65,66,49,99]
theorem s6_l:("abAB1c" : Str).cps.toList = S6:=by decide +kernel
theorem yj9:∀ c∈NS,c < 128∧(lo1 c∈QS∨lo1 c∈MK):=by decide
theorem s6_sign:∀ n,n < 6→S6.getD n 0∈QS:=by decide
set_option maxHeartbeats 1000000
noncomputable def qBody:FS:=(sSeq (sSet 5 (eBlt min2D (aCons (eOp subD (eBlt lenD (aCons (eVar 2) aNil)) (eC (.int 1))) (aCons (eOp addD (eVar 5) (eCall za8 (aCons (eVar 0) (aCons (eOp addD (eOp addD (eVar 1) (eC (.int 1))) (eOp mulD (eC (.int 3)) (eVar 6))) (aCons (eC (.int 3)) aNil))))) aNil))))
  (sSeq (sSet 7 (eMt0 "str" loD (eOr (eSl (eVar 2) (oSome (eVar 5)) (oSome (eOp addD (eVar 5) (eC (.int 1))))) (eC (.str "a")))))
  (sSeq (sSet 5 (eOp addD (eVar 5) (eC (.int 1))))
  (sSeq (sIf (FD.tB (eOp eqD (eCall za8 (aCons (eVar 0) (aCons (eOp addD (eOp addD (eVar 1) (eC (.int 2))) (eOp mulD (eC (.int 3)) (eVar 6))) (aCons (eC (.int 5)) aNil)))) (eC (.int 0)))) (sSet 7 (eOp ixD (eC (.str "abAB1c")) (eCall za8 (aCons (eVar 0) (aCons (eOp addD (eOp addD (eVar 1) (eC (.int 3))) (eOp mulD (eC (.int 3)) (eVar 6))) (aCons (eC (.int 6)) aNil)))))) sNext)
  (sIf (tNotD (tTru (eCall zo3 (aCons (eVar 7) aNil)))) (sSet 4 (eOp addD (eVar 4) (eVar 7))) sNext)))))
noncomputable def qSt (ns:List Int) (a:Int) (x:List Nat) (most:Int) (q:List Nat) (p:Int) (s1 s2:Option Sl):DS:=
 [some (.val (.scr ns)),some (.val (.int a)),some (.val (.str ⟨x.toArray⟩)),some (.val (.int most)),some (.val (.str ⟨q.toArray⟩)),some (.val (.int p)),s1,s2]
theorem yc7 (ns:List Int) (a:Int) (x:List Nat) (most:Int) (q:List Nat) (p:Int) (k:Nat) (s2:Option Sl) (h63:ns.length≤63) (h0:0≤a) (ha:a < 900000) (hk:k < 100) (hx0:0 < x.length) (hx1:x.length≤100) (hx:∀ c∈x,c∈NS) (hq:q.length≤100) (hqs:∀ c∈q,c∈QS) (hp:0≤p) :
  ∃ q' p' s',qBody (qSt ns a x most q p (some (.val (.int (0 + k)))) s2) = .nx (qSt ns a x most q' p' (some (.val (.int (0 + k)))) s')∧q'.length≤q.length + 1∧(∀ c∈q',c∈QS)∧0≤p':=by
 have hl:((⟨x.toArray⟩:Str).length:Int) = x.length:=by show ((x.toArray.size:Nat):Int) = _;simp
 have hsz:(⟨x.toArray⟩:Str).length≤sizeLine:=by rw [sizeLine_v];show x.toArray.size≤_;simp;omega
 have m3:=zx0 (i:=3) (j:=0 + (k:Int)) (.inl ⟨by decide,by decide⟩)
 have g1:=zq8 ns (a + 1 + 3 * (0 + (k:Int))) 3 h63 (by omega) (by omega) (by decide)
 have g2:=zq8 ns (a + 2 + 3 * (0 + (k:Int))) 5 h63 (by omega) (by omega) (by decide)
 have g3:=zq8 ns (a + 3 + 3 * (0 + (k:Int))) 6 h63 (by omega) (by omega) (by decide)
 have b1:=zq9 ns (a + 1 + 3 * (0 + (k:Int))) (m:=3) (by decide)
 have b3:=zq9 ns (a + 3 + 3 * (0 + (k:Int))) (m:=6) (by decide)
 generalize drawZ ns (a + 1 + 3 * (0 + (k:Int))) 3 = e1 at *
 generalize drawZ ns (a + 2 + 3 * (0 + (k:Int))) 5 = e2 at *
 generalize drawZ ns (a + 3 + 3 * (0 + (k:Int))) 6 = e3 at *
 obtain ⟨n,hn,hmin⟩:∃ n:Nat,n < x.length∧(if p + e1 < (x.length:Int) - 1 then p + e1 else (x.length:Int) - 1) = (n:Int):=by
  by_cases h:p + e1 < (x.length:Int) - 1
  ·exact ⟨(p + e1).toNat,by omega,by rw [if_pos h];omega⟩
  ·exact ⟨x.length - 1,by omega,by rw [if_neg h];omega⟩
 have hmn:min2D [.int ((x.length:Int) - 1),.int (p + e1)] = .ok (.int n):=by
  simp only [min2D,int2];rw [hmin]
 have hsl:slD (.str ⟨x.toArray⟩) (some (n:Int)) (some ((n:Int) + 1)) = .ok (.str ⟨#[x[n]]⟩):=by
  simp only [slD]
  rw [if_pos hsz,yf4 x n hn]
 have hxn:=hx x[n] (List.getElem_mem hn)
 have hlo:loD (.str ⟨#[x[n]]⟩) [] = .ok (.str ⟨#[lo1 x[n]]⟩):=by
  simp only [loD]
  rw [if_pos (by show 1≤5000000;decide),yj7 _ (yj9 _ hxn).1]
 have htr:truD (.str ⟨#[x[n]]⟩) = .ok true:=by
  rw [truD_str (by rw [sizeLine_v];show 1≤_;decide)];rfl
 have hix:ixD (.str "abAB1c") (.int e3) = .ok (signD (S6.getD e3.toNat 0)):=zF6 (zJ7 b3.1 (by
   rw [s6_l]
   have:e3.toNat < S6.length:=by show e3.toNat < 6;omega
   rw [List.getD_eq_getElem?_getD,List.getElem?_eq_getElem this];rfl)) (by decide +kernel)
 have key:∀ c:Nat,(c∈QS∨c∈MK)→∃ q' s',(sIf (tNotD (tTru (eCall zo3 (aCons (eVar 7) aNil)))) (sSet 4 (eOp addD (eVar 4) (eVar 7))) sNext) (qSt ns a x most q ((n:Int) + 1) (some (.val (.int (0 + k)))) (some (.val (signD c)))) = .nx (qSt ns a x most q' ((n:Int) + 1) (some (.val (.int (0 + k)))) s')∧q'.length≤q.length + 1∧∀ c∈q',c∈QS:=fun c hc=>by
  have hadd:=yo7 (a:=⟨q.toArray⟩) (b:=⟨#[c]⟩) (by
   show q.toArray.size + 1≤sizeLine
   rw [sizeLine_v,List.size_toArray];omega)
  simp only [qSt,zh0,zf5,ze3,zb6,za9,zb5,zb9,List.getElem?_cons_zero,List.getElem?_cons_succ,zb2,Rs.bind_ok,mark_ok,zd7,ze1,Fl.of_ok]
  by_cases hm:c∈MK
  ·exact ⟨q,some (.val (signD c)),by simp only [hm,decide_true,Bool.not_true,Bool.false_eq_true,if_false,zc4],by omega,hqs⟩
  ·refine ⟨q ++ [c],some (.val (signD c)),by simp only [hm,decide_false,Bool.not_false,if_true,zd6,zf4,zb9,List.getElem?_cons_zero,List.getElem?_cons_succ,zb2,Rs.bind_ok,signD,hadd,Fl.of_ok,List.set_cons_succ,List.set_cons_zero,yf0],by simp,fun d hd=>?_⟩
   rcases List.mem_append.mp hd with h | h
   ·exact hqs d h
   ·have:d = c:=by simpa using h
    subst this
    exact hc.resolve_right hm
 unfold qBody
 simp only [qSt,zc6,zd6,zd4,za9,zb5,zf4,zb9,eC_ap,zb6,List.getElem?_cons_zero,List.getElem?_cons_succ,zb2,Rs.bind_ok,zZ5 hsz,hl,zg5,zd3,m3,g1,zd7,hmn,Fl.of_ok,List.set_cons_succ,List.set_cons_zero,zf9,
  zf7,zh6,zi1,zd1,zb1,hsl,htr,if_true,isTy,decide_true,hlo,zh0,tB_ap,g2,eqD_i,zb7]
 by_cases hz:e2 = 0
 ·subst hz
  obtain ⟨q',s',h1,h2,h3⟩:=key (S6.getD e3.toNat 0) (.inl (s6_sign _ (by omega)))
  simp only [qSt] at h1
  refine ⟨q',(n:Int) + 1,s',?_,h2,h3,by omega⟩
  simp only [beq_self_eq_true,if_true,g3,zd7,Rs.bind_ok,hix,Fl.of_ok,List.set_cons_succ,List.set_cons_zero,zf9]
  exact h1
 ·obtain ⟨q',s',h1,h2,h3⟩:=key (lo1 x[n]) (yj9 _ hxn).2
  simp only [qSt] at h1
  refine ⟨q',(n:Int) + 1,s',?_,h2,h3,by omega⟩
  have hb:(e2 == 0) = false:=by simpa using hz
  simp only [hb,Bool.false_eq_true,if_false,zc4,zf9]
  exact h1
theorem query_ok (ns:List Int) (a:Int) (x:List Nat) (most:Int) (h63:ns.length≤63) (h0:0≤a) (ha:a < 900000) (hm0:0≤most) (hm1:most < 50) (hx0:0 < x.length) (hx1:x.length≤100) (hx:∀ c∈x,c∈NS) :
  ∃ q:List Nat,(q.length:Int)≤most∧(∀ c∈q,c∈QS)∧zl7 [.scr ns,.int a,.str ⟨x.toArray⟩,.int most] = .ok (.str ⟨q.toArray⟩):=by
 have st:zg9 8 [D.scr ns,.int a,.str ⟨x.toArray⟩,.int most] = [some (.val (.scr ns)),some (.val (.int a)),some (.val (.str ⟨x.toArray⟩)),some (.val (.int most)),none,none,none,none]:=rfl
 have dl:=zq9 ns a (m:=most + 1) (by omega)
 have dk:=zq8 ns a (most + 1) h63 h0 (by omega) (by omega)
 generalize hN:drawZ ns a (most + 1) = N at *
 have r1:=zX8 (fs:=aCons (eCall za8 (aCons (eVar 0) (aCons (eVar 1) (aCons (eOp addD (eVar 3) (eC (.int 1))) aNil)))) aNil) (τ:=qSt ns a x most [] 0 none none) (j:=N)
  (by simp only [qSt,za9,zb5,zf4,eC_ap,zb6,zb9,List.getElem?_cons_zero,List.getElem?_cons_succ,zb2,Rs.bind_ok,zd3,dk,zd7]) (by omega) (by omega)
 obtain ⟨τ',l1,q,p,s1,s2,rfl,l2,l3,l4⟩:=zF2 (set:=gNm 6) (body:=qBody) (fun (k:Nat)=>D.int (0 + k)) (fun k τ=>∃ q p s1 s2,τ = qSt ns a x most q p s1 s2∧q.length≤k∧(∀ c∈q,c∈QS)∧0≤p) N.toNat (qSt ns a x most [] 0 none none)
  ⟨[],0,none,none,rfl,Nat.le_refl _,(fun _ h=>nomatch h),Int.le_refl _⟩ fun k τ hk z_=>by
   obtain ⟨q,p,s1,s2,e,h1,h2,h3⟩:=z_
   subst e
   obtain ⟨q',p',s',g1,g2,g3,g4⟩:=yc7 ns a x most q p k s2 h63 h0 ha (by omega) hx0 hx1 hx (by omega) h2 h3
   exact ⟨_,_,zg8,g1,q',p',_,s',rfl,by omega,g3,g4⟩
 refine ⟨q,by omega,l3,?_⟩
 have s0:qSt ns a x most [] 0 none none = [some (.val (.scr ns)),some (.val (.int a)),some (.val (.str ⟨x.toArray⟩)),some (.val (.int most)),some (.val (.str "")),some (.val (.int 0)),none,none]:=rfl
 unfold zl7 zC1
 rw [zg6,st,zc6,zd6,eC_ap,Fl.of_ok,zf9,zc6,zd6,eC_ap,Fl.of_ok,zf9,zc6,ze5]
 simp only [List.set_cons_succ,List.set_cons_zero]
 rw [← s0,r1,Fl.of_ok]
 unfold rngD
 have l1':loopD (gNm 6) qBody ((List.range N.toNat).map fun (k:Nat)=>D.int (0 + k)) (qSt ns a x most [] 0 none none) = .nx (qSt ns a x most q p s1 s2):=l1
 unfold qBody at l1'
 rw [l1',zf9]
 simp only [qSt,zc1,zb9,List.getElem?_cons_zero,List.getElem?_cons_succ,zb2,Fl.of_ok,zb8]
noncomputable def meetC (c d:Nat):Bool:=c == d || (decide (97≤c∧c≤122) && up1 c == d)
theorem small_l:("abcdefghijklmnopqrstuvwxyz" : Str).cps.toList = (List.range 26).map (· + 97):=by decide +kernel
theorem zu7 (c:Nat):decide (c∈("abcdefghijklmnopqrstuvwxyz" : Str).cps.toList) = decide (97≤c∧c≤122):=by
 rw [small_l]
 apply decide_eq_decide.mpr
 rw [List.mem_map]
 constructor
 ·rintro ⟨i,hi,rfl⟩
  have:=List.mem_range.mp hi
  omega
 ·intro h
  exact ⟨c - 97,List.mem_range.mpr (by omega),by omega⟩
theorem ye3 (c:Nat) (h:c < 128):Txt.upper (⟨#[c]⟩:Str) = ⟨#[up1 c]⟩:=by
 rw [upper_ascii (x:=⟨#[c]⟩) (by intro d hd;have e:d = c:=(by simpa using hd);omega)]
 simp
theorem zQ7 (c d:Nat):((⟨#[c]⟩:Str) == ⟨#[d]⟩) = (c == d):=by
 rw [Bool.eq_iff_iff]
 simp
theorem zM9 (c d:Nat) (hc:c < 128):zq1 [signD c,signD d] = .ok (.bl (meetC c d)):=by
 have st:zg9 2 [signD c,signD d] = [some (.val (signD c)),some (.val (signD d))]:=rfl
 have hup:upD (.str ⟨#[c]⟩) [] = .ok (.str ⟨#[up1 c]⟩):=by
  simp only [upD]
  rw [if_pos (by show 1≤5000000;decide),ye3 _ hc]
 unfold zq1 yo2
 rw [zg6,st]
 simp only [zc1,zh6,zf0,zf4,zb9,eC_ap,zf7,List.getElem?_cons_zero,List.getElem?_cons_succ,zb2,Rs.bind_ok,signD,eqD_s,zQ7,ze1,inD_s,zp5,zu7,isTy,decide_true,if_true,hup]
 unfold meetC
 by_cases h:c = d
 ·subst h;simp
 ·have hb:(c == d) = false:=by simpa using h
  simp only [hb,Bool.false_eq_true,if_false,Bool.false_or]
  by_cases h2:97≤c∧c≤122
  ·simp [h2]
  ·simp [h2]
end Law
set_option Elab.async false
set_option linter.all false
set_option maxHeartbeats 1000000
namespace FD
open PySem PySem.Spec PyProof.Rows L2
section
variable {τ:DS} {fa fb fe fi:FE} {fs:FA} {n:Nat} {i:Int}
theorem zc9:eLenO n τ = (getO τ[n]?).bind fun ds=>.ok (.int ds.length):=rfl
theorem ze8:sApp n fe τ = Fl.of (getO τ[n]?) fun ds=>Fl.of (fe τ) fun d=>if ds.length < sizeLine then .nx (τ.set n (some (.own (ds ++ [d])))) else .no:=rfl
theorem zf3:iAny fe τ = (fe τ).bind iterD:=rfl
@[simp] theorem zd5 {x:Str}:iterD (.str x) = .ok (zB4 x):=rfl
@[simp] theorem ze0 {ds:List D}:iterD (.lst ds) = .ok ds:=rfl
noncomputable def putAt (n:Nat) (ds:List D) (d:D) (τ:DS):D→Fl
 | .int k=>match ixN ds.length k with
  | some j=>.nx (τ.set n (some (.own (ds.set j d))))
  | none=>.no
 | _=>.no
theorem zg0:sPut n fi fe τ = Fl.of (fe τ) fun d=>Fl.of (getO τ[n]?) fun ds=>Fl.of (fi τ) (putAt n ds d τ):=by
 unfold sPut ownAt
 cases fe τ <;> rfl
theorem putAt_ok {ds:List D} {d:D} {j:Nat} (h:j < ds.length):putAt n ds d τ (.int j) = .nx (τ.set n (some (.own (ds.set j d)))):=by
 have:ixN ds.length (j:Int) = some j:=by
  unfold ixN
  rw [if_pos (by omega),if_pos (by omega)]
  simp
 simp only [putAt,this]
noncomputable def ixO (ds:List D):D→Rs D
 | .int k=>match atI ds k with
  | some d=>.ok d
  | none=>.no
 | _=>.no
theorem zg1:eIxO n fi τ = (getO τ[n]?).bind fun ds=>(fi τ).bind (ixO ds):=by
 unfold eIxO
 show (getO τ[n]?).bind _ = _
 cases getO τ[n]? <;> rfl
noncomputable def catD (x y:D):Rs (List D):=match lst2 x y with
 | some (i,j)=>if i.length + j.length≤sizeLine then .ok (i ++ j) else .no
 | none=>.no
theorem zg3:eCat fa fb τ = (fa τ).bind fun x=>(fb τ).bind fun y=>catD x y:=rfl
end
end FD
namespace Law
open PySem PySem.Spec PyProof.Rows L2 FD
noncomputable abbrev tx (x:List Nat):D:=.str ⟨x.toArray⟩
noncomputable abbrev nts (x:List Nat):D:=.lst (x.map fun (k:Nat)=>D.int k)
theorem zt5 (x:List Nat) (h:x.length≤1000):lenD [tx x] = .ok (.int x.length):=by
 rw [zZ5 (by rw [sizeLine_v];show x.toArray.size≤_;simp;omega)]
 show Rs.ok (D.int ((x.toArray.size:Nat):Int)) = _
 simp
theorem tx_ix (x:List Nat) (j:Nat) (c:Nat) (h:x[j]? = some c) (hl:x.length≤1000):ixD (tx x) (.int j) = .ok (signD c):=by
 refine zF6 (zJ7 (by omega) (by simpa using h)) (by rw [sizeLine_v];show x.toArray.size≤_;simp;omega)
theorem tx_signs (x:List Nat):zB4 ⟨x.toArray⟩ = x.map signD:=by simp [zB4]
noncomputable def epR:List Nat→List Nat→Nat→List Nat
 | [],_,_=>[]
 | _ :: _,[],_=>[]
 | a :: q,c :: x,k=>if meetC a c = true then k :: epR q x (k + 1) else epR (a :: q) x (k + 1)
noncomputable def subs:List Nat→List Nat→Bool
 | [],_=>true
 | _ :: _,[]=>false
 | a :: q,c :: x=>if meetC a c = true then subs q x else subs (a :: q) x
theorem zD3:∀ (q x:List Nat) (k:Nat),((epR q x k).length = q.length)↔subs q x = true
 | [],x,k=>by simp [epR,subs]
 | a :: q,[],k=>by simp [epR,subs]
 | a :: q,c :: x,k=>by
  simp only [epR,subs]
  split
  ·simpa using zD3 q x (k + 1)
  ·exact zD3 (a :: q) x (k + 1)
noncomputable abbrev its (x:List Int):D:=.lst (x.map D.int)
theorem yi8 (x:List Nat):nts x = its (x.map fun (k:Nat)=>(k:Int)):=by simp [nts,its]
noncomputable def risI (n:Int):Int→List Int→Bool
 | _,[]=>true
 | a,t :: r=>if t < a∨n≤t then false else risI n (t + 1) r
noncomputable def mt2 (x:List Nat):List Nat→List Int→List Bool
 | a :: q,t :: l=>meetC a (x.getD t.toNat 0) :: mt2 x q l
 | _,_=>[]
theorem yb5:∀ bs:List Bool,zt2 (bs.map D.bl) = some bs
 | []=>rfl
 | b :: r=>by simp only [List.map_cons,zt2,yb5 r];rfl
noncomputable def layI (q x:List Nat) (l:List Int):Bool:=(l.length == q.length) && (risI x.length 0 l && (mt2 x q l).all id)
theorem zq3 {set:FG} {fe:FE} {τ:DS} {α β:Type} (f:α→D) (g:β→D) (h:α→β):∀ (xs:List α),(∀ a∈xs,∃ τ1,set (f a) τ = .ok τ1∧fe τ1 = .ok (g (h a)))→compL set (fun _=>.ok true) fe τ (xs.map f) = .ok ((xs.map h).map g)
 | [],_=>rfl
 | a :: xs,hs=>by
  obtain ⟨τ1,h1,h2⟩:=hs a (List.mem_cons_self ..)
  rw [List.map_cons,compL,h1]
  simp only [h2,zq3 f g h xs fun b hb=>hs b (List.mem_cons_of_mem _ hb),Rs.bind_ok,List.map_cons]
end Law
set_option Elab.async false
set_option linter.all false
set_option maxHeartbeats 1000000
namespace FD
open PySem PySem.Spec PyProof.Rows L2
theorem zR5 (x:List Nat):(⟨x.toArray⟩:Str).length = x.length:=by show x.toArray.size = _;simp
theorem str_cat (a b:List Nat):(⟨a.toArray⟩:Str) ++ (⟨b.toArray⟩:Str) = ⟨(a ++ b).toArray⟩:=by
 show Str.mk _ = _
 simp
theorem zr0 {set:FG} {ft:FT} {fe:FE} {τ:DS} {α:Type} (f g:α→D) (p:α→Bool):∀ (xs:List α),(∀ a∈xs,∃ τ1,set (f a) τ = .ok τ1∧ft τ1 = .ok (p a)∧fe τ1 = .ok (g a))→compL set ft fe τ (xs.map f) = .ok ((xs.filter p).map g)
 | [],_=>rfl
 | a :: xs,hs=>by
  obtain ⟨τ1,h1,h2,h3⟩:=hs a (List.mem_cons_self ..)
  have ih:=zr0 f g p xs fun b hb=>hs b (List.mem_cons_of_mem _ hb)
  rw [List.map_cons,compL,h1]
  cases hp:p a
  ·rw [hp] at h2
   simp only [h2,ih,List.filter_cons,hp,Bool.false_eq_true,if_false]
  ·rw [hp] at h2
   simp only [h2,h3,ih,List.filter_cons,hp,if_true,Rs.bind_ok,List.map_cons]
end FD
namespace Law
open PySem PySem.Spec PyProof.Rows L2 FD
noncomputable def low (x:List Nat):List Nat:=x.map lo1
theorem f1:∀ a∈QS,∀ c∈NS,meetC (lo1 a) c = meetC (lo1 a) (lo1 c):=by decide
theorem f2:∀ a∈QS,∀ c∈NS,meetC a c = true→meetC (lo1 a) c = true:=by decide
theorem f3:∀ a∈QS,∀ c∈NS,meetC a c = true→lo1 c = lo1 a:=by decide
theorem f5:∀ c∈NS,c < 128∧lo1 c < 128:=by decide
theorem f6:∀ c∈QS,c < 128∧lo1 c < 128:=by decide
theorem ym6 (n:Int):∀ (q x:List Nat) (k:Nat) (a:Int),a≤k→(k:Int) + x.length≤n→risI n a ((epR q x k).map fun (t:Nat)=>(t:Int)) = true
 | [],x,k,a,_,_=>by simp [epR,risI]
 | _ :: _,[],k,a,_,_=>by simp [epR,risI]
 | b :: q,c :: x,k,a,h1,h2=>by
  simp only [List.length_cons] at h2
  simp only [epR]
  split
  ·simp only [List.map_cons,risI]
   rw [if_neg (by omega)]
   exact ym6 n q x (k + 1) _ (by omega) (by omega)
  ·exact ym6 n (b :: q) x (k + 1) a (by omega) (by omega)
theorem zT3 {x0 x:List Nat} {c k:Nat} (h:x0.drop k = c :: x):x0.drop (k + 1) = x∧x0.getD k 0 = c:=by
 have h1:x0[k]? = some c:=by
  have:=congrArg (fun l=>l[0]?) h
  simpa using this
 constructor
 ·rw [← List.drop_drop,h];rfl
 ·rw [List.getD_eq_getElem?_getD,h1];rfl
theorem ep_mt (x0:List Nat) (f:Nat→Nat):∀ (q x:List Nat) (k:Nat),x0.drop k = x→(∀ a∈q,∀ c∈x,meetC a c = true→meetC (f a) c = true)→(mt2 x0 (q.map f) ((epR q x k).map fun (t:Nat)=>(t:Int))).all id = true
 | [],x,k,_,_=>by simp [epR,mt2]
 | _ :: _,[],k,_,_=>by simp [epR,mt2]
 | b :: q,c :: x,k,h1,h2=>by
  obtain ⟨h3,h4⟩:=zT3 h1
  simp only [epR]
  split
  ·rename_i hm
   simp only [List.map_cons,mt2,Int.toNat_natCast,h4,h2 b (List.mem_cons_self ..) c (List.mem_cons_self ..) hm,List.all_cons,id,Bool.true_and]
   exact ep_mt x0 f q x (k + 1) h3 fun a ha d hd=>h2 a (List.mem_cons_of_mem _ ha) d (List.mem_cons_of_mem _ hd)
  ·exact ep_mt x0 f (b :: q) x (k + 1) h3 fun a ha d hd=>h2 a ha d (List.mem_cons_of_mem _ hd)
structure Lay (q x l:List Nat):Prop where
 len:l.length = q.length
 ris:∀ j,j + 1 < l.length→l.getD j 0 < l.getD (j + 1) 0
 inn:∀ j,j < l.length→l.getD j 0 < x.length
 met:∀ j,j < l.length→meetC (q.getD j 0) (x.getD (l.getD j 0) 0) = true
noncomputable abbrev toI (l:List Nat):List Int:=l.map fun (t:Nat)=>(t:Int)
theorem zU7 (n:Nat):∀ (l:List Nat) (a:Nat),risI n a (toI l) = true↔((∀ j,j + 1 < l.length→l.getD j 0 < l.getD (j + 1) 0)∧(∀ j,j < l.length→l.getD j 0 < n)∧(0 < l.length→a≤l.getD 0 0))
 | [],a=>by simp [risI]
 | t :: r,a=>by
  have ih:=zU7 n r (t + 1)
  simp only [List.map_cons,risI]
  constructor
  ·intro h
   split at h
   ·cases h
   ·rename_i g
    have e:((t:Int) + 1) = ((t + 1:Nat):Int):=by omega
    rw [e] at h
    obtain ⟨h1,h2,h3⟩:=ih.mp h
    refine ⟨fun j hj=>?_,fun j hj=>?_,fun _=>?_⟩
    ·cases j with
     | zero=>have:=h3 (by simpa using hj);exact Nat.lt_of_succ_le (by simpa using this)
     | succ j=>simpa using h1 j (by simpa using hj)
    ·cases j with
     | zero=>simp;omega
     | succ j=>simpa using h2 j (by simpa using hj)
    ·simp;omega
  ·rintro ⟨h1,h2,h3⟩
   have a1:=h2 0 (by simp)
   have a2:=h3 (by simp)
   simp only [List.getD_cons_zero] at a1 a2
   rw [if_neg (by omega)]
   have e:((t:Int) + 1) = ((t + 1:Nat):Int):=by omega
   rw [e]
   refine ih.mpr ⟨fun j hj=>?_,fun j hj=>?_,fun h0=>?_⟩
   ·simpa using h1 (j + 1) (by simpa using hj)
   ·simpa using h2 (j + 1) (by simpa using hj)
   ·exact Nat.succ_le_of_lt (by simpa using h1 0 (by simpa using h0))
theorem zV3 (x:List Nat):∀ (q l:List Nat),l.length = q.length→((mt2 x q (toI l)).all id = true↔∀ j,j < l.length→meetC (q.getD j 0) (x.getD (l.getD j 0) 0) = true)
 | [],[],_=>by simp [mt2]
 | [],_ :: _,h=>by simp at h
 | _ :: _,[],h=>by simp at h
 | a :: q,t :: l,h=>by
  have ih:=zV3 x q l (by simpa using h)
  simp only [List.map_cons,mt2,List.all_cons,id,Bool.and_eq_true,Int.toNat_natCast]
  rw [ih]
  constructor
  ·rintro ⟨h1,h2⟩ j hj
   cases j with
   | zero=>simpa using h1
   | succ j=>simpa using h2 j (by simpa using hj)
  ·intro h1
   exact ⟨by simpa using h1 0 (by simp),fun j hj=>by simpa using h1 (j + 1) (by simpa using hj)⟩
theorem lay_iff (q x l:List Nat):layI q x (toI l) = true↔Lay q x l:=by
 unfold layI
 simp only [Bool.and_eq_true,beq_iff_eq,List.length_map]
 constructor
 ·rintro ⟨h1,h2,h3⟩
  obtain ⟨a,b,_⟩:=(zU7 x.length l 0).mp h2
  exact ⟨h1,a,b,(zV3 x q l h1).mp h3⟩
 ·intro h
  exact ⟨h.len,(zU7 x.length l 0).mpr ⟨h.ris,h.inn,fun _=>Nat.zero_le _⟩,(zV3 x q l h.len).mpr h.met⟩
theorem zv4 (l:List Nat) (m j:Nat) (h:j < m):(l.take m).getD j 0 = l.getD j 0:=by
 simp [List.getD_eq_getElem?_getD,List.getElem?_take,h]
theorem Lay.take {q x l:List Nat} (h:Lay q x l) (m:Nat):Lay (q.take m) x (l.take m):=by
 refine ⟨by simp [h.len],fun j hj=>?_,fun j hj=>?_,fun j hj=>?_⟩
 ·rw [List.length_take] at hj
  rw [zv4 _ _ _ (by omega),zv4 _ _ _ (by omega)]
  exact h.ris j (by omega)
 ·rw [List.length_take] at hj
  rw [zv4 _ _ _ (by omega)]
  exact h.inn j (by omega)
 ·rw [List.length_take] at hj
  rw [zv4 _ _ _ (by omega),zv4 _ _ _ (by omega)]
  exact h.met j (by omega)
noncomputable def begP (x:List Nat) (p:Nat):Int:=if p = 0 then 8 else if x.getD (p - 1) 0∈MK then 6 else if (65≤x.getD p 0∧x.getD p 0≤90)∧((97≤x.getD (p - 1) 0∧x.getD (p - 1) 0≤122)∨(48≤x.getD (p - 1) 0∧x.getD (p - 1) 0≤57)) then 5 else 0
noncomputable def ownP (a:Nat) (x:List Nat) (p:Nat):Int:=10 + begP x p + (if x.getD p 0 = a then 1 else 0)
noncomputable def leadP (p:Nat):Int:=-(if (p:Int) < 3 then (p:Int) else 3)
noncomputable def linkP (r p:Nat):Int:=if (p:Int) - r - 1 = 0 then 7 else -(if (p:Int) - r - 1 < 5 then (p:Int) - r - 1 else 5)
noncomputable def trm (q x l:List Nat) (j:Nat):Int:=ownP (q.getD j 0) x (l.getD j 0) + (if j = 0 then leadP (l.getD 0 0) else linkP (l.getD (j - 1) 0) (l.getD j 0))
noncomputable def pts (q x l:List Nat):Nat→Int
 | 0=>0
 | n + 1=>pts q x l n + trm q x l n
noncomputable abbrev Tl:=Int×List Nat
noncomputable def fmost:List Tl→Option Tl→Option Tl
 | [],c=>c
 | t :: r,none=>fmost r (some t)
 | t :: r,some c=>fmost r (some (if c.1 < t.1 then t else c))
noncomputable def lastT (a:Nat) (x:List Nat):List Tl:=((List.range x.length).filter fun p=>meetC a (x.getD p 0)).map fun p=>(ownP a x p,[p])
noncomputable def linkT (p:Nat) (ts:List Tl):List Tl:=(ts.filter fun t=>decide (p < t.2.getD 0 0)).map fun t=>(t.1 + linkP p (t.2.getD 0 0),t.2)
noncomputable def longF (a:Nat) (x:List Nat) (ts:List Tl) (p:Nat):Option Tl:=if meetC a (x.getD p 0) = true then (fmost (linkT p ts) none).map fun t=>(ownP a x p + t.1,p :: t.2) else none
noncomputable def longT (a:Nat) (x:List Nat) (ts:List Tl):List Tl:=(List.range x.length).filterMap (longF a x ts)
noncomputable def zh7:List Nat→List Nat→List Tl
 | [],_=>[]
 | [a],x=>lastT a x
 | a :: b :: q,x=>longT a x (zh7 (b :: q) x)
noncomputable def leadT (t:Tl):Tl:=(t.1 + leadP (t.2.getD 0 0),t.2)
noncomputable def bestR (q x:List Nat):Option Tl:=fmost ((zh7 q x).map leadT) none
theorem zs6:∀ (ts:List Tl) (c:Option Tl) (t:Tl),fmost ts c = some t→t∈ts∨c = some t
 | [],c,t,h=>.inr h
 | u :: r,none,t,h=>by
  rcases zs6 r (some u) t h with h | h
  ·exact .inl (List.mem_cons_of_mem _ h)
  ·cases h;exact .inl (List.mem_cons_self ..)
 | u :: r,some c,t,h=>by
  rcases zs6 r _ t h with h | h
  ·exact .inl (List.mem_cons_of_mem _ h)
  ·by_cases g:c.1 < u.1
   ·rw [if_pos g] at h;cases h;exact .inl (List.mem_cons_self ..)
   ·rw [if_neg g] at h;exact .inr h
theorem zI8:∀ (ts:List Tl) (c:Tl),∃ t,fmost ts (some c) = some t
 | [],c=>⟨c,rfl⟩
 | u :: r,c=>zI8 r _
theorem zN6 (ts:List Tl) (h:ts≠[]):∃ t,fmost ts none = some t∧t∈ts:=by
 cases ts with
 | nil=>exact absurd rfl h
 | cons u r=>
  obtain ⟨t,e⟩:=zI8 r u
  refine ⟨t,e,?_⟩
  rcases zs6 (u :: r) none t e with g | g
  ·exact g
  ·cases g
noncomputable def sm (f:Nat→Int):Nat→Int
 | 0=>0
 | n + 1=>sm f n + f n
theorem zU2 (f:Nat→Int):∀ n,sm f (n + 1) = f 0 + sm (fun j=>f (j + 1)) n
 | 0=>by simp [sm]
 | n + 1=>by rw [sm,zU2 f n,sm];omega
theorem pts_sm (q x l:List Nat):∀ n,pts q x l n = sm (trm q x l) n
 | 0=>rfl
 | n + 1=>by rw [pts,sm,pts_sm q x l n]
noncomputable def trk (x:List Nat) (r:Nat) (q l:List Nat) (j:Nat):Int:=ownP (q.getD j 0) x (l.getD j 0) + linkP (if j = 0 then r else l.getD (j - 1) 0) (l.getD j 0)
theorem trm_cons (a p:Nat) (q x l:List Nat) (j:Nat):trm (a :: q) x (p :: l) (j + 1) = trk x p q l j:=by
 simp only [trm,trk,List.getD_cons_succ,Nat.succ_ne_zero,if_false,Nat.add_sub_cancel]
 cases j with
 | zero=>rw [if_pos rfl,List.getD_cons_zero]
 | succ j=>rw [if_neg (Nat.succ_ne_zero j),List.getD_cons_succ,Nat.add_sub_cancel]
theorem trk_cons (a p r:Nat) (q x l:List Nat) (j:Nat):trk x r (a :: q) (p :: l) (j + 1) = trk x p q l j:=by
 simp only [trk,List.getD_cons_succ,Nat.succ_ne_zero,if_false,Nat.add_sub_cancel]
 cases j with
 | zero=>rw [if_pos rfl,List.getD_cons_zero]
 | succ j=>rw [if_neg (Nat.succ_ne_zero j),List.getD_cons_succ,Nat.add_sub_cancel]
noncomputable def tailP (x:List Nat):List Nat→List Nat→Int
 | a :: q,p :: l=>ownP a x p + sm (trk x p q l) l.length
 | _,_=>0
theorem zW9 (a p:Nat) (q x l:List Nat):tailP x (a :: q) (p :: l) + leadP p = pts (a :: q) x (p :: l) (l.length + 1):=by
 rw [pts_sm,zU2,funext (trm_cons a p q x l)]
 simp only [tailP,trm,if_true,List.getD_cons_zero]
 omega
theorem zO9 (a b p r:Nat) (q x l:List Nat):tailP x (a :: b :: q) (p :: r :: l) = ownP a x p + linkP p r + tailP x (b :: q) (r :: l):=by
 simp only [tailP,List.length_cons]
 rw [zU2,funext (trk_cons b r p q x l)]
 simp only [trk,if_true,List.getD_cons_zero]
 omega
theorem Lay.one {a p:Nat} {x:List Nat} (h1:p < x.length) (h2:meetC a (x.getD p 0) = true):Lay [a] x [p]:=
 ⟨rfl,fun j hj=>by simp at hj,fun j hj=>(by have:j = 0:=(by simpa using hj);subst this;exact h1),fun j hj=>(by have:j = 0:=(by simpa using hj);subst this;exact h2)⟩
theorem Lay.cons {a p:Nat} {q x l:List Nat} (h:Lay q x l) (h1:p < x.length) (h2:meetC a (x.getD p 0) = true) (h3:0 < l.length→p < l.getD 0 0):Lay (a :: q) x (p :: l):=by
 refine ⟨by simp [h.len],fun j hj=>?_,fun j hj=>?_,fun j hj=>?_⟩
 ·cases j with
  | zero=>simpa using h3 (by simpa using hj)
  | succ j=>simpa using h.ris j (by simpa using hj)
 ·cases j with
  | zero=>simpa using h1
  | succ j=>simpa using h.inn j (by simpa using hj)
 ·cases j with
  | zero=>exact h2
  | succ j=>simpa using h.met j (by simpa using hj)
theorem Lay.tail {a p:Nat} {q x l:List Nat} (h:Lay (a :: q) x (p :: l)):Lay q x l∧p < x.length∧meetC a (x.getD p 0) = true∧(0 < l.length→p < l.getD 0 0):=by
 refine ⟨⟨by simpa using h.len,fun j hj=>?_,fun j hj=>?_,fun j hj=>?_⟩,by simpa using h.inn 0 (by simp),by simpa using h.met 0 (by simp),fun h0=>by simpa using h.ris 0 (by simpa using h0)⟩
 ·simpa using h.ris (j + 1) (by simpa using hj)
 ·simpa using h.inn (j + 1) (by simpa using hj)
 ·simpa using h.met (j + 1) (by simpa using hj)
theorem zu0 (x:List Nat):∀ (q:List Nat) (t:Tl),t∈zh7 q x→Lay q x t.2∧t.1 = tailP x q t.2
 | [],t,h=>by simp [zh7] at h
 | [a],t,h=>by
  simp only [zh7,lastT,List.mem_map,List.mem_filter,List.mem_range] at h
  obtain ⟨p,⟨h1,h2⟩,rfl⟩:=h
  exact ⟨Lay.one h1 h2,by simp [tailP,sm]⟩
 | a :: b :: q,t,h=>by
  simp only [zh7,longT,List.mem_filterMap,List.mem_range] at h
  obtain ⟨p,h1,h2⟩:=h
  unfold longF at h2
  split at h2
  ·rename_i hm
   cases e:fmost (linkT p (zh7 (b :: q) x)) none with
   | none=>rw [e] at h2;cases h2
   | some u=>
    rw [e] at h2
    have h2:some (ownP a x p + u.1,p :: u.2) = some t:=h2
    cases h2
    rcases zs6 _ _ _ e with g | g
    ·simp only [linkT,List.mem_map,List.mem_filter,decide_eq_true_eq] at g
     obtain ⟨v,⟨g1,g2⟩,rfl⟩:=g
     obtain ⟨k1,k2⟩:=zu0 x (b :: q) v g1
     refine ⟨k1.cons h1 hm fun _=>g2,?_⟩
     have hl:=k1.len
     cases e2:v.2 with
     | nil=>rw [e2] at hl;simp at hl
     | cons r l=>
      rw [e2] at k2
      simp only [e2,List.getD_cons_zero]
      rw [zO9,k2]
      omega
    ·cases g
  ·cases h2
theorem zy2 (x:List Nat):∀ (q l:List Nat),q≠[]→Lay q x l→∃ t∈zh7 q x,t.2.getD 0 0 = l.getD 0 0
 | [],_,h,_=>absurd rfl h
 | [a],l,_,h=>by
  cases l with
  | nil=>have:=h.len;simp at this
  | cons p l=>
   obtain ⟨_,h1,h2,_⟩:=h.tail
   refine ⟨(ownP a x p,[p]),?_,rfl⟩
   simp only [zh7,lastT,List.mem_map,List.mem_filter,List.mem_range]
   exact ⟨p,⟨h1,h2⟩,rfl⟩
 | a :: b :: q,l,_,h=>by
  cases l with
  | nil=>have:=h.len;simp at this
  | cons p l=>
   obtain ⟨h0,h1,h2,h3⟩:=h.tail
   obtain ⟨u,u1,u2⟩:=zy2 x (b :: q) l (by simp) h0
   have hl:0 < l.length:=by rw [h0.len];simp
   have mem:(u.1 + linkP p (u.2.getD 0 0),u.2)∈linkT p (zh7 (b :: q) x):=by
    simp only [linkT,List.mem_map,List.mem_filter,decide_eq_true_eq]
    exact ⟨u,⟨u1,by rw [u2];exact h3 hl⟩,rfl⟩
   obtain ⟨t,e,_⟩:=zN6 _ (List.ne_nil_of_mem mem)
   refine ⟨(ownP a x p + t.1,p :: t.2),?_,rfl⟩
   simp only [zh7,longT,List.mem_filterMap,List.mem_range]
   refine ⟨p,h1,?_⟩
   unfold longF
   rw [if_pos h2,e]
   rfl
theorem zA9 (q x:List Nat) (hq:q≠[]) (v:Int) (l:List Nat) (h:bestR q x = some (v,l)):Lay q x l∧v = pts q x l q.length:=by
 unfold bestR at h
 rcases zs6 _ _ _ h with g | g
 ·obtain ⟨t,g1,g2⟩:=List.mem_map.mp g
  obtain ⟨k1,k2⟩:=zu0 x q t g1
  simp only [leadT,Prod.mk.injEq] at g2
  obtain ⟨rfl,rfl⟩:=g2
  refine ⟨k1,?_⟩
  cases q with
  | nil=>exact absurd rfl hq
  | cons a q=>
   have hl:=k1.len
   cases e2:t.2 with
   | nil=>rw [e2] at hl;simp at hl
   | cons p l=>
    rw [e2] at k2 hl
    simp only [List.length_cons] at hl ⊢
    have:q.length = l.length:=by omega
    rw [this,← zW9,k2,List.getD_cons_zero]
 ·cases g
theorem yo0 (q x l:List Nat) (hq:q≠[]) (h:Lay q x l):∃ v l',bestR q x = some (v,l')∧Lay q x l'∧v = pts q x l' q.length:=by
 obtain ⟨t,t1,_⟩:=zy2 x q l hq h
 obtain ⟨⟨v,l'⟩,e,_⟩:=zN6 ((zh7 q x).map leadT) (List.ne_nil_of_mem (List.mem_map_of_mem t1))
 exact ⟨v,l',e,zA9 q x hq v l' e⟩
theorem zS4 (q x:List Nat) (h:subs q x = true):Lay q x (epR q x 0):=by
 have h1:=(zD3 q x 0).mpr h
 have h2:=ym6 x.length q x 0 0 (Int.le_refl _) (by omega)
 have h3:=ep_mt x id q x 0 rfl fun a _ c _ hm=>hm
 rw [List.map_id] at h3
 refine (lay_iff q x _).mp ?_
 unfold layI
 rw [h2,h3]
 simp [h1]
theorem zz6 (l:List Nat) (j:Nat) (h:j < l.length):(l.map (· - 1)).getD j 0 = l.getD j 0 - 1:=by
 simp [List.getD_eq_getElem?_getD,List.getElem?_map,List.getElem?_eq_getElem h]
theorem Lay.back {q x l:List Nat} {c:Nat} (h:Lay q (c :: x) l) (h0:∀ j,j < l.length→0 < l.getD j 0):Lay q x (l.map (· - 1)):=by
 refine ⟨by simp [h.len],fun j hj=>?_,fun j hj=>?_,fun j hj=>?_⟩ <;> rw [List.length_map] at hj
 ·rw [zz6 _ _ (by omega),zz6 _ _ hj]
  have:=h.ris j hj;have:=h0 j (by omega);omega
 ·rw [zz6 _ _ hj]
  have:=h.inn j hj;have:=h0 j hj;simp only [List.length_cons] at *;omega
 ·rw [zz6 _ _ hj]
  have a:=h.met j hj;have b:=h0 j hj
  obtain ⟨k,hk⟩:∃ k,l.getD j 0 = k + 1:=⟨l.getD j 0 - 1,by omega⟩
  rw [hk,List.getD_cons_succ] at a
  rw [hk];exact a
theorem Lay.low {q x l:List Nat} (h:Lay q x l) (h0:0 < l.getD 0 0):∀ j,j < l.length→0 < l.getD j 0:=fun j=>by
 induction j with
 | zero=>exact fun _=>h0
 | succ j ih=>intro hj;have:=h.ris j hj;omega
theorem zD0:∀ (x q l:List Nat),Lay q x l→subs q x = true
 | [],q,l,h=>by
  cases q with
  | nil=>rfl
  | cons a q=>
   have:=h.inn 0 (by rw [h.len];simp)
   simp at this
 | c :: x,q,l,h=>by
  cases q with
  | nil=>rfl
  | cons a q=>
   cases l with
   | nil=>have:=h.len;simp at this
   | cons p l=>
    simp only [subs]
    split
    ·obtain ⟨h1,_,_,h3⟩:=h.tail
     refine zD0 x q (l.map (· - 1)) (h1.back fun j hj=>?_)
     have h4:=h3 (by omega)
     exact h1.low (by omega) j hj
    ·rename_i hm
     refine zD0 x (a :: q) ((p :: l).map (· - 1)) (h.back (h.low ?_))
     rcases Nat.eq_zero_or_pos p with z | z
     ·subst z
      have:=h.met 0 (by simp)
      simp only [List.getD_cons_zero] at this
      exact absurd this hm
     ·simpa using z
end Law
set_option Elab.async false
set_option linter.all false
set_option maxHeartbeats 1000000
namespace FD
open PySem PySem.Spec PyProof.Rows L2
noncomputable def negI:D→Rs D
 | .int i=>.ok (.int (-i))
 | _=>.no
@[simp] theorem negI_i {i:Int}:negI (.int i) = .ok (.int (-i)):=rfl
theorem zO1 {fa:FE} {τ:DS}:eNeg fa τ = (fa τ).bind negI:=by
 unfold eNeg
 show (fa τ).bind _ = _
 cases fa τ with
 | ok d=>cases d <;> rfl
 | _=>rfl
theorem zZ1 (i j:Int):min2D [.int i,.int j] = .ok (.int (if j < i then j else i)):=rfl
end FD
namespace Law
open PySem PySem.Spec PyProof.Rows L2 FD
noncomputable abbrev tlD (t:Tl):D:=.tup [.int t.1,nts t.2]
noncomputable def optD:Option Tl→D
 | none=>.non
 | some t=>tlD t
theorem tl_0 (t:Tl):ixD (tlD t) (.int 0) = .ok (.int t.1):=rfl
theorem tl_1 (t:Tl):ixD (tlD t) (.int 1) = .ok (nts t.2):=rfl
theorem nts_ix (l:List Nat) (j:Nat) (h:j < l.length):ixD (nts l) (.int (j:Int)) = .ok (.int (l.getD j 0:Nat)):=by
 refine zV6 (zJ7 (by omega) ?_)
 simp [List.getD_eq_getElem?_getD,List.getElem?_eq_getElem h]
theorem zV2 (l:List Nat) (h:0 < l.length):ixD (nts l) (.int 0) = .ok (.int (l.getD 0 0:Nat)):=nts_ix l 0 h
theorem zz5 (x:List Nat) (j:Nat) (h:j < x.length):x[j]? = some (x.getD j 0):=by
 rw [List.getD_eq_getElem?_getD,List.getElem?_eq_getElem h];rfl
theorem tx_at (x:List Nat) (j:Nat) (h:j < x.length) (hx:x.length≤1000):ixD (tx x) (.int (j:Int)) = .ok (signD (x.getD j 0)):=tx_ix x j _ (zz5 x j h) hx
theorem great_l:("ABCDEFGHIJKLMNOPQRSTUVWXYZ" : Str).cps.toList = (List.range 26).map (· + 65):=by decide +kernel
theorem figs_l:("0123456789" : Str).cps.toList = (List.range 10).map (· + 48):=by decide +kernel
theorem zK5 (c n a:Nat):decide (c∈(List.range (n + 1)).map (· + a)) = decide (a≤c∧c≤n + a):=by
 apply decide_eq_decide.mpr
 rw [List.mem_map]
 constructor
 ·rintro ⟨i,hi,rfl⟩
  have:=List.mem_range.mp hi
  omega
 ·intro h
  exact ⟨c - a,List.mem_range.mpr (by omega),by omega⟩
theorem zv3 (c:Nat):decide (c∈("ABCDEFGHIJKLMNOPQRSTUVWXYZ" : Str).cps.toList) = decide (65≤c∧c≤90):=by
 rw [great_l];exact zK5 c 25 65
theorem zN7 (c:Nat):decide (c∈("0123456789" : Str).cps.toList) = decide (48≤c∧c≤57):=by
 rw [figs_l];exact zK5 c 9 48
theorem beg_ok (x:List Nat) (p:Nat) (hx:x.length≤1000) (hp:p < x.length):zj4 [tx x,.int (p:Int)] = .ok (.int (begP x p)):=by
 have st:zg9 3 [tx x,.int (p:Int)] = [some (.val (tx x)),some (.val (.int (p:Int))),none]:=rfl
 unfold zj4 zt1
 rw [zg6,st]
 cases p with
 | zero=>
  simp only [zc6,zd6,zc7,zh0,zc1,zd0,zc8,zc4,ze5,ze8,zg0,zg1,zg3,zc9,zf3,zd5,ze0,tB_ap,ze3,ze9,zi0,zf5,zf4,zb9,eC_ap,zb5,za9,zb6,zd4,zi3,zf0,zh6,zg2,zf7,zi2,zi1,zd9,zd1,zb1,List.getElem?_cons_zero,List.getElem?_cons_succ,List.set_cons_succ,List.set_cons_zero,zb2,zc5,Rs.bind_ok,Fl.of_ok,zf9,zi5,zb8,zd7,zb7,ze1,zd3,zg5,ltI_i,leD_i,gtD_i,geD_i,eqD_i,eqD_s,neD_i,neD_s,zd2,zg8,if_true,Bool.false_eq_true,if_false,Bool.not_true,Bool.not_false,show ((((0:Nat):Int)) == 0) = true from rfl]
  rfl
 | succ k=>
  have e0:(((k + 1:Nat):Int) == 0) = false:=by simp;omega
  have e1:((k + 1:Nat):Int) - 1 = (k:Int):=by omega
  have hk:=tx_at x k (by omega) hx
  have hk1:=tx_at x (k + 1) hp hx
  have hb:begP x (k + 1) = if x.getD k 0∈MK then 6 else if (65≤x.getD (k + 1) 0∧x.getD (k + 1) 0≤90)∧((97≤x.getD k 0∧x.getD k 0≤122)∨(48≤x.getD k 0∧x.getD k 0≤57)) then 5 else 0:=by
   unfold begP;rw [if_neg (Nat.succ_ne_zero k)];rfl
  rw [hb]
  generalize x.getD k 0 = c at *
  generalize x.getD (k + 1) 0 = d at *
  simp only [signD] at hk hk1
  by_cases h1:c∈MK
  ·simp only [zc6,zd6,zc7,zh0,zc1,zd0,zc8,zc4,ze5,ze8,zg0,zg1,zg3,zc9,zf3,zd5,ze0,tB_ap,ze3,ze9,zi0,zf5,zf4,zb9,eC_ap,zb5,za9,zb6,zd4,zi3,zf0,zh6,zg2,zf7,zi2,zi1,zd9,zd1,zb1,List.getElem?_cons_zero,List.getElem?_cons_succ,List.set_cons_succ,List.set_cons_zero,zb2,zc5,Rs.bind_ok,Fl.of_ok,zf9,zi5,zb8,zd7,zb7,ze1,zd3,zg5,ltI_i,leD_i,gtD_i,geD_i,eqD_i,eqD_s,neD_i,neD_s,zd2,zg8,if_true,Bool.false_eq_true,if_false,Bool.not_true,Bool.not_false,e0,e1,hk,inD_s,zp5,mk_l,h1,decide_true]
  ·by_cases h2:65≤d∧d≤90
   ·by_cases h3:97≤c∧c≤122
    ·have h4:(65≤d∧d≤90)∧((97≤c∧c≤122)∨(48≤c∧c≤57)):=⟨h2,.inl h3⟩
     rw [if_neg h1,if_pos h4]
     simp only [zc6,zd6,zc7,zh0,zc1,zd0,zc8,zc4,ze5,ze8,zg0,zg1,zg3,zc9,zf3,zd5,ze0,tB_ap,ze3,ze9,zi0,zf5,zf4,zb9,eC_ap,zb5,za9,zb6,zd4,zi3,zf0,zh6,zg2,zf7,zi2,zi1,zd9,zd1,zb1,List.getElem?_cons_zero,List.getElem?_cons_succ,List.set_cons_succ,List.set_cons_zero,zb2,zc5,Rs.bind_ok,Fl.of_ok,zf9,zi5,zb8,zd7,zb7,ze1,zd3,zg5,ltI_i,leD_i,gtD_i,geD_i,eqD_i,eqD_s,neD_i,neD_s,zd2,zg8,if_true,Bool.false_eq_true,if_false,Bool.not_true,Bool.not_false,e0,e1,hk,hk1,inD_s,zp5,mk_l,h1,decide_false,zv3,zu7,zN7,h2,h3,and_self,decide_true]
    ·by_cases h5:48≤c∧c≤57
     ·have h4:(65≤d∧d≤90)∧((97≤c∧c≤122)∨(48≤c∧c≤57)):=⟨h2,.inr h5⟩
      rw [if_neg h1,if_pos h4]
      simp only [zc6,zd6,zc7,zh0,zc1,zd0,zc8,zc4,ze5,ze8,zg0,zg1,zg3,zc9,zf3,zd5,ze0,tB_ap,ze3,ze9,zi0,zf5,zf4,zb9,eC_ap,zb5,za9,zb6,zd4,zi3,zf0,zh6,zg2,zf7,zi2,zi1,zd9,zd1,zb1,List.getElem?_cons_zero,List.getElem?_cons_succ,List.set_cons_succ,List.set_cons_zero,zb2,zc5,Rs.bind_ok,Fl.of_ok,zf9,zi5,zb8,zd7,zb7,ze1,zd3,zg5,ltI_i,leD_i,gtD_i,geD_i,eqD_i,eqD_s,neD_i,neD_s,zd2,zg8,if_true,Bool.false_eq_true,if_false,Bool.not_true,Bool.not_false,e0,e1,hk,hk1,inD_s,zp5,mk_l,h1,decide_false,zv3,zu7,zN7,decide_eq_true h2,decide_eq_false h3,decide_eq_true h5]
     ·have h4:¬ ((65≤d∧d≤90)∧((97≤c∧c≤122)∨(48≤c∧c≤57))):=fun h=>by rcases h.2 with h | h;exact h3 h;exact h5 h
      rw [if_neg h1,if_neg h4]
      simp only [zc6,zd6,zc7,zh0,zc1,zd0,zc8,zc4,ze5,ze8,zg0,zg1,zg3,zc9,zf3,zd5,ze0,tB_ap,ze3,ze9,zi0,zf5,zf4,zb9,eC_ap,zb5,za9,zb6,zd4,zi3,zf0,zh6,zg2,zf7,zi2,zi1,zd9,zd1,zb1,List.getElem?_cons_zero,List.getElem?_cons_succ,List.set_cons_succ,List.set_cons_zero,zb2,zc5,Rs.bind_ok,Fl.of_ok,zf9,zi5,zb8,zd7,zb7,ze1,zd3,zg5,ltI_i,leD_i,gtD_i,geD_i,eqD_i,eqD_s,neD_i,neD_s,zd2,zg8,if_true,Bool.false_eq_true,if_false,Bool.not_true,Bool.not_false,e0,e1,hk,hk1,inD_s,zp5,mk_l,h1,decide_false,zv3,zu7,zN7,decide_eq_true h2,decide_eq_false h3,decide_eq_false h5]
   ·have h4:¬ ((65≤d∧d≤90)∧((97≤c∧c≤122)∨(48≤c∧c≤57))):=fun h=>h2 h.1
    rw [if_neg h1,if_neg h4]
    simp only [zc6,zd6,zc7,zh0,zc1,zd0,zc8,zc4,ze5,ze8,zg0,zg1,zg3,zc9,zf3,zd5,ze0,tB_ap,ze3,ze9,zi0,zf5,zf4,zb9,eC_ap,zb5,za9,zb6,zd4,zi3,zf0,zh6,zg2,zf7,zi2,zi1,zd9,zd1,zb1,List.getElem?_cons_zero,List.getElem?_cons_succ,List.set_cons_succ,List.set_cons_zero,zb2,zc5,Rs.bind_ok,Fl.of_ok,zf9,zi5,zb8,zd7,zb7,ze1,zd3,zg5,ltI_i,leD_i,gtD_i,geD_i,eqD_i,eqD_s,neD_i,neD_s,zd2,zg8,if_true,Bool.false_eq_true,if_false,Bool.not_true,Bool.not_false,e0,e1,hk,hk1,inD_s,zp5,mk_l,h1,decide_false,zv3,decide_eq_false h2]
theorem own_ok (a:Nat) (x:List Nat) (p:Nat) (hx:x.length≤1000) (hp:p < x.length):zj2 [signD a,tx x,.int (p:Int)] = .ok (.int (ownP a x p)):=by
 have st:zg9 4 [signD a,tx x,.int (p:Int)] = [some (.val (signD a)),some (.val (tx x)),some (.val (.int (p:Int))),none]:=rfl
 have hk:=tx_at x p hp hx
 have hb:=beg_ok x p hx hp
 unfold zj2 zC0 ownP
 rw [zg6,st]
 simp only [signD] at hk ⊢
 by_cases h:x.getD p 0 = a
 ·have h':(x.getD p 0 == a) = true:=by simpa using h
  rw [if_pos h]
  simp only [zc6,zd6,zc7,zh0,zc1,zd0,zc8,zc4,ze5,ze8,zg0,zg1,zg3,zc9,zf3,zd5,ze0,tB_ap,ze3,ze9,zi0,zf5,zf4,zb9,eC_ap,zb5,za9,zb6,zd4,zi3,zf0,zh6,zg2,zf7,zi2,zi1,zd9,zd1,zb1,List.getElem?_cons_zero,List.getElem?_cons_succ,List.set_cons_succ,List.set_cons_zero,zb2,zc5,Rs.bind_ok,Fl.of_ok,zf9,zi5,zb8,zd7,zb7,ze1,zd3,zg5,ltI_i,leD_i,gtD_i,geD_i,eqD_i,eqD_s,neD_i,neD_s,zd2,zg8,if_true,Bool.false_eq_true,if_false,Bool.not_true,Bool.not_false,hk,zQ7,h',hb]
 ·have h':(x.getD p 0 == a) = false:=by simpa using h
  rw [if_neg h]
  simp only [zc6,zd6,zc7,zh0,zc1,zd0,zc8,zc4,ze5,ze8,zg0,zg1,zg3,zc9,zf3,zd5,ze0,tB_ap,ze3,ze9,zi0,zf5,zf4,zb9,eC_ap,zb5,za9,zb6,zd4,zi3,zf0,zh6,zg2,zf7,zi2,zi1,zd9,zd1,zb1,List.getElem?_cons_zero,List.getElem?_cons_succ,List.set_cons_succ,List.set_cons_zero,zb2,zc5,Rs.bind_ok,Fl.of_ok,zf9,zi5,zb8,zd7,zb7,ze1,zd3,zg5,ltI_i,leD_i,gtD_i,geD_i,eqD_i,eqD_s,neD_i,neD_s,zd2,zg8,if_true,Bool.false_eq_true,if_false,Bool.not_true,Bool.not_false,hk,zQ7,h',hb]
theorem lead_ok (p:Nat):zk7 [.int (p:Int)] = .ok (.int (leadP p)):=by
 have st:zg9 1 [.int (p:Int)] = [some (.val (.int (p:Int)))]:=rfl
 unfold zk7 zA0 leadP
 rw [zg6,st]
 simp only [zc6,zd6,zc7,zh0,zc1,zd0,zc8,zc4,ze5,ze8,zg0,zg1,zg3,zc9,zf3,zd5,ze0,tB_ap,ze3,ze9,zi0,zf5,zf4,zb9,eC_ap,zb5,za9,zb6,zd4,zi3,zf0,zh6,zg2,zf7,zi2,zi1,zd9,zd1,zb1,List.getElem?_cons_zero,List.getElem?_cons_succ,List.set_cons_succ,List.set_cons_zero,zb2,zc5,Rs.bind_ok,Fl.of_ok,zf9,zi5,zb8,zd7,zb7,ze1,zd3,zg5,ltI_i,leD_i,gtD_i,geD_i,eqD_i,eqD_s,neD_i,neD_s,zd2,zg8,if_true,Bool.false_eq_true,if_false,Bool.not_true,Bool.not_false,zZ1,zO1,negI_i]
 congr 3
 split <;> split <;> omega
theorem link_ok (r p:Nat):zm4 [.int (r:Int),.int (p:Int)] = .ok (.int (linkP r p)):=by
 have st:zg9 3 [.int (r:Int),.int (p:Int)] = [some (.val (.int (r:Int))),some (.val (.int (p:Int))),none]:=rfl
 unfold zm4 zz9 linkP
 rw [zg6,st]
 by_cases h:(p:Int) - r - 1 = 0
 ·have h':((p:Int) - r - 1 == 0) = true:=by simpa using h
  rw [if_pos h]
  simp only [zc6,zd6,zc7,zh0,zc1,zd0,zc8,zc4,ze5,ze8,zg0,zg1,zg3,zc9,zf3,zd5,ze0,tB_ap,ze3,ze9,zi0,zf5,zf4,zb9,eC_ap,zb5,za9,zb6,zd4,zi3,zf0,zh6,zg2,zf7,zi2,zi1,zd9,zd1,zb1,List.getElem?_cons_zero,List.getElem?_cons_succ,List.set_cons_succ,List.set_cons_zero,zb2,zc5,Rs.bind_ok,Fl.of_ok,zf9,zi5,zb8,zd7,zb7,ze1,zd3,zg5,ltI_i,leD_i,gtD_i,geD_i,eqD_i,eqD_s,neD_i,neD_s,zd2,zg8,if_true,Bool.false_eq_true,if_false,Bool.not_true,Bool.not_false,h']
 ·have h':((p:Int) - r - 1 == 0) = false:=by simpa using h
  rw [if_neg h]
  simp only [zc6,zd6,zc7,zh0,zc1,zd0,zc8,zc4,ze5,ze8,zg0,zg1,zg3,zc9,zf3,zd5,ze0,tB_ap,ze3,ze9,zi0,zf5,zf4,zb9,eC_ap,zb5,za9,zb6,zd4,zi3,zf0,zh6,zg2,zf7,zi2,zi1,zd9,zd1,zb1,List.getElem?_cons_zero,List.getElem?_cons_succ,List.set_cons_succ,List.set_cons_zero,zb2,zc5,Rs.bind_ok,Fl.of_ok,zf9,zi5,zb8,zd7,zb7,ze1,zd3,zg5,ltI_i,leD_i,gtD_i,geD_i,eqD_i,eqD_s,neD_i,neD_s,zd2,zg8,if_true,Bool.false_eq_true,if_false,Bool.not_true,Bool.not_false,h',zZ1,zO1,negI_i]
  congr 3
  split <;> split <;> omega
end Law
set_option Elab.async false
set_option linter.all false
set_option maxHeartbeats 1000000
namespace FD
open PySem PySem.Spec PyProof.Rows L2
theorem rg3_ok {fs:FA} {τ:DS} {i j:Int} (h:fs τ = .ok [.int i,.int j,.int (-1)]) (h1 : -(2 ^ 62)≤i) (h2:i < 2 ^ 62) (h3 : -(2 ^ 62)≤j) (h4:j < 2 ^ 62):iRg3 fs τ = .ok (rngDn i (i - j).toNat):=by
 unfold iRg3
 rw [h]
 simp only [Rs.bind_ok,int3d]
 rw [if_pos ⟨⟨h1,h2⟩,h3,h4⟩]
end FD
namespace Law
open PySem PySem.Spec PyProof.Rows L2 FD
noncomputable def zI9:FS:=(sIf (tOrD (FD.tB (eOp isD (eVar 1) (eC .non))) (FD.tB (eOp gtD (eOp ixD (eVar 2) (eC (.int 0))) (eOp ixD (eVar 1) (eC (.int 0)))))) (sSet 1 (eVar 2)) sNext)
theorem ya1:isD .non .non = .ok (.bl true):=rfl
theorem is_tl (t:Tl):isD (tlD t) .non = .ok (.bl false):=rfl
theorem yl0:zB5 .non .non = .ok (.bl false):=rfl
theorem isNot_tl (t:Tl):zB5 (tlD t) .non = .ok (.bl true):=rfl
theorem zW0 (z:D):∀ (ts:List Tl) (c:Option Tl) (s:Option Sl),∃ s',loopD (gNm 2) zI9 (ts.map tlD) [some (.val z),some (.val (optD c)),s] = .nx [some (.val z),some (.val (optD (fmost ts c))),s']
 | [],c,s=>⟨s,rfl⟩
 | t :: ts,none,s=>by
  obtain ⟨s',ih⟩:=zW0 z ts (some t) (some (.val (tlD t)))
  refine ⟨s',?_⟩
  have:zI9 [some (.val z),some (.val (optD none)),some (.val (tlD t))] = .nx [some (.val z),some (.val (optD (some t))),some (.val (tlD t))]:=by
   unfold zI9 optD
   simp only [zc6,zd6,zc7,zh0,zc1,zd0,zc8,zc4,ze5,ze8,zg0,zg1,zg3,zc9,zf3,zd5,ze0,tB_ap,ze3,ze9,zi0,zf5,zf4,zb9,eC_ap,zb5,za9,zb6,zd4,zi3,zf0,zh6,zg2,zf7,zi2,zi1,zd9,zd1,zb1,List.getElem?_cons_zero,List.getElem?_cons_succ,List.set_cons_succ,List.set_cons_zero,zb2,zc5,Rs.bind_ok,Fl.of_ok,zf9,zi5,zb8,zd7,zb7,ze1,zd3,zg5,ltI_i,leD_i,gtD_i,geD_i,eqD_i,eqD_s,neD_i,neD_s,zd2,zg8,if_true,Bool.false_eq_true,if_false,Bool.not_true,Bool.not_false,ya1]
  rw [List.map_cons,loopD,zg8,Fl.of_ok]
  simp only [List.set_cons_succ,List.set_cons_zero,this]
  rw [ih]
  rfl
 | t :: ts,some c,s=>by
  obtain ⟨s',ih⟩:=zW0 z ts (some (if c.1 < t.1 then t else c)) (some (.val (tlD t)))
  refine ⟨s',?_⟩
  have:zI9 [some (.val z),some (.val (optD (some c))),some (.val (tlD t))] = .nx [some (.val z),some (.val (optD (some (if c.1 < t.1 then t else c)))),some (.val (tlD t))]:=by
   unfold zI9 optD
   by_cases h:c.1 < t.1
   ·rw [if_pos h]
    simp only [zc6,zd6,zc7,zh0,zc1,zd0,zc8,zc4,ze5,ze8,zg0,zg1,zg3,zc9,zf3,zd5,ze0,tB_ap,ze3,ze9,zi0,zf5,zf4,zb9,eC_ap,zb5,za9,zb6,zd4,zi3,zf0,zh6,zg2,zf7,zi2,zi1,zd9,zd1,zb1,List.getElem?_cons_zero,List.getElem?_cons_succ,List.set_cons_succ,List.set_cons_zero,zb2,zc5,Rs.bind_ok,Fl.of_ok,zf9,zi5,zb8,zd7,zb7,ze1,zd3,zg5,ltI_i,leD_i,gtD_i,geD_i,eqD_i,eqD_s,neD_i,neD_s,zd2,zg8,if_true,Bool.false_eq_true,if_false,Bool.not_true,Bool.not_false,is_tl,tl_0,h,decide_true]
   ·rw [if_neg h]
    simp only [zc6,zd6,zc7,zh0,zc1,zd0,zc8,zc4,ze5,ze8,zg0,zg1,zg3,zc9,zf3,zd5,ze0,tB_ap,ze3,ze9,zi0,zf5,zf4,zb9,eC_ap,zb5,za9,zb6,zd4,zi3,zf0,zh6,zg2,zf7,zi2,zi1,zd9,zd1,zb1,List.getElem?_cons_zero,List.getElem?_cons_succ,List.set_cons_succ,List.set_cons_zero,zb2,zc5,Rs.bind_ok,Fl.of_ok,zf9,zi5,zb8,zd7,zb7,ze1,zd3,zg5,ltI_i,leD_i,gtD_i,geD_i,eqD_i,eqD_s,neD_i,neD_s,zd2,zg8,if_true,Bool.false_eq_true,if_false,Bool.not_true,Bool.not_false,is_tl,tl_0,h,decide_false]
  rw [List.map_cons,loopD,zg8,Fl.of_ok]
  simp only [List.set_cons_succ,List.set_cons_zero,this]
  rw [ih]
  rfl
theorem fm_ok (ts:List Tl):zf6 [.lst (ts.map tlD)] = .ok (optD (fmost ts none)):=by
 have st:zg9 3 [.lst (ts.map tlD)] = [some (.val (.lst (ts.map tlD))),none,none]:=rfl
 obtain ⟨s',h⟩:=zW0 (.lst (ts.map tlD)) ts none none
 unfold zI9 at h
 unfold zf6 zv6
 rw [zg6,st]
 simp only [optD] at h
 simp only [zc6,zd6,zc7,zh0,zc1,zd0,zc8,zc4,ze5,ze8,zg0,zg1,zg3,zc9,zf3,zd5,ze0,tB_ap,ze3,ze9,zi0,zf5,zf4,zb9,eC_ap,zb5,za9,zb6,zd4,zi3,zf0,zh6,zg2,zf7,zi2,zi1,zd9,zd1,zb1,List.getElem?_cons_zero,List.getElem?_cons_succ,List.set_cons_succ,List.set_cons_zero,zb2,zc5,Rs.bind_ok,Fl.of_ok,zf9,zi5,zb8,zd7,zb7,ze1,zd3,zg5,ltI_i,leD_i,gtD_i,geD_i,eqD_i,eqD_s,neD_i,neD_s,zd2,zg8,if_true,Bool.false_eq_true,if_false,Bool.not_true,Bool.not_false,h]
 rfl
theorem size2:∀ a b:D,([a,b]:List D).length≤sizeLine:=fun a b=>by rw [sizeLine_v];exact Nat.le_of_ble_eq_true rfl
theorem size1:∀ a:D,([a]:List D).length≤sizeLine:=fun a=>by rw [sizeLine_v];exact Nat.le_of_ble_eq_true rfl
theorem tup2 {fa fb:FE} {τ:DS} {a b:D} (h1:fa τ = .ok a) (h2:fb τ = .ok b):eTup (aCons fa (aCons fb aNil)) τ = .ok (.tup [a,b]):=by
 rw [ym8,za9,h1,Rs.bind_ok,za9,h2,Rs.bind_ok,zb5,Rs.bind_ok,Rs.bind_ok,Rs.bind_ok]
 exact if_pos (size2 a b)
theorem lst1e {fa:FE} {τ:DS} {a:D} (h1:fa τ = .ok a):eLst (aCons fa aNil) τ = .ok (.lst [a]):=by
 rw [zW2,za9,h1,Rs.bind_ok,zb5,Rs.bind_ok,Rs.bind_ok]
 exact if_pos (size1 a)
theorem call1 {f:List D→Rs D} {fa:FE} {τ:DS} {a d:D} (h1:fa τ = .ok a) (h:f [a] = .ok d):eCall f (aCons fa aNil) τ = .ok d:=by
 rw [zb6,za9,h1,Rs.bind_ok,zb5,Rs.bind_ok,Rs.bind_ok,h];rfl
theorem call2 {f:List D→Rs D} {fa fb:FE} {τ:DS} {a b d:D} (h1:fa τ = .ok a) (h2:fb τ = .ok b) (h:f [a,b] = .ok d):eCall f (aCons fa (aCons fb aNil)) τ = .ok d:=by
 rw [zb6,za9,h1,Rs.bind_ok,za9,h2,Rs.bind_ok,zb5,Rs.bind_ok,Rs.bind_ok,Rs.bind_ok,h];rfl
theorem call3 {f:List D→Rs D} {fa fb fc:FE} {τ:DS} {a b c d:D} (h1:fa τ = .ok a) (h2:fb τ = .ok b) (h3:fc τ = .ok c) (h:f [a,b,c] = .ok d):eCall f (aCons fa (aCons fb (aCons fc aNil))) τ = .ok d:=by
 rw [zb6,za9,h1,Rs.bind_ok,za9,h2,Rs.bind_ok,za9,h3,Rs.bind_ok,zb5,Rs.bind_ok,Rs.bind_ok,Rs.bind_ok,Rs.bind_ok,h];rfl
theorem op2 {op:D→D→Rs D} {fa fb:FE} {τ:DS} {a b:D} {r:Rs D} (h1:fa τ = .ok a) (h2:fb τ = .ok b) (h:op a b = r):eOp op fa fb τ = r:=by
 rw [zf4,h1,Rs.bind_ok,h2,Rs.bind_ok,h]
theorem za3 {n:Nat} {τ:DS} {d:D} (h:τ[n]? = some (some (.val d))):eVar n τ = .ok d:=by rw [zb9,h];rfl
theorem zq2 {k:Nat} {idx:List Nat} {fi:FA} {set:FG} {ft:FT} {fe:FE} {τ:DS} {ds xs:List D} (h1:fi τ = .ok ds) (h2:compL set ft fe (tau0 k idx τ) ds = .ok xs) (h3:xs.length≤1000):eComp k idx fi set ft fe τ = .ok xs:=by
 unfold eComp
 rw [h1,Rs.bind_ok,h2]
 exact if_pos (by rw [sizeLine_v];omega)
theorem tru_ok {fe:FE} {τ:DS} {b:Bool} (h:fe τ = .ok (.bl b)):tTru fe τ = .ok b:=by rw [ze3,h];rfl
theorem tB_ok {fe:FE} {τ:DS} {b:Bool} (h:fe τ = .ok (.bl b)):FD.tB fe τ = .ok b:=by rw [tB_ap,h];rfl
theorem zX7 {fa:FE} {τ:DS} {n:Nat} (h:fa τ = .ok (.int (n:Int))) (hn:n≤1000):iRg1 (aCons fa aNil) τ = .ok ((List.range n).map fun (k:Nat)=>D.int (0 + k)):=by
 rw [zX8 (j:=(n:Int)) (by rw [za9,h,Rs.bind_ok,zb5,Rs.bind_ok]) (by omega) (by omega),Int.toNat_natCast];rfl
theorem blt1 {g:List D→Rs D} {fa:FE} {τ:DS} {a d:D} (h1:fa τ = .ok a) (h:g [a] = .ok d):eBlt g (aCons fa aNil) τ = .ok d:=by
 rw [zd4,za9,h1,Rs.bind_ok,zb5,Rs.bind_ok,Rs.bind_ok,h]
theorem zN1 (a:Nat) (x:List Nat) (ha:a < 128) (hx:x.length≤1000):zh5 [signD a,tx x] = .ok (.lst ((lastT a x).map tlD)):=by
 have st:zg9 2 [signD a,tx x] = [some (.val (signD a)),some (.val (tx x))]:=rfl
 have cf:=zr0 (set:=gNm 0) (ft:=(tTru (eCall zq1 (aCons (eVar 1) (aCons (eOp ixD (eVar 2) (eVar 0)) aNil))))) (fe:=(eTup (aCons (eCall zj2 (aCons (eVar 1) (aCons (eVar 2) (aCons (eVar 0) aNil)))) (aCons (eLst (aCons (eVar 0) aNil)) aNil)))) (τ:=[none,some (.val (signD a)),some (.val (tx x))])
  (fun (k:Nat)=>D.int (0 + k)) (fun (p:Nat)=>tlD (ownP a x p,[p])) (fun p=>meetC a (x.getD p 0)) (List.range x.length) fun p hp=>by
   have hp:=List.mem_range.mp hp
   refine ⟨[some (.val (.int (p:Int))),some (.val (signD a)),some (.val (tx x))],by rw [Int.zero_add];rfl,?_,?_⟩
   ·exact tru_ok (call2 (za3 rfl) (op2 (za3 rfl) (za3 rfl) (tx_at x p hp hx)) (zM9 a _ ha))
   ·exact tup2 (call3 (za3 rfl) (za3 rfl) (za3 rfl) (own_ok a x p hx hp)) (lst1e (za3 rfl))
 have hlen:(((List.range x.length).filter fun p=>meetC a (x.getD p 0)).map fun (p:Nat)=>tlD (ownP a x p,[p])).length≤1000:=by
  rw [List.length_map]
  have:=List.length_filter_le (fun p=>meetC a (x.getD p 0)) (List.range x.length)
  rw [List.length_range] at this;omega
 have ec:=zq2 (k:=1) (idx:=[0,1]) (fi:=iRg1 (aCons (eBlt lenD (aCons (eVar 1) aNil)) aNil)) (τ:=[some (.val (signD a)),some (.val (tx x))]) (zX7 (blt1 (za3 rfl) (zt5 x hx)) hx) cf hlen
 unfold zh5 zt8
 rw [zg6,st,zc1]
 simp only [ec,Rs.bind_ok,Fl.of_ok,zb8]
 unfold lastT
 rw [List.map_map]
 rfl
theorem yk1 (p:Nat) (ts:List Tl) (hs:ts.length≤1000) (hn:∀ t∈ts,0 < t.2.length):zk1 [.int (p:Int),.lst (ts.map tlD)] = .ok (.lst ((linkT p ts).map tlD)):=by
 have st:zg9 2 [.int (p:Int),.lst (ts.map tlD)] = [some (.val (.int (p:Int))),some (.val (.lst (ts.map tlD)))]:=rfl
 have cf:=zr0 (set:=gNm 0) (ft:=(FD.tB (eOp gtD (eOp ixD (eOp ixD (eVar 0) (eC (.int 1))) (eC (.int 0))) (eVar 1)))) (fe:=(eTup (aCons (eOp addD (eOp ixD (eVar 0) (eC (.int 0))) (eCall zm4 (aCons (eVar 1) (aCons (eOp ixD (eOp ixD (eVar 0) (eC (.int 1))) (eC (.int 0))) aNil)))) (aCons (eOp ixD (eVar 0) (eC (.int 1))) aNil)))) (τ:=[none,some (.val (.int (p:Int)))])
  tlD (fun t=>tlD (t.1 + linkP p (t.2.getD 0 0),t.2)) (fun t=>decide (p < t.2.getD 0 0)) ts fun t ht=>by
   refine ⟨[some (.val (tlD t)),some (.val (.int (p:Int)))],rfl,?_,?_⟩
   ·have:=zV2 t.2 (hn t ht)
    refine tB_ok (op2 (op2 (op2 (za3 rfl) rfl (tl_1 t)) rfl this) (za3 rfl) ?_)
    rw [gtD_i]
    congr 2
    exact decide_eq_decide.mpr (by omega)
   ·have:=zV2 t.2 (hn t ht)
    exact tup2 (op2 (op2 (za3 rfl) rfl (tl_0 t)) (call2 (za3 rfl) (op2 (op2 (za3 rfl) rfl (tl_1 t)) rfl this) (link_ok p _)) (zd3)) (op2 (za3 rfl) rfl (tl_1 t))
 have hlen:((ts.filter fun t=>decide (p < t.2.getD 0 0)).map fun t=>tlD (t.1 + linkP p (t.2.getD 0 0),t.2)).length≤1000:=by
  rw [List.length_map]
  have:=List.length_filter_le (fun t:Tl=>decide (p < t.2.getD 0 0)) ts
  omega
 have it:iAny (eVar 1) [some (.val (.int (p:Int))),some (.val (.lst (ts.map tlD)))] = .ok (ts.map tlD):=rfl
 have ec:=zq2 (k:=1) (idx:=[0]) (τ:=[some (.val (.int (p:Int))),some (.val (.lst (ts.map tlD)))]) it cf hlen
 unfold zk1 zx3
 rw [zg6,st,zc1]
 simp only [ec,Rs.bind_ok,Fl.of_ok,zb8]
 unfold linkT
 rw [List.map_map]
 rfl
noncomputable def zI4:FS:=(sIf (tTru (eCall zq1 (aCons (eVar 0) (aCons (eOp ixD (eVar 1) (eVar 4)) aNil)))) (sSeq (sSet 5 (eCall zf6 (aCons (eCall zk1 (aCons (eVar 4) (aCons (eVar 2) aNil))) aNil)))
  (sIf (FD.tB (eOp zB5 (eVar 5) (eC .non))) (sApp 3 (eTup (aCons (eOp addD (eCall zj2 (aCons (eVar 0) (aCons (eVar 1) (aCons (eVar 4) aNil)))) (eOp ixD (eVar 5) (eC (.int 0)))) (aCons (eOp addD (eLst (aCons (eVar 4) aNil)) (eOp ixD (eVar 5) (eC (.int 1)))) aNil)))) sNext)) sNext)
theorem yn4 (p:Nat) (l:List Nat) (h:l.length≤1000):addD (.lst [.int (p:Int)]) (nts l) = .ok (nts (p :: l)):=by
 show (if _ then Rs.ok (D.lst _) else Rs.no) = _
 rw [if_pos (by rw [sizeLine_v,List.length_map,List.length_singleton];omega)]
 rfl
theorem link_len (p:Nat) (ts:List Tl):∀ t,fmost (linkT p ts) none = some t→∃ u∈ts,t.2 = u.2:=fun t h=>by
 rcases zs6 _ _ _ h with g | g
 ·simp only [linkT,List.mem_map,List.mem_filter] at g
  obtain ⟨u,⟨g1,_⟩,rfl⟩:=g
  exact ⟨u,g1,rfl⟩
 ·cases g
theorem lg_step (a:Nat) (x:List Nat) (ts acc:List Tl) (p:Nat) (s5:Option Sl) (ha:a < 128) (hx:x.length≤1000) (hs:ts.length≤1000) (hn:∀ t∈ts,0 < t.2.length∧t.2.length≤1000) (hp:p < x.length) (hc:acc.length≤1000) :
  ∃ s',zI4 [some (.val (signD a)),some (.val (tx x)),some (.val (.lst (ts.map tlD))),some (.own (acc.map tlD)),some (.val (.int (p:Int))),s5] = .nx [some (.val (signD a)),some (.val (tx x)),some (.val (.lst (ts.map tlD))),some (.own ((acc ++ (longF a x ts p).toList).map tlD)),some (.val (.int (p:Int))),s']:=by
 have hm:=zM9 a (x.getD p 0) ha
 have hlk:=yk1 p ts hs fun t ht=>(hn t ht).1
 have hfm:=fm_ok (linkT p ts)
 have how:=own_ok a x p hx hp
 have hix:=tx_at x p hp hx
 have hsz:(acc.map tlD).length < sizeLine:=by rw [sizeLine_v,List.length_map];omega
 unfold zI4 longF
 generalize zq1 = fa at hm ⊢
 generalize zk1 = fb at hlk ⊢
 generalize zf6 = fc at hfm ⊢
 generalize zj2 = fd at how ⊢
 by_cases h:meetC a (x.getD p 0) = true
 ·rw [if_pos h]
  rw [h] at hm
  cases e:fmost (linkT p ts) none with
  | none=>
   rw [e] at hfm
   refine ⟨some (.val .non),?_⟩
   simp only [zc6,zd6,zc7,zh0,zc1,zd0,zc8,zc4,ze5,ze8,zg0,zg1,zg3,zc9,zf3,zd5,ze0,tB_ap,ze3,ze9,zi0,zf5,zf4,zb9,eC_ap,zb5,za9,zb6,zd4,zi3,zf0,zh6,zg2,zf7,zi2,zi1,zd9,zd1,zb1,List.getElem?_cons_zero,List.getElem?_cons_succ,List.set_cons_succ,List.set_cons_zero,zb2,zc5,Rs.bind_ok,Fl.of_ok,zf9,zi5,zb8,zd7,zb7,ze1,zd3,zg5,ltI_i,leD_i,gtD_i,geD_i,eqD_i,eqD_s,neD_i,neD_s,zd2,zg8,if_true,Bool.false_eq_true,if_false,Bool.not_true,Bool.not_false,hix,hm,hlk,hfm,optD,yl0,Option.map_none,Option.toList_none,List.append_nil]
  | some t=>
   rw [e] at hfm
   obtain ⟨u,u1,u2⟩:=link_len p ts t e
   have hct:=yn4 p t.2 (by rw [u2];exact (hn u u1).2)
   refine ⟨some (.val (tlD t)),?_⟩
   have tp:eTup (aCons (eOp addD (eCall fd (aCons (eVar 0) (aCons (eVar 1) (aCons (eVar 4) aNil)))) (eOp ixD (eVar 5) (eC (.int 0)))) (aCons (eOp addD (eLst (aCons (eVar 4) aNil)) (eOp ixD (eVar 5) (eC (.int 1)))) aNil)) [some (.val (signD a)),some (.val (tx x)),some (.val (.lst (ts.map tlD))),some (.own (acc.map tlD)),some (.val (.int (p:Int))),some (.val (tlD t))] = .ok (tlD (ownP a x p + t.1,p :: t.2)):=
    tup2 (op2 (call3 (za3 rfl) (za3 rfl) (za3 rfl) how) (op2 (za3 rfl) rfl (tl_0 t)) zd3) (op2 (lst1e (za3 rfl)) (op2 (za3 rfl) rfl (tl_1 t)) hct)
   simp only [zc6,zd6,zc7,zh0,zc1,zd0,zc8,zc4,ze5,ze8,zg0,zg1,zg3,zc9,zf3,zd5,ze0,tB_ap,ze3,ze9,zi0,zf5,zf4,zb9,eC_ap,zb5,za9,zb6,zd4,zi3,zf0,zh6,zg2,zf7,zi2,zi1,zd9,zd1,zb1,List.getElem?_cons_zero,List.getElem?_cons_succ,List.set_cons_succ,List.set_cons_zero,zb2,zc5,Rs.bind_ok,Fl.of_ok,zf9,zi5,zb8,zd7,zb7,ze1,zd3,zg5,ltI_i,leD_i,gtD_i,geD_i,eqD_i,eqD_s,neD_i,neD_s,zd2,zg8,if_true,Bool.false_eq_true,if_false,Bool.not_true,Bool.not_false,hix,hm,hlk,hfm,optD,isNot_tl,tp,hsz,Option.map_some,Option.toList_some,List.map_append,List.map_cons,List.map_nil]
 ·have h':meetC a (x.getD p 0) = false:=by simpa using h
  rw [h'] at hm
  rw [if_neg h]
  refine ⟨s5,?_⟩
  simp only [zc6,zd6,zc7,zh0,zc1,zd0,zc8,zc4,ze5,ze8,zg0,zg1,zg3,zc9,zf3,zd5,ze0,tB_ap,ze3,ze9,zi0,zf5,zf4,zb9,eC_ap,zb5,za9,zb6,zd4,zi3,zf0,zh6,zg2,zf7,zi2,zi1,zd9,zd1,zb1,List.getElem?_cons_zero,List.getElem?_cons_succ,List.set_cons_succ,List.set_cons_zero,zb2,zc5,Rs.bind_ok,Fl.of_ok,zf9,zi5,zb8,zd7,zb7,ze1,zd3,zg5,ltI_i,leD_i,gtD_i,geD_i,eqD_i,eqD_s,neD_i,neD_s,zd2,zg8,if_true,Bool.false_eq_true,if_false,Bool.not_true,Bool.not_false,hix,hm,Option.toList_none,List.append_nil]
theorem zH3 (f:Nat→Option Tl) (k:Nat):(List.range (k + 1)).filterMap f = (List.range k).filterMap f ++ (f k).toList:=by
 rw [List.range_succ,List.filterMap_append]
 simp only [List.filterMap_cons,List.filterMap_nil]
 cases h:f k <;> rfl
theorem zR8 (f:Nat→Option Tl) (k:Nat):((List.range k).filterMap f).length≤k:=by
 have:=List.length_filterMap_le f (List.range k)
 rwa [List.length_range] at this
theorem lg_loop (a:Nat) (x:List Nat) (ts:List Tl) (ha:a < 128) (hx:x.length≤1000) (hs:ts.length≤1000) (hn:∀ t∈ts,0 < t.2.length∧t.2.length≤1000) :
  ∃ s4 s5,loopD (gNm 4) zI4 ((List.range x.length).map fun (k:Nat)=>D.int (0 + k)) [some (.val (signD a)),some (.val (tx x)),some (.val (.lst (ts.map tlD))),some (.own []),none,none] = .nx [some (.val (signD a)),some (.val (tx x)),some (.val (.lst (ts.map tlD))),some (.own ((longT a x ts).map tlD)),s4,s5]:=by
 obtain ⟨τ',h1,s4,s5,h2⟩:=zF2 (set:=gNm 4) (body:=zI4) (fun (k:Nat)=>D.int (0 + k)) (fun k τ=>∃ s4 s5,τ = [some (.val (signD a)),some (.val (tx x)),some (.val (.lst (ts.map tlD))),some (.own (((List.range k).filterMap (longF a x ts)).map tlD)),s4,s5]) x.length
  [some (.val (signD a)),some (.val (tx x)),some (.val (.lst (ts.map tlD))),some (.own []),none,none] ⟨_,_,rfl⟩ fun k τ hk z_=>by
   obtain ⟨s4,s5,e⟩:=z_
   subst e
   obtain ⟨s',g⟩:=lg_step a x ts ((List.range k).filterMap (longF a x ts)) k s5 ha hx hs hn hk (by have:=zR8 (longF a x ts) k;omega)
   have e0:(0:Int) + (k:Int) = (k:Int):=by omega
   rw [zH3]
   exact ⟨_,_,by rw [e0];exact zg8,g,_,_,rfl⟩
 subst h2
 exact ⟨s4,s5,h1⟩
theorem gen_lg (bd:FS) (ri:FA) (A B C:D) (n:Nat) (P:List D) (s4 s5:Option Sl) (r1:ri [some (.val A),some (.val B),some (.val C),some (.own []),none,none] = .ok ((List.range n).map fun (k:Nat)=>D.int (0 + k)))
  (h1:loopD (gNm 4) bd ((List.range n).map fun (k:Nat)=>D.int (0 + k)) [some (.val A),some (.val B),some (.val C),some (.own []),none,none] = .nx [some (.val A),some (.val B),some (.val C),some (.own P),s4,s5]) :
  runF 6 (sSeq (sSetO 3 (fun τ=>(aNil τ).bind fun ds=>if ds.length≤sizeLine then .ok ds else .no)) (sSeq (sFor ri (gNm 4) bd) (sRetO 3))) [A,B,C] = .ok (.lst P):=by
 have st:zg9 6 [A,B,C] = [some (.val A),some (.val B),some (.val C),none,none,none]:=rfl
 rw [zg6,st]
 simp only [zc6,zd6,zc7,zh0,zc1,zd0,zc8,zc4,ze5,ze8,zg0,zg1,zg3,zc9,zf3,zd5,ze0,tB_ap,ze3,ze9,zi0,zf5,zf4,zb9,eC_ap,zb5,za9,zb6,zd4,zi3,zf0,zh6,zg2,zf7,zi2,zi1,zd9,zd1,zb1,List.getElem?_cons_zero,List.getElem?_cons_succ,List.set_cons_succ,List.set_cons_zero,zb2,zc5,Rs.bind_ok,Fl.of_ok,zf9,zi5,zb8,zd7,zb7,ze1,zd3,zg5,ltI_i,leD_i,gtD_i,geD_i,eqD_i,eqD_s,neD_i,neD_s,zd2,zg8,if_true,Bool.false_eq_true,if_false,Bool.not_true,Bool.not_false,List.length_nil,Nat.zero_le,r1,h1]
theorem longer_b:zt3 = (sSeq (sSetO 3 (fun τ=>(aNil τ).bind fun ds=>if ds.length≤sizeLine then .ok ds else .no)) (sSeq (sFor (iRg1 (aCons (eBlt lenD (aCons (eVar 1) aNil)) aNil)) (gNm 4) zI4) (sRetO 3))):=by unfold zt3 zI4;rfl
theorem yj8 (a:Nat) (x:List Nat) (ts:List Tl) (ha:a < 128) (hx:x.length≤1000) (hs:ts.length≤1000) (hn:∀ t∈ts,0 < t.2.length∧t.2.length≤1000):zl3 [signD a,tx x,.lst (ts.map tlD)] = .ok (.lst ((longT a x ts).map tlD)):=by
 obtain ⟨s4,s5,h1⟩:=lg_loop a x ts ha hx hs hn
 unfold zl3
 rw [longer_b]
 exact gen_lg _ _ _ _ _ x.length _ _ _ (zX7 (blt1 (za3 rfl) (zt5 x hx)) hx) h1
theorem zO8 (x:List Nat):∀ q:List Nat,(zh7 q x).length≤x.length
 | []=>by simp [zh7]
 | [a]=>by
  simp only [zh7,lastT,List.length_map]
  have:=List.length_filter_le (fun p=>meetC a (x.getD p 0)) (List.range x.length)
  rwa [List.length_range] at this
 | a :: b :: q=>by simp only [zh7,longT];exact zR8 _ _
theorem zW8 (q x:List Nat) (hq:q≠[]) (hl:q.length≤1000):∀ t∈zh7 q x,0 < t.2.length∧t.2.length≤1000:=fun t ht=>by
 have:=(zu0 x q t ht).1.len
 have:0 < q.length:=List.length_pos_iff.mpr hq
 omega
noncomputable def zT6:FS:=(sSet 2 (eCall zl3 (aCons (eOp ixD (eVar 0) (eVar 3)) (aCons (eVar 1) (aCons (eVar 2) aNil)))))
theorem bs_loop (q x:List Nat) (m:Nat) (hm:q.length = m + 1) (hq:q.length≤1000) (hx:x.length≤1000) (ha:∀ c∈q,c < 128) :
  ∃ s,loopD (gNm 3) zT6 (rngDn ((m:Int) - 1) m) [some (.val (tx q)),some (.val (tx x)),some (.val (.lst ((zh7 (q.drop m) x).map tlD))),none] = .nx [some (.val (tx q)),some (.val (tx x)),some (.val (.lst ((zh7 q x).map tlD))),s]:=by
 obtain ⟨τ',h1,s,h2⟩:=zF2 (set:=gNm 3) (body:=zT6) (fun (k:Nat)=>D.int ((m:Int) - 1 - k)) (fun k τ=>∃ s,τ = [some (.val (tx q)),some (.val (tx x)),some (.val (.lst ((zh7 (q.drop (m - k)) x).map tlD))),s]) m
  [some (.val (tx q)),some (.val (tx x)),some (.val (.lst ((zh7 (q.drop m) x).map tlD))),none] ⟨_,rfl⟩ fun k τ hk z_=>by
   obtain ⟨s,e⟩:=z_
   subst e
   obtain ⟨j,hj⟩:∃ j,m = j + 1 + k:=⟨m - 1 - k,by omega⟩
   have e0:(m:Int) - 1 - (k:Int) = (j:Int):=by omega
   have d1:q.drop (m - k) = q.drop (j + 1):=by congr 1;omega
   have d2:q.drop (m - (k + 1)) = q.drop j:=by congr 1;omega
   have hjq:j < q.length:=by omega
   have hne:q.drop (j + 1)≠[]:=fun h=>by
    have:=congrArg List.length h
    rw [List.length_drop] at this;simp at this;omega
   have hlg:=yj8 (q.getD j 0) x (zh7 (q.drop (j + 1)) x) (ha _ (List.mem_of_getElem? (zz5 q j hjq))) hx (by have:=zO8 x (q.drop (j + 1));omega) (zW8 _ x hne (by rw [List.length_drop];omega))
   have ht:longT (q.getD j 0) x (zh7 (q.drop (j + 1)) x) = zh7 (q.drop j) x:=by
    have e1:q.drop j = q.getD j 0 :: q.drop (j + 1):=by
     rw [List.drop_eq_getElem_cons hjq,List.getD_eq_getElem?_getD,List.getElem?_eq_getElem hjq];rfl
    rw [e1]
    cases e2:q.drop (j + 1) with
    | nil=>exact absurd e2 hne
    | cons b r=>rfl
   rw [ht] at hlg
   rw [d1,d2]
   refine ⟨[some (.val (tx q)),some (.val (tx x)),some (.val (.lst ((zh7 (q.drop (j + 1)) x).map tlD))),some (.val (.int (j:Int)))],[some (.val (tx q)),some (.val (tx x)),some (.val (.lst ((zh7 (q.drop j) x).map tlD))),some (.val (.int (j:Int)))],by rw [e0];rfl,?_,_,rfl⟩
   unfold zT6
   rw [zd6,call3 (op2 (za3 rfl) (za3 rfl) (tx_at q j hjq hq)) (za3 rfl) (za3 rfl) hlg,Fl.of_ok]
   rfl
 subst h2
 refine ⟨s,?_⟩
 rw [Nat.sub_self,List.drop_zero] at h1
 exact h1
noncomputable def ldE:FE:=(fun τ=>((eComp 1 [] (iAny (eVar 2)) (gNm 0) (fun _=>.ok true) (eTup (aCons (eOp addD (eOp ixD (eVar 0) (eC (.int 0))) (eCall zk7 (aCons (eOp ixD (eOp ixD (eVar 0) (eC (.int 1))) (eC (.int 0))) aNil))) (aCons (eOp ixD (eVar 0) (eC (.int 1))) aNil)))) τ).bind fun ds=>.ok (.lst ds))
theorem ld_ok (A B:D) (ts:List Tl) (s:Option Sl) (hs:ts.length≤1000) (hn:∀ t∈ts,0 < t.2.length):ldE [some (.val A),some (.val B),some (.val (.lst (ts.map tlD))),s] = .ok (.lst ((ts.map leadT).map tlD)):=by
 have cf:=zq3 (set:=gNm 0) (fe:=(eTup (aCons (eOp addD (eOp ixD (eVar 0) (eC (.int 0))) (eCall zk7 (aCons (eOp ixD (eOp ixD (eVar 0) (eC (.int 1))) (eC (.int 0))) aNil))) (aCons (eOp ixD (eVar 0) (eC (.int 1))) aNil)))) (τ:=[none]) tlD tlD leadT ts fun t ht=>by
   refine ⟨[some (.val (tlD t))],rfl,?_⟩
   have:=zV2 t.2 (hn t ht)
   exact tup2 (op2 (op2 (za3 rfl) rfl (tl_0 t)) (call1 (op2 (op2 (za3 rfl) rfl (tl_1 t)) rfl this) (lead_ok _)) zd3) (op2 (za3 rfl) rfl (tl_1 t))
 have it:iAny (eVar 2) [some (.val A),some (.val B),some (.val (.lst (ts.map tlD))),s] = .ok (ts.map tlD):=rfl
 have ec:=zq2 (k:=1) (idx:=[]) (τ:=[some (.val A),some (.val B),some (.val (.lst (ts.map tlD))),s]) it cf (by simpa using hs)
 unfold ldE
 simp only [ec,Rs.bind_ok]
theorem best_b:yo3 = (sSeq (sIf (FD.tB (eOp eqD (eBlt lenD (aCons (eVar 0) aNil)) (eC (.int 0)))) (sRet (eTup (aCons (eC (.int 0)) (aCons (eLst aNil) aNil)))) sNext)
  (sSeq (sSet 2 (eCall zh5 (aCons (eOp ixD (eVar 0) (eNeg (eC (.int 1)))) (aCons (eVar 1) aNil))))
  (sSeq (sFor (iRg3 (aCons (eOp subD (eBlt lenD (aCons (eVar 0) aNil)) (eC (.int 2))) (aCons (eNeg (eC (.int 1))) (aCons (eNeg (eC (.int 1))) aNil)))) (gNm 3) zT6)
  (sRet (eCall zf6 (aCons ldE aNil)))))):=by unfold yo3 zT6 ldE;rfl
theorem neg_ix (q:List Nat) (m:Nat) (hm:q.length = m + 1) (hq:q.length≤1000):ixD (tx q) (.int (-1)) = .ok (signD (q.getD m 0)):=by
 refine zF6 ?_ (by rw [zR5,sizeLine_v];omega)
 have e:ixN q.length (-1) = some m:=by
  unfold ixN
  rw [if_neg (by omega),if_pos (by omega)]
  congr 1;omega
 unfold atI
 show (ixN q.length (-1)).bind _ = _
 rw [e]
 exact zz5 q m (by omega)
theorem bs_r3 (q x:List Nat) (T:D) (m:Nat) (hm:q.length = m + 1) (hq:q.length≤1000):iRg3 (aCons (eOp subD (eBlt lenD (aCons (eVar 0) aNil)) (eC (.int 2))) (aCons (eNeg (eC (.int 1))) (aCons (eNeg (eC (.int 1))) aNil))) [some (.val (tx q)),some (.val (tx x)),some (.val T),none] = .ok (rngDn ((m:Int) - 1) m):=by
 have a1:eOp subD (eBlt lenD (aCons (eVar 0) aNil)) (eC (.int 2)) [some (.val (tx q)),some (.val (tx x)),some (.val T),none] = .ok (.int ((m:Int) - 1)):=by
  refine op2 (blt1 (za3 rfl) (zt5 q hq)) rfl ?_
  rw [zg5];congr 2;omega
 have a2:∀ τ,eNeg (eC (.int 1)) τ = .ok (.int (-1)):=fun τ=>rfl
 have r3:=rg3_ok (fs:=aCons (eOp subD (eBlt lenD (aCons (eVar 0) aNil)) (eC (.int 2))) (aCons (eNeg (eC (.int 1))) (aCons (eNeg (eC (.int 1))) aNil))) (τ:=[some (.val (tx q)),some (.val (tx x)),some (.val T),none]) (i:=(m:Int) - 1) (j:=-1)
  (by rw [za9,a1,Rs.bind_ok,za9,a2,Rs.bind_ok,za9,a2,Rs.bind_ok,zb5,Rs.bind_ok,Rs.bind_ok,Rs.bind_ok]) (by omega) (by omega) (by omega) (by omega)
 rw [r3]
 congr 2
 omega
theorem gen_bs (g1:FT) (g2:FS) (e1 e2:FE) (r3:FA) (bd:FS) (A B T T' R:D) (L:List D) (s:Option Sl) (h0:g1 [some (.val A),some (.val B),none,none] = .ok false) (h1:e1 [some (.val A),some (.val B),none,none] = .ok T) (h2:r3 [some (.val A),some (.val B),some (.val T),none] = .ok L) (h3:loopD (gNm 3) bd L [some (.val A),some (.val B),some (.val T),none] = .nx [some (.val A),some (.val B),some (.val T'),s]) (h4:e2 [some (.val A),some (.val B),some (.val T'),s] = .ok R) :
  runF 4 (sSeq (sIf g1 g2 sNext) (sSeq (sSet 2 e1) (sSeq (sFor r3 (gNm 3) bd) (sRet e2)))) [A,B] = .ok R:=by
 have st:zg9 4 [A,B] = [some (.val A),some (.val B),none,none]:=rfl
 rw [zg6,st]
 simp only [zc6,zd6,zc7,zh0,zc1,zd0,zc8,zc4,ze5,ze8,zg0,zg1,zg3,zc9,zf3,zd5,ze0,tB_ap,ze3,ze9,zi0,zf5,zf4,zb9,eC_ap,zb5,za9,zb6,zd4,zi3,zf0,zh6,zg2,zf7,zi2,zi1,zd9,zd1,zb1,List.getElem?_cons_zero,List.getElem?_cons_succ,List.set_cons_succ,List.set_cons_zero,zb2,zc5,Rs.bind_ok,Fl.of_ok,zf9,zi5,zb8,zd7,zb7,ze1,zd3,zg5,ltI_i,leD_i,gtD_i,geD_i,eqD_i,eqD_s,neD_i,neD_s,zd2,zg8,if_true,Bool.false_eq_true,if_false,Bool.not_true,Bool.not_false,h0,h1,h2,h3,h4]
theorem best_ok (q x:List Nat) (hne:q≠[]) (hq:q.length≤1000) (hx:x.length≤1000) (ha:∀ c∈q,c < 128):zz4 [tx q,tx x] = .ok (optD (bestR q x)):=by
 have hpos:0 < q.length:=List.length_pos_iff.mpr hne
 obtain ⟨m,hm⟩:∃ m,q.length = m + 1:=⟨q.length - 1,by omega⟩
 obtain ⟨s,hl⟩:=bs_loop q x m hm hq hx ha
 have hmem:q.getD m 0∈q:=List.mem_of_getElem? (zz5 q m (by omega))
 have d:zh7 (q.drop m) x = lastT (q.getD m 0) x:=by
  have e1:q.drop m = [q.getD m 0]:=by
   rw [List.drop_eq_getElem_cons (by omega),List.getD_eq_getElem?_getD,List.getElem?_eq_getElem (by omega:m < q.length),List.drop_eq_nil_of_le (by omega)];rfl
  rw [e1];rfl
 rw [d] at hl
 have h0:FD.tB (eOp eqD (eBlt lenD (aCons (eVar 0) aNil)) (eC (.int 0))) [some (.val (tx q)),some (.val (tx x)),none,none] = .ok false:=by
  refine tB_ok (op2 (blt1 (za3 rfl) (zt5 q hq)) rfl ?_)
  rw [eqD_i]
  congr 2
  simp;exact hne
 have h1:eCall zh5 (aCons (eOp ixD (eVar 0) (eNeg (eC (.int 1)))) (aCons (eVar 1) aNil)) [some (.val (tx q)),some (.val (tx x)),none,none] = .ok (.lst ((lastT (q.getD m 0) x).map tlD)):=
  call2 (op2 (za3 rfl) rfl (neg_ix q m hm hq)) (za3 rfl) (zN1 _ x (ha _ hmem) hx)
 have h4:eCall zf6 (aCons ldE aNil) [some (.val (tx q)),some (.val (tx x)),some (.val (.lst ((zh7 q x).map tlD))),s] = .ok (optD (bestR q x)):=
  call1 (ld_ok _ _ _ _ (by have:=zO8 x q;omega) fun t ht=>(zW8 q x hne hq t ht).1) (fm_ok _)
 unfold zz4
 rw [best_b]
 exact gen_bs _ _ _ _ _ _ _ _ _ _ _ _ _ h0 h1 (bs_r3 q x _ m hm hq) hl h4
noncomputable def lexN:List Nat→List Nat→Bool
 | [],[]=>false
 | [],_ :: _=>true
 | _ :: _,[]=>false
 | x :: xs,y :: ys=>if x = y then lexN xs ys else decide (x < y)
theorem zS0:∀ l:List Nat,lexN l l = false
 | []=>rfl
 | x :: xs=>by simp [lexN,zS0 xs]
theorem zS2 (l m:List Nat) (hl:0 < l.length) (hm:0 < m.length) (h:m.getD 0 0 < l.getD 0 0):lexN l m = false:=by
 cases l with
 | nil=>simp at hl
 | cons x xs=>
  cases m with
  | nil=>simp at hm
  | cons y ys=>
   simp only [List.getD_cons_zero] at h
   simp only [lexN]
   rw [if_neg (by omega)]
   exact decide_eq_false (by omega)
theorem zx8:∀ (ts:List Tl) (c t:Tl),fmost ts (some c) = some t→(t = c∧∀ u∈ts,u.1≤c.1)∨(∃ pre post,ts = pre ++ t :: post∧c.1 < t.1∧(∀ u∈pre,u.1 < t.1)∧∀ u∈post,u.1≤t.1)
 | [],c,t,h=>by
  have:some c = some t:=h
  cases this
  exact .inl ⟨rfl,fun u hu=>nomatch hu⟩
 | u :: r,c,t,h=>by
  have h:fmost r (some (if c.1 < u.1 then u else c)) = some t:=h
  by_cases g:c.1 < u.1
  ·rw [if_pos g] at h
   rcases zx8 r u t h with ⟨e,h2⟩ | ⟨pre,post,e,h1,h2,h3⟩
   ·subst e
    exact .inr ⟨[],r,rfl,g,(fun v hv=>nomatch hv),h2⟩
   ·refine .inr ⟨u :: pre,post,by rw [e];rfl,by omega,fun v hv=>?_,h3⟩
    rcases List.mem_cons.mp hv with e | e
    ·subst e;exact h1
    ·exact h2 v e
  ·rw [if_neg g] at h
   rcases zx8 r c t h with ⟨e,h2⟩ | ⟨pre,post,e,h1,h2,h3⟩
   ·refine .inl ⟨e,fun v hv=>?_⟩
    rcases List.mem_cons.mp hv with e | e
    ·subst e;omega
    ·exact h2 v e
   ·refine .inr ⟨u :: pre,post,by rw [e];rfl,h1,fun v hv=>?_,h3⟩
    rcases List.mem_cons.mp hv with e | e
    ·subst e;omega
    ·exact h2 v e
theorem zG0 (ts:List Tl) (t:Tl) (h:fmost ts none = some t):∃ pre post,ts = pre ++ t :: post∧(∀ u∈pre,u.1 < t.1)∧∀ u∈post,u.1≤t.1:=by
 cases ts with
 | nil=>cases h
 | cons c r=>
  rcases zx8 r c t h with ⟨e,h2⟩ | ⟨pre,post,e,h1,h2,h3⟩
  ·subst e
   exact ⟨[],r,rfl,(fun v hv=>nomatch hv),h2⟩
  ·refine ⟨c :: pre,post,by rw [e];rfl,fun v hv=>?_,h3⟩
   rcases List.mem_cons.mp hv with e | e
   ·subst e;exact h1
   ·exact h2 v e
noncomputable abbrev hd0 (t:Tl):Nat:=t.2.getD 0 0
noncomputable def Srt (ts:List Tl):Prop:=ts.Pairwise fun a b=>hd0 a < hd0 b
theorem zY2 (ts:List Tl) (w:Tl) (hs:Srt ts) (h:fmost ts none = some w):∀ u∈ts,u.1≤w.1∧(u.1 = w.1→u = w∨hd0 w < hd0 u):=fun u hu=>by
 obtain ⟨pre,post,e,h1,h2⟩:=zG0 ts w h
 rw [e] at hu
 rcases List.mem_append.mp hu with g | g
 ·have:=h1 u g
  exact ⟨by omega,fun z=>by omega⟩
 ·rcases List.mem_cons.mp g with g | g
  ·subst g;exact ⟨Int.le_refl _,fun _=>.inl rfl⟩
  ·refine ⟨h2 u g,fun _=>.inr ?_⟩
   unfold Srt at hs
   rw [e] at hs
   have:=(List.pairwise_append.mp hs).2.1
   exact (List.pairwise_cons.mp this).1 u g
theorem srt_link (p:Nat) (ts:List Tl) (h:Srt ts):Srt (linkT p ts):=by
 unfold Srt linkT
 rw [List.pairwise_map]
 exact List.Pairwise.filter _ h
theorem srt_lead (ts:List Tl) (h:Srt ts):Srt (ts.map leadT):=by
 unfold Srt
 rw [List.pairwise_map]
 exact h
theorem zP1 (x:List Nat):∀ q:List Nat,Srt (zh7 q x)
 | []=>List.Pairwise.nil
 | [a]=>by
  unfold Srt zh7 lastT
  rw [List.pairwise_map]
  exact List.Pairwise.filter _ List.pairwise_lt_range
 | a :: b :: q=>by
  unfold Srt zh7 longT
  rw [List.pairwise_filterMap]
  refine List.Pairwise.imp (fun {p r} hpr t ht u hu=>?_) List.pairwise_lt_range
  have key:∀ (p:Nat) (t:Tl),longF a x (zh7 (b :: q) x) p = some t→hd0 t = p:=fun p t ht=>by
   unfold longF at ht
   split at ht
   ·cases e:fmost (linkT p (zh7 (b :: q) x)) none with
    | none=>rw [e] at ht;cases ht
    | some w=>rw [e] at ht;cases ht;rfl
   ·cases ht
  rw [key p t ht,key r u hu]
  exact hpr
theorem zO7 (x:List Nat):∀ (q:List Nat) (t:Tl),t∈zh7 q x→∀ l,Lay q x l→l.getD 0 0 = hd0 t→tailP x q l≤t.1∧(tailP x q l = t.1→lexN l t.2 = false)
 | [],t,h,_,_,_=>by simp [zh7] at h
 | [a],t,h,l,hl,he=>by
  simp only [zh7,lastT,List.mem_map,List.mem_filter,List.mem_range] at h
  obtain ⟨p,⟨h1,h2⟩,rfl⟩:=h
  have hlen:=hl.len
  cases l with
  | nil=>simp at hlen
  | cons r l=>
   cases l with
   | cons _ _=>simp at hlen
   | nil=>
    simp only [hd0,List.getD_cons_zero] at he
    subst he
    exact ⟨by simp [tailP,sm],fun _=>zS0 _⟩
 | a :: b :: q,t,h,l,hl,he=>by
  simp only [zh7,longT,List.mem_filterMap,List.mem_range] at h
  obtain ⟨p,h1,h2⟩:=h
  unfold longF at h2
  split at h2
  ·cases e:fmost (linkT p (zh7 (b :: q) x)) none with
   | none=>rw [e] at h2;cases h2
   | some w=>
    rw [e] at h2
    cases h2
    cases l with
    | nil=>have:=hl.len;simp at this
    | cons p' m=>
     simp only [hd0,List.getD_cons_zero] at he
     subst he
     obtain ⟨k0,k1,k2,k3⟩:=hl.tail
     have hml:0 < m.length:=by rw [k0.len];simp
     obtain ⟨u,u1,u2⟩:=zy2 x (b :: q) m (by simp) k0
     obtain ⟨o1,o2⟩:=zO7 x (b :: q) u u1 m k0 u2.symm
     have hin:(u.1 + linkP p' (u.2.getD 0 0),u.2)∈linkT p' (zh7 (b :: q) x):=by
      simp only [linkT,List.mem_map,List.mem_filter,decide_eq_true_eq]
      exact ⟨u,⟨u1,by rw [u2];exact k3 hml⟩,rfl⟩
     obtain ⟨c1,c2⟩:=zY2 _ w (srt_link p' _ (zP1 x (b :: q))) e _ hin
     have tl:tailP x (a :: b :: q) (p' :: m) = ownP a x p' + linkP p' (m.getD 0 0) + tailP x (b :: q) m:=by
      cases m with
      | nil=>simp at hml
      | cons r m=>rw [zO9];rfl
     rw [tl]
     simp only at c1 c2
     rw [u2] at c1 c2
     refine ⟨by show _≤ownP a x p' + w.1;omega,fun z=>?_⟩
     have z:ownP a x p' + linkP p' (m.getD 0 0) + tailP x (b :: q) m = ownP a x p' + w.1:=z
     have z1:tailP x (b :: q) m = u.1:=by omega
     have z2:u.1 + linkP p' (m.getD 0 0) = w.1:=by omega
     show lexN (p' :: m) (p' :: w.2) = false
     simp only [lexN,if_true]
     rcases c2 z2 with g | g
     ·rw [← g];exact o2 z1
     ·have hwl:0 < w.2.length:=by
       rcases zs6 _ _ _ e with y | y
       ·simp only [linkT,List.mem_map,List.mem_filter] at y
        obtain ⟨v,⟨y1,_⟩,rfl⟩:=y
        have:=(zu0 x (b :: q) v y1).1.len
        simp at this ⊢;omega
       ·cases y
      refine zS2 m w.2 hml hwl ?_
      have g:hd0 w < u.2.getD 0 0:=g
      rw [u2] at g
      exact g
  ·cases h2
theorem best_opt (q x:List Nat) (hq:q≠[]) (v:Int) (l:List Nat) (h:bestR q x = some (v,l)) (m:List Nat) (hm:Lay q x m):pts q x m q.length≤v∧(pts q x m q.length = v→lexN m l = false):=by
 have hs:=(zA9 q x hq v l h).1
 unfold bestR at h
 obtain ⟨u,u1,u2⟩:=zy2 x q m hq hm
 obtain ⟨o1,o2⟩:=zO7 x q u u1 m hm u2.symm
 obtain ⟨c1,c2⟩:=zY2 _ _ (srt_lead _ (zP1 x q)) h (leadT u) (List.mem_map_of_mem u1)
 have hpos:0 < q.length:=List.length_pos_iff.mpr hq
 have hml:0 < m.length:=by rw [hm.len];exact hpos
 have hll:0 < l.length:=by rw [hs.len];exact hpos
 have tp:pts q x m q.length = tailP x q m + leadP (m.getD 0 0):=by
  cases q with
  | nil=>simp at hpos
  | cons a q=>
   have e:=hm.len
   cases m with
   | nil=>simp at hml
   | cons p m=>
    simp only [List.length_cons] at e ⊢
    have:q.length = m.length:=by omega
    rw [this,← zW9];rfl
 simp only [leadT] at c1 c2
 rw [u2] at c1 c2
 rw [tp]
 refine ⟨by omega,fun z=>?_⟩
 have z1:tailP x q m = u.1:=by omega
 rcases c2 (by omega) with g | g
 ·have:u.2 = l:=congrArg Prod.snd g
  rw [← this];exact o2 z1
 ·refine zS2 m l hml hll ?_
  have g:l.getD 0 0 < u.2.getD 0 0:=g
  rw [u2] at g
  exact g
theorem yn9 (q x:List Nat) (hq:q≠[]) (h:subs q x = false):bestR q x = none:=by
 cases e:bestR q x with
 | none=>rfl
 | some t=>
  have:=zD0 x q t.2 (zA9 q x hq t.1 t.2 e).1
  rw [h] at this;cases this
noncomputable def bestA (q x:List Nat):Option Tl:=if q = [] then some (0,[]) else bestR q x
structure IsBest (q x:List Nat) (v:Int) (l:List Nat):Prop where
 lay:Lay q x l
 pnt:v = pts q x l q.length
 opt:∀ m,Lay q x m→pts q x m q.length≤v∧(pts q x m q.length = v→lexN m l = false)
theorem yk5 (x l:List Nat) (h:Lay [] x l):l = []:=List.eq_nil_of_length_eq_zero h.len
theorem zD1 (x:List Nat):Lay [] x []:=⟨rfl,fun j hj=>by simp at hj,fun j hj=>by simp at hj,fun j hj=>by simp at hj⟩
theorem zJ5 (q x l:List Nat) (h:Lay q x l):∃ v l',bestA q x = some (v,l')∧IsBest q x v l':=by
 unfold bestA
 by_cases hq:q = []
 ·subst hq
  rw [if_pos rfl]
  refine ⟨0,[],rfl,zD1 x,rfl,fun m hm=>?_⟩
  rw [yk5 x m hm]
  exact ⟨Int.le_refl _,fun _=>rfl⟩
 ·rw [if_neg hq]
  obtain ⟨v,l',e,h1,h2⟩:=yo0 q x l hq h
  exact ⟨v,l',e,h1,h2,best_opt q x hq v l' e⟩
theorem zJ6 (q x:List Nat) (h:subs q x = false):bestA q x = none:=by
 unfold bestA
 by_cases hq:q = []
 ·subst hq;cases x <;> simp [subs] at h
 ·rw [if_neg hq];exact yn9 q x hq h
end Law
set_option Elab.async false
set_option linter.all false
set_option maxHeartbeats 1000000
namespace FD
open PySem PySem.Spec PyProof.Rows L2
theorem tn_ok {g:FT} {τ:DS} {b:Bool} (h:g τ = .ok b):tNotD g τ = .ok (!b):=by rw [zf5,h];rfl
theorem sl_ok {fe:FE} {fl fh:FO} {τ:DS} {d r:D} {l u:Option Int} (h1:fe τ = .ok d) (h2:fl τ = .ok l) (h3:fh τ = .ok u) (h:slD d l u = .ok r):eSl fe fl fh τ = .ok r:=by
 rw [zi1,h1,Rs.bind_ok,h2,Rs.bind_ok,h3,Rs.bind_ok,h]
theorem os_ok {fe:FE} {τ:DS} {i:Int} (h:fe τ = .ok (.int i)):oSome fe τ = .ok (some i):=by rw [zd1,h];rfl
theorem yo6 {fa fb:FE} {τ:DS} {d:D} (h1:fa τ = .ok (.bl true)) (h2:fb τ = .ok d):eAnd fa fb τ = .ok d:=by
 rw [zf0,h1,Rs.bind_ok,ze1,Rs.bind_ok,if_pos rfl,h2]
theorem or_l {fa fb:FE} {τ:DS} (h1:fa τ = .ok (.bl true)):eOr fa fb τ = .ok (.bl true):=by
 rw [zh6,h1,Rs.bind_ok,ze1,Rs.bind_ok,if_pos rfl]
theorem or_r {fa fb:FE} {τ:DS} {d:D} (h1:fa τ = .ok (.bl false)) (h2:fb τ = .ok d):eOr fa fb τ = .ok d:=by
 rw [zh6,h1,Rs.bind_ok,ze1,Rs.bind_ok,if_neg (by simp),h2]
theorem or_tl {f g:FT} {τ:DS} (h1:f τ = .ok true):tOrD f g τ = .ok true:=by rw [zi0,h1,Rs.bind_ok,if_pos rfl]
theorem or_tr {f g:FT} {τ:DS} {b:Bool} (h1:f τ = .ok false) (h2:g τ = .ok b):tOrD f g τ = .ok b:=by rw [zi0,h1,Rs.bind_ok,if_neg (by simp),h2]
theorem ne_bl (a b:Bool):neD (.bl a) (.bl b) = .ok (.bl (!(a == b))):=by
 cases a <;> cases b <;> rfl
end FD
namespace Law
open PySem PySem.Spec PyProof.Rows L2 FD
theorem add_tx (a b:List Nat) (ha:a.length≤1000) (hb:b.length≤1000):addD (tx a) (tx b) = .ok (tx (a ++ b)):=by
 rw [yo7 (by rw [zR5,zR5,sizeLine_v];omega),str_cat]
end Law
set_option Elab.async false
set_option linter.all false
set_option maxHeartbeats 1000000
namespace FD
open PySem PySem.Spec PyProof.Rows L2
theorem comp_okB {k:Nat} {idx:List Nat} {fi:FA} {set:FG} {ft:FT} {fe:FE} {τ:DS} {ds xs:List D} (h1:fi τ = .ok ds) (h2:compL set ft fe (tau0 k idx τ) ds = .ok xs) (h3:xs.length≤1000000):eComp k idx fi set ft fe τ = .ok xs:=by
 unfold eComp
 rw [h1,Rs.bind_ok,h2]
 exact if_pos (by rw [Law.sizeLine_v];omega)
theorem rg2_ok {fa fb:FE} {τ:DS} {i n:Nat} (h1:fa τ = .ok (.int (i:Int))) (h2:fb τ = .ok (.int (n:Int))) (hi:i≤100000) (hn:n≤100000):iRg2 (aCons fa (aCons fb aNil)) τ = .ok ((List.range (n - i)).map fun (k:Nat)=>D.int ((i:Int) + k)):=by
 unfold iRg2
 rw [za9,h1,Rs.bind_ok,za9,h2,Rs.bind_ok,zb5,Rs.bind_ok,Rs.bind_ok,Rs.bind_ok]
 simp only [int2]
 rw [if_pos ⟨⟨by omega,by omega⟩,by omega,by omega⟩]
 unfold rngD
 have:((n:Int) - (i:Int)).toNat = n - i:=by omega
 rw [this]
theorem addL {a b:List D} (h:a.length + b.length≤1000000):addD (.lst a) (.lst b) = .ok (.lst (a ++ b)):=by
 show (if _ then Rs.ok (D.lst _) else Rs.no) = _
 exact if_pos (by rw [Law.sizeLine_v];omega)
theorem nilE {τ:DS}:eLst aNil τ = .ok (.lst []):=by
 rw [zW2,zb5,Rs.bind_ok];exact if_pos (Nat.zero_le _)
end FD
namespace Law
open PySem PySem.Spec PyProof.Rows L2 FD
theorem yi6:∀ i,i < 26→Builtin.Str.occurrences ("abcdefghijklmnopqrstuvwxyz" : Str) ⟨#[i + 97]⟩ 0 ("abcdefghijklmnopqrstuvwxyz" : Str).length 1 = [i]:=by decide +kernel
theorem great_at:∀ i,i < 26→("ABCDEFGHIJKLMNOPQRSTUVWXYZ" : Str).cps.toList[i]? = some (i + 65):=by decide +kernel
theorem yk0 (a c:Nat):zl8 [signD a,signD c] = .ok (.bl (meetC a c)):=by
 have st:zg9 3 [signD a,signD c] = [some (.val (signD a)),some (.val (signD c)),none]:=rfl
 unfold zl8 zC2
 rw [zg6,st,zc6,zd6,eC_ap,Fl.of_ok,zf9,zc1]
 simp only [List.set_cons_succ,List.set_cons_zero]
 have h0:eOp eqD (eVar 0) (eVar 1) [some (.val (signD a)),some (.val (signD c)),some (.val (.str "abcdefghijklmnopqrstuvwxyz"))] = .ok (.bl (a == c)):=op2 (za3 rfl) (za3 rfl) (by simp only [signD];rw [eqD_s,zQ7])
 have h1:eOp inD (eVar 0) (eVar 2) [some (.val (signD a)),some (.val (signD c)),some (.val (.str "abcdefghijklmnopqrstuvwxyz"))] = .ok (.bl (decide (97≤a∧a≤122))):=op2 (za3 rfl) (za3 rfl) (by simp only [signD];rw [inD_s,zp5,zu7])
 by_cases e:a = c
 ·have e':(a == c) = true:=by simpa using e
  rw [e'] at h0
  rw [or_l h0]
  simp [meetC,e]
 ·have e':(a == c) = false:=by simpa using e
  rw [e'] at h0
  by_cases s:97≤a∧a≤122
  ·rw [decide_eq_true s] at h1
   obtain ⟨i,hi,rfl⟩:∃ i,i < 26∧a = i + 97:=⟨a - 97,by omega,by omega⟩
   have hidx:eMt "str" idxD (eVar 2) (aCons (eVar 0) aNil) [some (.val (signD (i + 97))),some (.val (signD c)),some (.val (.str "abcdefghijklmnopqrstuvwxyz"))] = .ok (.int (i:Nat)):=by
    have hty:isTy "str" (.str "abcdefghijklmnopqrstuvwxyz") = true:=rfl
    rw [zi2,za3 (d:=.str "abcdefghijklmnopqrstuvwxyz") rfl,Rs.bind_ok,hty,if_pos rfl,za9,za3 (d:=signD (i + 97)) rfl,Rs.bind_ok,zb5,Rs.bind_ok,Rs.bind_ok]
    simp only [idxD,signD,str11]
    rw [yi6 i hi]
   have hix:ixD (.str "ABCDEFGHIJKLMNOPQRSTUVWXYZ") (.int (i:Nat)) = .ok (signD (i + 65)):=zF6 (zJ7 (by omega) (by rw [Int.toNat_natCast];exact great_at i hi)) (by decide +kernel)
   have h2:eOp eqD (eVar 1) (eOp ixD (eC (.str "ABCDEFGHIJKLMNOPQRSTUVWXYZ")) (eMt "str" idxD (eVar 2) (aCons (eVar 0) aNil))) [some (.val (signD (i + 97))),some (.val (signD c)),some (.val (.str "abcdefghijklmnopqrstuvwxyz"))] = .ok (.bl (c == i + 65)):=
    op2 (za3 rfl) (op2 rfl hidx hix) (by simp only [signD];rw [eqD_s,zQ7])
   rw [or_r h0 (yo6 h1 h2)]
   have hup:up1 (i + 97) = i + 65:=by unfold up1;rw [if_pos s];omega
   simp only [Fl.of_ok,zb8,meetC,e',Bool.false_or,decide_eq_true s,Bool.true_and,hup]
   congr 2
   rw [Bool.eq_iff_iff];simp;omega
  ·rw [decide_eq_false s] at h1
   have h2:eAnd (eOp inD (eVar 0) (eVar 2)) (eOp eqD (eVar 1) (eOp ixD (eC (.str "ABCDEFGHIJKLMNOPQRSTUVWXYZ")) (eMt "str" idxD (eVar 2) (aCons (eVar 0) aNil)))) [some (.val (signD a)),some (.val (signD c)),some (.val (.str "abcdefghijklmnopqrstuvwxyz"))] = .ok (.bl false):=by
    rw [zf0,h1,Rs.bind_ok,ze1,Rs.bind_ok,if_neg (by simp)]
   rw [or_r h0 h2]
   simp only [Fl.of_ok,zb8,meetC,e',Bool.false_or,decide_eq_false s,Bool.false_and]
noncomputable def stt (l:List Nat):Nat:=match l.getLast? with
 | some p=>p + 1
 | none=>0
noncomputable def ext (a:Nat) (x l:List Nat):List (List Nat):=(((List.range (x.length - stt l)).map (stt l + ·)).filter fun k=>meetC a (x.getD k 0)).map fun k=>l ++ [k]
noncomputable def laysR (q x:List Nat):List (List Nat):=q.foldl (fun found a=>found.flatMap (ext a x)) [[]]
theorem zj3 (l:List Nat) (p j:Nat):(l ++ [p]).getD j 0 = if j < l.length then l.getD j 0 else if j = l.length then p else 0:=by
 by_cases h:j < l.length
 ·rw [if_pos h];simp [List.getD_eq_getElem?_getD,List.getElem?_append_left h]
 ·rw [if_neg h]
  by_cases e:j = l.length
  ·subst e;simp [List.getD_eq_getElem?_getD]
  ·rw [if_neg e,List.getD_eq_getElem?_getD,List.getElem?_eq_none (by simp;omega)];rfl
theorem zX0 (l:List Nat):stt l = if l = [] then 0 else l.getD (l.length - 1) 0 + 1:=by
 unfold stt
 cases l with
 | nil=>rfl
 | cons a r=>
  rw [List.getLast?_eq_getElem?,if_neg (by simp),List.getD_eq_getElem?_getD,List.getElem?_eq_getElem (by simp:(a :: r).length - 1 < (a :: r).length)]
  rfl
theorem zZ6 (q x l:List Nat) (a p:Nat):Lay (q ++ [a]) x (l ++ [p])↔Lay q x l∧stt l≤p∧p < x.length∧meetC a (x.getD p 0) = true:=by
 constructor
 ·intro h
  have hl:l.length = q.length:=by have:=h.len;simp at this;exact this
  refine ⟨⟨hl,fun j hj=>?_,fun j hj=>?_,fun j hj=>?_⟩,?_,?_,?_⟩
  ·have:=h.ris j (by simp;omega)
   rwa [zj3,zj3,if_pos (by omega),if_pos hj] at this
  ·have:=h.inn j (by simp;omega)
   rwa [zj3,if_pos hj] at this
  ·have:=h.met j (by simp;omega)
   rwa [zj3,zj3,if_pos (by omega),if_pos hj] at this
  ·rw [zX0]
   by_cases e:l = []
   ·rw [if_pos e];omega
   ·rw [if_neg e]
    have hp:0 < l.length:=List.length_pos_iff.mpr e
    have:=h.ris (l.length - 1) (by simp;omega)
    rw [zj3,zj3,if_pos (by omega),if_neg (by omega),if_pos (by omega)] at this
    omega
  ·have:=h.inn l.length (by simp)
   rwa [zj3,if_neg (by omega),if_pos rfl] at this
  ·have:=h.met l.length (by simp)
   rwa [zj3,zj3,if_neg (by omega),if_pos (by omega),if_neg (by omega),if_pos rfl] at this
 ·rintro ⟨h,h1,h2,h3⟩
  have hl:=h.len
  refine ⟨by simp [hl],fun j hj=>?_,fun j hj=>?_,fun j hj=>?_⟩
  ·simp at hj
   rw [zj3,zj3,if_pos (by omega)]
   by_cases e:j + 1 < l.length
   ·rw [if_pos e];exact h.ris j e
   ·rw [if_neg e,if_pos (by omega)]
    rw [zX0,if_neg (by intro z;subst z;simp at hj)] at h1
    have:l.length - 1 = j:=by omega
    rw [this] at h1;omega
  ·simp at hj
   rw [zj3]
   by_cases e:j < l.length
   ·rw [if_pos e];exact h.inn j e
   ·rw [if_neg e,if_pos (by omega)];exact h2
  ·simp at hj
   by_cases e:j < l.length
   ·rw [zj3,zj3,if_pos e,if_pos (by omega)];exact h.met j e
   ·have e1:(q ++ [a]).getD j 0 = a:=by rw [zj3,if_neg (by omega),if_pos (by omega)]
    have e2:(l ++ [p]).getD j 0 = p:=by rw [zj3,if_neg (by omega),if_pos (by omega)]
    rw [e1,e2];exact h3
theorem zM8 (a:Nat) (x l0 l:List Nat):l∈ext a x l0↔∃ p,l = l0 ++ [p]∧stt l0≤p∧p < x.length∧meetC a (x.getD p 0) = true:=by
 unfold ext
 simp only [List.mem_map,List.mem_filter,List.mem_range]
 constructor
 ·rintro ⟨p,⟨⟨k,hk,rfl⟩,hm⟩,rfl⟩
  exact ⟨_,rfl,by omega,by omega,hm⟩
 ·rintro ⟨p,rfl,h1,h2,h3⟩
  exact ⟨p,⟨⟨p - stt l0,by omega,by omega⟩,h3⟩,rfl⟩
theorem zM7 (a:Nat) (x p:List Nat) (found:List (List Nat)) (h:∀ l,l∈found↔Lay p x l) (l:List Nat):l∈found.flatMap (ext a x)↔Lay (p ++ [a]) x l:=by
 rw [List.mem_flatMap]
 constructor
 ·rintro ⟨l0,h0,h1⟩
  obtain ⟨k,rfl,h2⟩:=(zM8 a x l0 l).mp h1
  exact (zZ6 p x l0 a k).mpr ⟨(h l0).mp h0,h2⟩
 ·intro hl
  have hne:l≠[]:=fun z=>by subst z;have:=hl.len;simp at this
  have e:l = l.dropLast ++ [l.getLast hne]:=(List.dropLast_concat_getLast hne).symm
  rw [e] at hl
  obtain ⟨h1,h2⟩:=(zZ6 p x _ a _).mp hl
  exact ⟨l.dropLast,(h _).mpr h1,(zM8 a x _ l).mpr ⟨_,e,h2⟩⟩
theorem zZ2 (x:List Nat):∀ (q p:List Nat) (found:List (List Nat)),(∀ l,l∈found↔Lay p x l)→∀ l,l∈q.foldl (fun found a=>found.flatMap (ext a x)) found↔Lay (p ++ q) x l
 | [],p,found,h,l=>by rw [List.append_nil];exact h l
 | a :: q,p,found,h,l=>by
  have:=zZ2 x q (p ++ [a]) _ (zM7 a x p found h) l
  rw [List.append_assoc] at this
  exact this
theorem zz3 (q x l:List Nat):l∈laysR q x↔Lay q x l:=by
 refine zZ2 x q [] [[]] (fun l=>?_) l
 constructor
 ·intro h
  have:l = []:=by simpa using h
  subst this;exact zD1 x
 ·intro h
  have:l = []:=List.eq_nil_of_length_eq_zero h.len
  subst this;simp
theorem zN9 (a:Nat) (x l:List Nat):(ext a x l).length≤x.length:=by
 unfold ext
 rw [List.length_map]
 have:=List.length_filter_le (fun k=>meetC a (x.getD k 0)) ((List.range (x.length - stt l)).map (stt l + ·))
 rw [List.length_map,List.length_range] at this
 omega
theorem yb0 (a:Nat) (x:List Nat) (hx:x.length≤10):∀ found:List (List Nat),(found.flatMap (ext a x)).length≤10 * found.length
 | []=>by simp
 | l :: r=>by
  have:=yb0 a x hx r
  have h1:=zN9 a x l
  simp only [List.flatMap_cons,List.length_append,List.length_cons]
  omega
end Law
set_option Elab.async false
set_option linter.all false
set_option maxHeartbeats 1000000
namespace FD
open PySem PySem.Spec PyProof.Rows L2
theorem okD_nats (l:List Nat):okD (.lst (l.map fun (k:Nat)=>D.int k)) = true:=by
 have a:∀ l:List Nat,plainDs (l.map fun (k:Nat)=>D.int k) = true:=fun l=>by
  induction l with
  | nil=>rfl
  | cons a r ih=>simp [plainDs,zp7,ih]
 have b:∀ l:List Nat,PyData.canLayAll0 (toPys (l.map fun (k:Nat)=>D.int k)) = true:=fun l=>by
  induction l with
  | nil=>rfl
  | cons a r ih=>simp [toPys,toPy,PyData.canLayAll0,PyData.canLay0,ih]
 have c:∀ l:List Nat,PyData.depthAll (toPys (l.map fun (k:Nat)=>D.int k)) = 0:=fun l=>by
  induction l with
  | nil=>rfl
  | cons a r ih=>simp [toPys,toPy,PyData.depthAll,PyData.depth,ih]
 simp [okD,zp7,toPy,PyData.canLay0,PyData.depth,a,b l,c]
theorem okD_nil:okD (.lst []) = true:=by decide
theorem eqv_nil (ds:List D):eqvD (.lst ds) (.lst []) = ds.isEmpty:=by
 simp only [eqvD,toPy,toPys,PyData.eqv,zJ0]
 cases ds <;> rfl
theorem ne_nil (ds:List D) (h:okD (.lst ds) = true):neD (.lst ds) (.lst []) = .ok (.bl (!ds.isEmpty)):=by
 simp only [neD,h,okD_nil,and_self,if_true,eqv_nil]
theorem if_t {g:FT} {fa fb:FE} {τ:DS} {r:Rs D} (h1:g τ = .ok true) (h2:fa τ = r):eIf g fa fb τ = r:=by rw [zi3,h1,Rs.bind_ok,if_pos rfl,h2]
theorem if_f {g:FT} {fa fb:FE} {τ:DS} {r:Rs D} (h1:g τ = .ok false) (h2:fb τ = r):eIf g fa fb τ = r:=by rw [zi3,h1,Rs.bind_ok,if_neg (by simp),h2]
end FD
namespace Law
open PySem PySem.Spec PyProof.Rows L2 FD
noncomputable def stE:FE:=(eIf (FD.tB (eOp neD (eVar 5) (eLst aNil))) (eOp addD (eOp ixD (eVar 5) (eNeg (eC (.int 1)))) (eC (.int 1))) (eC (.int 0)))
noncomputable def cmE:FA:=(eComp 1 [5,3,1] (iRg2 (aCons (eVar 6) (aCons (eBlt lenD (aCons (eVar 1) aNil)) aNil))) (gNm 0) (tTru (eCall zl8 (aCons (eVar 2) (aCons (eOp ixD (eVar 3) (eVar 0)) aNil)))) (eOp addD (eVar 1) (eLst (aCons (eVar 0) aNil))))
noncomputable def cmV:FE:=fun τ=>(cmE τ).bind fun ds=>.ok (.lst ds)
noncomputable def ib:FS:=(sSeq (sSet 6 stE) (sSet 4 (eOp addD (eVar 4) cmV)))
noncomputable def ob:FS:=(sSeq (sSet 4 (eLst aNil)) (sSeq (sFor (iAny (eVar 2)) (gNm 5) ib) (sSet 2 (eVar 4))))
theorem lays_b:zt4 = sSeq (sSet 2 (eLst (aCons (eLst aNil) aNil))) (sSeq (sFor (iAny (eVar 0)) (gNm 3) ob) (sRet (eVar 2))):=by
 unfold zt4 ob ib cmV cmE stE;rfl
noncomputable abbrev S7 (q x:List Nat) (a2 a3 a4 a5 a6:Option Sl):DS:=[some (.val (tx q)),some (.val (tx x)),a2,a3,a4,a5,a6]
theorem neg_nts (l:List Nat) (h:l≠[]):ixD (nts l) (.int (-1)) = .ok (.int (l.getD (l.length - 1) 0:Nat)):=by
 have hp:0 < l.length:=List.length_pos_iff.mpr h
 refine zV6 ?_
 have e:ixN (l.map fun (k:Nat)=>D.int k).length (-1) = some (l.length - 1):=by
  unfold ixN
  rw [List.length_map,if_neg (by omega),if_pos (by omega)]
  congr 1;omega
 unfold atI
 rw [e]
 show (l.map fun (k:Nat)=>D.int k)[l.length - 1]? = _
 rw [List.getElem?_map,zz5 l (l.length - 1) (by omega)];rfl
theorem stE_ok (q x l:List Nat) (a2 a3 a4 a6:Option Sl):stE (S7 q x a2 a3 a4 (some (.val (nts l))) a6) = .ok (.int (stt l:Nat)):=by
 unfold stE
 have hn:=ne_nil _ (okD_nats l)
 rw [zX0]
 cases l with
 | nil=>exact if_f (tB_ok (op2 (za3 rfl) nilE hn)) rfl
 | cons a r=>
  rw [if_neg (by simp)]
  refine if_t (tB_ok (op2 (za3 rfl) nilE hn)) ?_
  rw [op2 (op2 (za3 rfl) (rfl:eNeg (eC (.int 1)) _ = .ok (.int (-1))) (neg_nts (a :: r) (by simp))) rfl zd3]
  congr 2
theorem cmV_ok (q x l:List Nat) (a:Nat) (a2 a4:Option Sl) (hx:x.length≤10) (hl:l.length≤10) (hs:stt l≤1000):cmV (S7 q x a2 (some (.val (signD a))) a4 (some (.val (nts l))) (some (.val (.int (stt l:Nat))))) = .ok (.lst ((ext a x l).map nts)):=by
 have r2:=rg2_ok (fa:=eVar 6) (fb:=eBlt lenD (aCons (eVar 1) aNil)) (τ:=S7 q x a2 (some (.val (signD a))) a4 (some (.val (nts l))) (some (.val (.int (stt l:Nat))))) (i:=stt l) (n:=x.length) (za3 rfl) (blt1 (za3 rfl) (zt5 x (by omega))) (by omega) (by omega)
 have e1:((List.range (x.length - stt l)).map fun (k:Nat)=>D.int (((stt l:Nat):Int) + k)) = ((List.range (x.length - stt l)).map (stt l + ·)).map fun (k:Nat)=>D.int k:=by
  rw [List.map_map]
  apply List.map_congr_left
  intro k _
  show D.int (((stt l:Nat):Int) + (k:Int)) = D.int ((stt l + k:Nat):Int)
  congr 1
 rw [e1] at r2
 have cf:=zr0 (set:=gNm 0) (ft:=(tTru (eCall zl8 (aCons (eVar 2) (aCons (eOp ixD (eVar 3) (eVar 0)) aNil))))) (fe:=(eOp addD (eVar 1) (eLst (aCons (eVar 0) aNil)))) (τ:=[none,some (.val (nts l)),some (.val (signD a)),some (.val (tx x))])
  (fun (k:Nat)=>D.int k) (fun k=>nts (l ++ [k])) (fun k=>meetC a (x.getD k 0)) ((List.range (x.length - stt l)).map (stt l + ·)) fun p hp=>by
   obtain ⟨k,hk,rfl⟩:=List.mem_map.mp hp
   have hk:=List.mem_range.mp hk
   refine ⟨[some (.val (.int ((stt l + k:Nat):Int))),some (.val (nts l)),some (.val (signD a)),some (.val (tx x))],rfl,tru_ok (call2 (za3 rfl) (op2 (za3 rfl) (za3 rfl) (tx_at x (stt l + k) (by omega) (by omega))) (yk0 a _)),op2 (za3 rfl) (lst1e (za3 rfl)) ?_⟩
   rw [addL (by simp;omega)]
   simp
 have hlen:((((List.range (x.length - stt l)).map (stt l + ·)).filter fun k=>meetC a (x.getD k 0)).map fun k=>nts (l ++ [k])).length≤1000000:=by
  have:=zN9 a x l
  unfold ext at this
  rw [List.length_map] at this ⊢
  omega
 have ec:=comp_okB (k:=1) (idx:=[5,3,1]) (τ:=S7 q x a2 (some (.val (signD a))) a4 (some (.val (nts l))) (some (.val (.int (stt l:Nat))))) r2 cf hlen
 unfold cmV cmE
 rw [ec]
 unfold ext
 rw [List.map_map]
 rfl
theorem gen_ib (e1 e2:FE) (S L M R:D) (a0 a1 a2 a3 a5 a6:Option Sl) (h1:e1 [a0,a1,a2,a3,some (.val L),a5,a6] = .ok S) (h2:e2 [a0,a1,a2,a3,some (.val L),a5,some (.val S)] = .ok M) (h3:addD L M = .ok R) :
  sSeq (sSet 6 e1) (sSet 4 (eOp addD (eVar 4) e2)) [a0,a1,a2,a3,some (.val L),a5,a6] = .nx [a0,a1,a2,a3,some (.val R),a5,some (.val S)]:=by
 simp only [zc6,zd6,zc7,zh0,zc1,zd0,zc8,zc4,ze5,ze8,zg0,zg1,zg3,zc9,zf3,zd5,ze0,tB_ap,ze3,ze9,zi0,zf5,zf4,zb9,eC_ap,zb5,za9,zb6,zd4,zi3,zf0,zh6,zg2,zf7,zi2,zi1,zd9,zd1,zb1,List.getElem?_cons_zero,List.getElem?_cons_succ,List.set_cons_succ,List.set_cons_zero,zb2,zc5,Rs.bind_ok,Fl.of_ok,zf9,zi5,zb8,zd7,zb7,ze1,zd3,zg5,ltI_i,leD_i,gtD_i,geD_i,eqD_i,eqD_s,neD_i,neD_s,zd2,zg8,if_true,Bool.false_eq_true,if_false,Bool.not_true,Bool.not_false,h1,h2,h3]
theorem ib_ok (q x l:List Nat) (a:Nat) (acc:List (List Nat)) (a2 a6:Option Sl) (hx:x.length≤10) (hl:l.length≤10) (hs:stt l≤1000) (hc:acc.length≤900000) :
  ∃ b6,ib (S7 q x a2 (some (.val (signD a))) (some (.val (.lst (acc.map nts)))) (some (.val (nts l))) a6) = .nx (S7 q x a2 (some (.val (signD a))) (some (.val (.lst ((acc ++ ext a x l).map nts)))) (some (.val (nts l))) b6):=by
 have h3:addD (.lst (acc.map nts)) (.lst ((ext a x l).map nts)) = .ok (.lst ((acc ++ ext a x l).map nts)):=by
  have:=zN9 a x l
  rw [addL (by rw [List.length_map,List.length_map];omega),List.map_append]
 unfold ib
 exact ⟨_,gen_ib stE cmV _ _ _ _ _ _ _ _ _ _ (stE_ok q x l _ _ _ _) (cmV_ok q x l a _ _ hx hl hs) h3⟩
theorem yl6 (q x:List Nat) (a:Nat) (a2:Option Sl) (hx:x.length≤10):∀ (ls acc:List (List Nat)) (a5 a6:Option Sl),(∀ l∈ls,l.length≤10∧stt l≤1000)→acc.length + 10 * ls.length≤900000 →
  ∃ b5 b6,loopD (gNm 5) ib (ls.map nts) (S7 q x a2 (some (.val (signD a))) (some (.val (.lst (acc.map nts)))) a5 a6) = .nx (S7 q x a2 (some (.val (signD a))) (some (.val (.lst ((acc ++ ls.flatMap (ext a x)).map nts)))) b5 b6)
 | [],acc,a5,a6,_,_=>⟨a5,a6,by rw [List.flatMap_nil,List.append_nil];rfl⟩
 | l :: ls,acc,a5,a6,h,hc=>by
  simp only [List.length_cons] at hc
  obtain ⟨b6,h1⟩:=ib_ok q x l a acc a2 a6 hx (h l (List.mem_cons_self ..)).1 (h l (List.mem_cons_self ..)).2 (by omega)
  have:=zN9 a x l
  obtain ⟨c5,c6,h2⟩:=yl6 q x a a2 hx ls (acc ++ ext a x l) (some (.val (nts l))) b6 (fun m hm=>h m (List.mem_cons_of_mem _ hm)) (by rw [List.length_append];omega)
  refine ⟨c5,c6,?_⟩
  rw [List.map_cons,loopD,zg8,Fl.of_ok]
  have h1':ib ((S7 q x a2 (some (.val (signD a))) (some (.val (.lst (acc.map nts)))) a5 a6).set 5 (some (.val (nts l)))) = .nx (S7 q x a2 (some (.val (signD a))) (some (.val (.lst ((acc ++ ext a x l).map nts)))) (some (.val (nts l))) b6):=h1
  rw [h1']
  rw [List.flatMap_cons,← List.append_assoc]
  exact h2
theorem gen_ob (it:FA) (b:FS) (L:List D) (R:D) (a0 a1 a2 a3 a4 a5 a6 b5 b6:Option Sl) (h1:it [a0,a1,a2,a3,some (.val (.lst [])),a5,a6] = .ok L) (h2:loopD (gNm 5) b L [a0,a1,a2,a3,some (.val (.lst [])),a5,a6] = .nx [a0,a1,a2,a3,some (.val R),b5,b6]) :
  sSeq (sSet 4 (eLst aNil)) (sSeq (sFor it (gNm 5) b) (sSet 2 (eVar 4))) [a0,a1,a2,a3,a4,a5,a6] = .nx [a0,a1,some (.val R),a3,some (.val R),b5,b6]:=by
 have h0:=nilE (τ:=[a0,a1,a2,a3,a4,a5,a6])
 simp only [zc6,zd6,zc7,zh0,zc1,zd0,zc8,zc4,ze5,ze8,zg0,zg1,zg3,zc9,zf3,zd5,ze0,tB_ap,ze3,ze9,zi0,zf5,zf4,zb9,eC_ap,zb5,za9,zb6,zd4,zi3,zf0,zh6,zg2,zf7,zi2,zi1,zd9,zd1,zb1,List.getElem?_cons_zero,List.getElem?_cons_succ,List.set_cons_succ,List.set_cons_zero,zb2,zc5,Rs.bind_ok,Fl.of_ok,zf9,zi5,zb8,zd7,zb7,ze1,zd3,zg5,ltI_i,leD_i,gtD_i,geD_i,eqD_i,eqD_s,neD_i,neD_s,zd2,zg8,if_true,Bool.false_eq_true,if_false,Bool.not_true,Bool.not_false,h0,h1,h2]
theorem yi7 (q x:List Nat) (hx:x.length≤10):∀ (r p:List Nat) (found:List (List Nat)) (a3 a4 a5 a6:Option Sl),(∀ l,l∈found↔Lay p x l)→p.length + r.length≤5→found.length≤10 ^ p.length →
  ∃ b3 b4 b5 b6,loopD (gNm 3) ob (r.map signD) (S7 q x (some (.val (.lst (found.map nts)))) a3 a4 a5 a6) = .nx (S7 q x (some (.val (.lst ((r.foldl (fun found a=>found.flatMap (ext a x)) found).map nts)))) b3 b4 b5 b6)
 | [],p,found,a3,a4,a5,a6,_,_,_=>⟨a3,a4,a5,a6,rfl⟩
 | a :: r,p,found,a3,a4,a5,a6,h,hp,hf=>by
  simp only [List.length_cons] at hp
  have hf4:found.length≤10000:=Nat.le_trans hf (Nat.pow_le_pow_right (by decide:0 < 10) (by omega:p.length≤4))
  have hls:∀ l∈found,l.length≤10∧stt l≤1000:=fun l hl=>by
   have L:=(h l).mp hl
   refine ⟨by rw [L.len];omega,?_⟩
   rw [zX0]
   split
   ·omega
   ·rename_i hne
    have:=L.inn (l.length - 1) (by have:=List.length_pos_iff.mpr hne;omega)
    omega
  obtain ⟨b5,b6,h1⟩:=yl6 q x a (some (.val (.lst (found.map nts)))) hx found [] a5 a6 hls (by simp;omega)
  have hb:ob (S7 q x (some (.val (.lst (found.map nts)))) (some (.val (signD a))) a4 a5 a6) = .nx (S7 q x (some (.val (.lst ((found.flatMap (ext a x)).map nts)))) (some (.val (signD a))) (some (.val (.lst ((found.flatMap (ext a x)).map nts)))) b5 b6):=by
   unfold ob
   exact gen_ob _ _ _ _ _ _ _ _ _ _ _ _ _ rfl h1
  have hfl:=yb0 a x hx found
  obtain ⟨c3,c4,c5,c6,h2⟩:=yi7 q x hx r (p ++ [a]) (found.flatMap (ext a x)) (some (.val (signD a))) (some (.val (.lst ((found.flatMap (ext a x)).map nts)))) b5 b6 (zM7 a x p found h) (by simp;omega) (by
   rw [List.length_append,List.length_singleton,Nat.pow_succ];omega)
  refine ⟨c3,c4,c5,c6,?_⟩
  rw [List.map_cons,loopD,zg8,Fl.of_ok]
  have hb':ob ((S7 q x (some (.val (.lst (found.map nts)))) a3 a4 a5 a6).set 3 (some (.val (signD a)))) = .nx (S7 q x (some (.val (.lst ((found.flatMap (ext a x)).map nts)))) (some (.val (signD a))) (some (.val (.lst ((found.flatMap (ext a x)).map nts)))) b5 b6):=hb
  rw [hb']
  exact h2
theorem gen_lays (it:FA) (b:FS) (L:List D) (A B R:D) (c3 c4 c5 c6:Option Sl) (h1:it [some (.val A),some (.val B),some (.val (.lst [.lst []])),none,none,none,none] = .ok L) (h2:loopD (gNm 3) b L [some (.val A),some (.val B),some (.val (.lst [.lst []])),none,none,none,none] = .nx [some (.val A),some (.val B),some (.val R),c3,c4,c5,c6]) :
  runF 7 (sSeq (sSet 2 (eLst (aCons (eLst aNil) aNil))) (sSeq (sFor it (gNm 3) b) (sRet (eVar 2)))) [A,B] = .ok R:=by
 have st:zg9 7 [A,B] = [some (.val A),some (.val B),none,none,none,none,none]:=rfl
 have h0:=lst1e (nilE (τ:=[some (.val A),some (.val B),none,none,none,none,none]))
 rw [zg6,st]
 simp only [zc6,zd6,zc7,zh0,zc1,zd0,zc8,zc4,ze5,ze8,zg0,zg1,zg3,zc9,zf3,zd5,ze0,tB_ap,ze3,ze9,zi0,zf5,zf4,zb9,eC_ap,zb5,za9,zb6,zd4,zi3,zf0,zh6,zg2,zf7,zi2,zi1,zd9,zd1,zb1,List.getElem?_cons_zero,List.getElem?_cons_succ,List.set_cons_succ,List.set_cons_zero,zb2,zc5,Rs.bind_ok,Fl.of_ok,zf9,zi5,zb8,zd7,zb7,ze1,zd3,zg5,ltI_i,leD_i,gtD_i,geD_i,eqD_i,eqD_s,neD_i,neD_s,zd2,zg8,if_true,Bool.false_eq_true,if_false,Bool.not_true,Bool.not_false,h0,h1,h2]
theorem lays_ok (q x:List Nat) (hq:q.length≤5) (hx:x.length≤10):zk2 [tx q,tx x] = .ok (.lst ((laysR q x).map nts)):=by
 obtain ⟨b3,b4,b5,b6,h⟩:=yi7 q x hx q [] [[]] none none none none (fun l=>by
  constructor
  ·intro h
   have:l = []:=by simpa using h
   subst this;exact zD1 x
  ·intro h
   have:l = []:=List.eq_nil_of_length_eq_zero h.len
   subst this;simp) (by simpa using hq) (by simp)
 unfold zk2
 rw [lays_b]
 have it:iAny (eVar 0) [some (.val (tx q)),some (.val (tx x)),some (.val (.lst [.lst []])),none,none,none,none] = .ok (q.map signD):=by
  rw [zf3,za3 (d:=tx q) rfl,Rs.bind_ok,zd5,tx_signs]
 exact gen_lays _ _ _ _ _ _ _ _ _ _ it h
theorem zR9:∀ (l m:List Nat) (a b:Nat),l.length = m.length→lexN l m = true→lexN (l ++ [a]) (m ++ [b]) = true
 | [],[],_,_,_,h=>by cases h
 | [],_ :: _,_,_,h,_=>by simp at h
 | _ :: _,[],_,_,h,_=>by simp at h
 | x :: xs,y :: ys,a,b,hl,h=>by
  simp only [lexN] at h
  simp only [List.cons_append,lexN]
  by_cases e:x = y
  ·rw [if_pos e] at h ⊢
   exact zR9 xs ys a b (by simpa using hl) h
  ·rw [if_neg e] at h ⊢;exact h
theorem zS1:∀ (l:List Nat) (a b:Nat),a < b→lexN (l ++ [a]) (l ++ [b]) = true
 | [],a,b,h=>by
  simp only [List.nil_append,lexN]
  rw [if_neg (by omega)]
  exact decide_eq_true h
 | x :: xs,a,b,h=>by
  simp only [List.cons_append,lexN,if_true]
  exact zS1 xs a b h
noncomputable def SrtL (ls:List (List Nat)):Prop:=ls.Pairwise fun l m=>lexN l m = true
theorem ext_srt (a:Nat) (x l:List Nat):SrtL (ext a x l):=by
 unfold SrtL ext
 rw [List.pairwise_map]
 refine List.Pairwise.filter _ ?_
 rw [List.pairwise_map]
 refine List.Pairwise.imp (fun {i j} h=>?_) (List.pairwise_lt_range)
 exact zS1 l _ _ (by omega)
theorem step_srt (a:Nat) (x:List Nat) (n:Nat) (found:List (List Nat)) (hn:∀ l∈found,l.length = n) (h:SrtL found):SrtL (found.flatMap (ext a x)):=by
 unfold SrtL
 rw [List.pairwise_flatMap]
 refine ⟨fun l _=>ext_srt a x l,?_⟩
 refine List.Pairwise.imp_of_mem (fun {l m} hl hm hlm u hu v hv=>?_) h
 obtain ⟨p,rfl,_⟩:=(zM8 a x l u).mp hu
 obtain ⟨p',rfl,_⟩:=(zM8 a x m v).mp hv
 exact zR9 l m p p' (by rw [hn l hl,hn m hm]) hlm
theorem ya8 (x:List Nat):∀ (q p:List Nat) (found:List (List Nat)),(∀ l,l∈found↔Lay p x l)→SrtL found→SrtL (q.foldl (fun found a=>found.flatMap (ext a x)) found)
 | [],p,found,_,h=>h
 | a :: q,p,found,hm,h=>ya8 x q (p ++ [a]) (found.flatMap (ext a x)) (zM7 a x p found hm) (step_srt a x p.length found (fun l hl=>((hm l).mp hl).len) h)
theorem lays_srt (q x:List Nat):SrtL (laysR q x):=by
 refine ya8 x q [] [[]] (fun l=>?_) (by simp [SrtL])
 constructor
 ·intro h
  have:l = []:=by simpa using h
  subst this;exact zD1 x
 ·intro h
  have:l = []:=yk5 x l h
  subst this;simp
noncomputable def allT (q x:List Nat):List Tl:=(laysR q x).map fun l=>(pts q x l q.length,l)
theorem best_all (q x:List Nat):fmost (allT q x) none = bestA q x:=by
 by_cases hs:subs q x = true
 ·have hl:=zS4 q x hs
  obtain ⟨v,l',e,hb⟩:=zJ5 q x _ hl
  rw [e]
  have hne:allT q x≠[]:=by
   intro z
   unfold allT at z
   rw [List.map_eq_nil_iff] at z
   have:=(zz3 q x _).mpr hl
   rw [z] at this;simp at this
  obtain ⟨t,ht,htm⟩:=zN6 _ hne
  rw [ht]
  obtain ⟨pre,post,es,h1,h2⟩:=zG0 _ t ht
  obtain ⟨l,hlm,rfl⟩:=List.mem_map.mp htm
  have hlL:=(zz3 q x l).mp hlm
  have hl'm:(pts q x l' q.length,l')∈allT q x:=List.mem_map.mpr ⟨l',(zz3 q x l').mpr hb.lay,rfl⟩
  have o1:=hb.opt l hlL
  have hv:v = pts q x l' q.length:=hb.pnt
  have hle:∀ u∈allT q x,u.1≤pts q x l q.length:=fun u hu=>by
   rw [es] at hu
   rcases List.mem_append.mp hu with z | z
   ·exact Int.le_of_lt (h1 u z)
   ·rcases List.mem_cons.mp z with z | z
    ·rw [z];exact Int.le_refl _
    ·exact h2 u z
  have o2:=hle _ hl'm
  have hev:pts q x l q.length = v:=by
   have:=o1.1
   simp only at o2
   omega
  have hll:l = l':=by
   rw [es] at hl'm
   rcases List.mem_append.mp hl'm with z | z
   ·have:=h1 _ z
    simp only at this;omega
   ·rcases List.mem_cons.mp z with z | z
    ·have:=congrArg Prod.snd z
     exact this.symm
    ·exfalso
     have hp:(allT q x).Pairwise fun a b=>lexN a.2 b.2 = true:=by
      unfold allT
      rw [List.pairwise_map]
      exact lays_srt q x
     rw [es] at hp
     have hp2:=(List.pairwise_append.mp hp).2.1
     have:=(List.pairwise_cons.mp hp2).1 _ z
     simp only at this
     rw [o1.2 hev] at this
     cases this
  rw [hev,hll]
 ·have hs:subs q x = false:=by simpa using hs
  rw [zJ6 q x hs]
  have:laysR q x = []:=by
   cases z:laysR q x with
   | nil=>rfl
   | cons l r=>
    have:=(zz3 q x l).mp (by rw [z];simp)
    have:=zD0 x q l this
    rw [hs] at this;cases this
  unfold allT
  rw [this];rfl
theorem sf_l:("abcdefghijklmnopqrstuvwxyz0123456789" : Str).cps.toList = (List.range 26).map (· + 97) ++ (List.range 10).map (· + 48):=by decide +kernel
theorem sf_mem (c:Nat):decide (c∈("abcdefghijklmnopqrstuvwxyz0123456789" : Str).cps.toList) = decide ((97≤c∧c≤122)∨(48≤c∧c≤57)):=by
 rw [sf_l]
 have h1:=zK5 c 25 97
 have h2:=zK5 c 9 48
 simp only [decide_eq_decide] at h1 h2
 rw [decide_eq_decide,List.mem_append]
 exact ⟨fun h=>h.elim (fun h=>.inl (h1.mp h)) (fun h=>.inr (h2.mp h)),fun h=>h.elim (fun h=>.inl (h1.mpr h)) (fun h=>.inr (h2.mpr h))⟩
theorem int_bl (b:Bool):intD [.bl b] = .ok (.int (if b then 1 else 0)):=rfl
theorem sign_eq (a c:Nat):eqD (signD a) (signD c) = .ok (.bl (decide (c = a))):=by
 have:=eqD_s (a:=(⟨#[a]⟩:Str)) (b:=⟨#[c]⟩)
 show eqD (.str ⟨#[a]⟩) (.str ⟨#[c]⟩) = _
 rw [this]
 congr 2
 rw [Bool.eq_iff_iff,beq_iff_eq,decide_eq_true_iff]
 constructor
 ·intro h
  have:=congrArg (fun s:Str=>s.cps.toList) h
  simp at this
  exact this.symm
 ·intro h;rw [h]
theorem ix_sub (x:List Nat) (p:Nat) (hp:p < x.length) (h0:p≠0) (hx:x.length≤1000):ixD (tx x) (.int ((p:Int) - 1)) = .ok (signD (x.getD (p - 1) 0)):=by
 have e:((p:Int) - 1) = ((p - 1:Nat):Int):=by omega
 rw [e]
 exact tx_at x (p - 1) (by omega) hx
theorem yl8 (e3:FE) (g1 g2:FT) (e4 e5:FE) (A B P:D) (w:Int) (b1 b2 bg:Bool) (r:D) (h3:e3 [some (.val A),some (.val B),some (.val P),none,none] = .ok (.int w))
  (h1:g1 [some (.val A),some (.val B),some (.val P),some (.val (.int w)),none] = .ok b1) (h2:b1 = false→g2 [some (.val A),some (.val B),some (.val P),some (.val (.int w)),none] = .ok b2)
  (h4:b1 = false→b2 = false→e4 [some (.val A),some (.val B),some (.val P),some (.val (.int w)),none] = .ok (.bl bg)) (h5:b1 = false→b2 = false→e5 [some (.val A),some (.val B),some (.val P),some (.val (.int w)),some (.val (.bl bg))] = .ok r) :
  runF 5 (sSeq (sSet 3 e3) (sSeq (sIf g1 (sRet (eOp addD (eVar 3) (eC (.int 8)))) sNext) (sSeq (sIf g2 (sRet (eOp addD (eVar 3) (eC (.int 6)))) sNext) (sSeq (sSet 4 e4) (sRet e5))))) [A,B,P] = if b1 = true then .ok (.int (w + 8)) else if b2 = true then .ok (.int (w + 6)) else .ok r:=by
 have st:zg9 5 [A,B,P] = [some (.val A),some (.val B),some (.val P),none,none]:=rfl
 rw [zg6,st]
 cases b1 with
 | true=>simp only [zc6,zd6,zc7,zh0,zc1,zd0,zc8,zc4,ze5,ze8,zg0,zg1,zg3,zc9,zf3,zd5,ze0,tB_ap,ze3,ze9,zi0,zf5,zf4,zb9,eC_ap,zb5,za9,zb6,zd4,zi3,zf0,zh6,zg2,zf7,zi2,zi1,zd9,zd1,zb1,List.getElem?_cons_zero,List.getElem?_cons_succ,List.set_cons_succ,List.set_cons_zero,zb2,zc5,Rs.bind_ok,Fl.of_ok,zf9,zi5,zb8,zd7,zb7,ze1,zd3,zg5,ltI_i,leD_i,gtD_i,geD_i,eqD_i,eqD_s,neD_i,neD_s,zd2,zg8,if_true,Bool.false_eq_true,if_false,Bool.not_true,Bool.not_false,h3,h1]
 | false=>
  have h2:=h2 rfl
  cases b2 with
  | true=>simp only [zc6,zd6,zc7,zh0,zc1,zd0,zc8,zc4,ze5,ze8,zg0,zg1,zg3,zc9,zf3,zd5,ze0,tB_ap,ze3,ze9,zi0,zf5,zf4,zb9,eC_ap,zb5,za9,zb6,zd4,zi3,zf0,zh6,zg2,zf7,zi2,zi1,zd9,zd1,zb1,List.getElem?_cons_zero,List.getElem?_cons_succ,List.set_cons_succ,List.set_cons_zero,zb2,zc5,Rs.bind_ok,Fl.of_ok,zf9,zi5,zb8,zd7,zb7,ze1,zd3,zg5,ltI_i,leD_i,gtD_i,geD_i,eqD_i,eqD_s,neD_i,neD_s,zd2,zg8,if_true,Bool.false_eq_true,if_false,Bool.not_true,Bool.not_false,h3,h1,h2]
  | false=>
   have h4:=h4 rfl rfl
   have h5:=h5 rfl rfl
   simp only [zc6,zd6,zc7,zh0,zc1,zd0,zc8,zc4,ze5,ze8,zg0,zg1,zg3,zc9,zf3,zd5,ze0,tB_ap,ze3,ze9,zi0,zf5,zf4,zb9,eC_ap,zb5,za9,zb6,zd4,zi3,zf0,zh6,zg2,zf7,zi2,zi1,zd9,zd1,zb1,List.getElem?_cons_zero,List.getElem?_cons_succ,List.set_cons_succ,List.set_cons_zero,zb2,zc5,Rs.bind_ok,Fl.of_ok,zf9,zi5,zb8,zd7,zb7,ze1,zd3,zg5,ltI_i,leD_i,gtD_i,geD_i,eqD_i,eqD_s,neD_i,neD_s,zd2,zg8,if_true,Bool.false_eq_true,if_false,Bool.not_true,Bool.not_false,h3,h1,h2,h4,h5]
theorem alone_b:zv9 = (sSeq (sSet 3 (eOp addD (eC (.int 10)) (eBlt intD (aCons (eOp eqD (eVar 0) (eOp ixD (eVar 1) (eVar 2))) aNil))))
  (sSeq (sIf (FD.tB (eOp eqD (eVar 2) (eC (.int 0)))) (sRet (eOp addD (eVar 3) (eC (.int 8)))) sNext)
  (sSeq (sIf (FD.tB (eOp inD (eOp ixD (eVar 1) (eOp subD (eVar 2) (eC (.int 1)))) (eC (.str "_-./")))) (sRet (eOp addD (eVar 3) (eC (.int 6)))) sNext)
  (sSeq (sSet 4 (eOp inD (eOp ixD (eVar 1) (eVar 2)) (eC (.str "ABCDEFGHIJKLMNOPQRSTUVWXYZ"))))
  (sRet (eOp addD (eVar 3) (eOp mulD (eC (.int 5)) (eBlt intD (aCons (eAnd (eVar 4) (eOp inD (eOp ixD (eVar 1) (eOp subD (eVar 2) (eC (.int 1)))) (eC (.str "abcdefghijklmnopqrstuvwxyz0123456789")))) aNil))))))))):=by unfold zv9;rfl
theorem alone_ok (a:Nat) (x:List Nat) (p:Nat) (hx:x.length≤1000) (hp:p < x.length):zl9 [signD a,tx x,.int (p:Int)] = .ok (.int (ownP a x p)):=by
 have hix:=tx_at x p hp hx
 have w:Int:=10 + (if x.getD p 0 = a then 1 else 0)
 have h3:eOp addD (eC (.int 10)) (eBlt intD (aCons (eOp eqD (eVar 0) (eOp ixD (eVar 1) (eVar 2))) aNil)) [some (.val (signD a)),some (.val (tx x)),some (.val (.int (p:Int))),none,none] = .ok (.int (10 + (if decide (x.getD p 0 = a) then 1 else 0))):=
  op2 rfl (blt1 (op2 (za3 rfl) (op2 (za3 rfl) (za3 rfl) hix) (sign_eq a _)) (int_bl _)) zd3
 have h1:FD.tB (eOp eqD (eVar 2) (eC (.int 0))) [some (.val (signD a)),some (.val (tx x)),some (.val (.int (p:Int))),some (.val (.int (10 + (if decide (x.getD p 0 = a) then 1 else 0)))),none] = .ok (decide (p = 0)):=by
  refine tB_ok (op2 (za3 rfl) rfl ?_)
  rw [eqD_i]
  congr 2
  rw [Bool.eq_iff_iff,beq_iff_eq,decide_eq_true_iff];omega
 have inn:∀ (c:Nat) (y:Str),inD (signD c) (.str y) = .ok (.bl (decide (c∈y.cps.toList))):=fun c y=>by simp only [signD];rw [inD_s,zp5]
 unfold zl9
 rw [alone_b]
 rw [yl8 _ _ _ _ _ _ _ _ (10 + (if decide (x.getD p 0 = a) then 1 else 0)) (decide (p = 0)) (decide (x.getD (p - 1) 0∈MK)) (decide (65≤x.getD p 0∧x.getD p 0≤90))
  (.int (10 + (if decide (x.getD p 0 = a) then 1 else 0) + 5 * (if (decide (65≤x.getD p 0∧x.getD p 0≤90) && decide ((97≤x.getD (p - 1) 0∧x.getD (p - 1) 0≤122)∨(48≤x.getD (p - 1) 0∧x.getD (p - 1) 0≤57))) then 1 else 0))) h3 h1 (fun hz=>?_) (fun hz _=>?_) (fun hz _=>?_)]
 ·unfold ownP begP
  by_cases z:p = 0
  ·simp only [z,decide_true,if_true]
   simp only [decide_eq_true_eq]
   congr 2;omega
  ·simp only [z,decide_false,Bool.false_eq_true,if_false,decide_eq_true_eq,Bool.and_eq_true]
   by_cases z2:x.getD (p - 1) 0∈MK
   ·simp only [z2,if_true];congr 2;omega
   ·simp only [z2,if_false]
    split <;> split <;> first | (congr 2;omega;done) | (simp_all;done) | (simp_all;omega)
 ·have z:p≠0:=by simpa using hz
  have:=ix_sub x p hp z hx
  have h:=inn (x.getD (p - 1) 0) "_-./"
  rw [mk_l] at h
  exact tB_ok (op2 (op2 (za3 rfl) (op2 (za3 rfl) rfl zg5) this) rfl h)
 ·have h:=inn (x.getD p 0) "ABCDEFGHIJKLMNOPQRSTUVWXYZ"
  rw [zv3] at h
  exact op2 (op2 (za3 rfl) (za3 rfl) hix) rfl h
 ·have z:p≠0:=by simpa using hz
  have hs:=ix_sub x p hp z hx
  have h:=inn (x.getD (p - 1) 0) "abcdefghijklmnopqrstuvwxyz0123456789"
  rw [sf_mem] at h
  have ha:∀ τ:DS,τ = [some (.val (signD a)),some (.val (tx x)),some (.val (.int (p:Int))),some (.val (.int (10 + (if decide (x.getD p 0 = a) then 1 else 0)))),some (.val (.bl (decide (65≤x.getD p 0∧x.getD p 0≤90))))] →
    eAnd (eVar 4) (eOp inD (eOp ixD (eVar 1) (eOp subD (eVar 2) (eC (.int 1)))) (eC (.str "abcdefghijklmnopqrstuvwxyz0123456789"))) τ = .ok (.bl (decide (65≤x.getD p 0∧x.getD p 0≤90) && decide ((97≤x.getD (p - 1) 0∧x.getD (p - 1) 0≤122)∨(48≤x.getD (p - 1) 0∧x.getD (p - 1) 0≤57)))):=fun τ e=>by
   subst e
   cases k:decide (65≤x.getD p 0∧x.getD p 0≤90) with
   | true=>rw [Bool.true_and];exact yo6 (za3 rfl) (op2 (op2 (za3 rfl) (op2 (za3 rfl) rfl zg5) hs) rfl h)
   | false=>rw [zf0,za3 (d:=.bl false) rfl,Rs.bind_ok,ze1,Rs.bind_ok,if_neg (by simp)];rfl
  exact op2 (za3 rfl) (op2 rfl (blt1 (ha _ rfl) (int_bl _)) (zx0 (.inl ⟨by decide,by decide⟩))) zd3
noncomputable def zR6:FS:=(sSeq (sSet 3 (eOp addD (eVar 3) (eCall zl9 (aCons (eOp ixD (eVar 0) (eVar 4)) (aCons (eVar 1) (aCons (eVar 5) aNil))))))
  (sIf (FD.tB (eOp eqD (eVar 4) (eC (.int 0)))) (sSet 3 (eOp subD (eVar 3) (eBlt min2D (aCons (eC (.int 3)) (aCons (eVar 5) aNil))))) (sIf (FD.tB (eOp eqD (eOp addD (eOp ixD (eVar 2) (eOp subD (eVar 4) (eC (.int 1)))) (eC (.int 1))) (eVar 5))) (sSet 3 (eOp addD (eVar 3) (eC (.int 7)))) (sSet 3 (eOp subD (eVar 3) (eBlt min2D (aCons (eC (.int 5)) (aCons (eOp subD (eOp subD (eVar 5) (eOp ixD (eVar 2) (eOp subD (eVar 4) (eC (.int 1))))) (eC (.int 1))) aNil))))))))
noncomputable def SP6 (q x l:List Nat) (v:Int) (s4 s5:Option Sl):DS:=[some (.val (tx q)),some (.val (tx x)),some (.val (nts l)),some (.val (.int v)),s4,s5]
theorem gen_lp (e1 e2 e3 e4:FE) (g1 g2:FT) (a0 a1 a2 a4 a5:Option Sl) (v w r2 r3 r4:D) (b1 b2:Bool) (h1:e1 [a0,a1,a2,some (.val v),a4,a5] = .ok w) (k1:g1 [a0,a1,a2,some (.val w),a4,a5] = .ok b1) (k2:b1 = false→g2 [a0,a1,a2,some (.val w),a4,a5] = .ok b2)
  (h2:b1 = true→e2 [a0,a1,a2,some (.val w),a4,a5] = .ok r2) (h3:b1 = false→b2 = true→e3 [a0,a1,a2,some (.val w),a4,a5] = .ok r3) (h4:b1 = false→b2 = false→e4 [a0,a1,a2,some (.val w),a4,a5] = .ok r4) :
  sSeq (sSet 3 e1) (sIf g1 (sSet 3 e2) (sIf g2 (sSet 3 e3) (sSet 3 e4))) [a0,a1,a2,some (.val v),a4,a5] = .nx [a0,a1,a2,some (.val (if b1 = true then r2 else if b2 = true then r3 else r4)),a4,a5]:=by
 cases b1 with
 | true=>have h2:=h2 rfl;simp only [zc6,zd6,zc7,zh0,zc1,zd0,zc8,zc4,ze5,ze8,zg0,zg1,zg3,zc9,zf3,zd5,ze0,tB_ap,ze3,ze9,zi0,zf5,zf4,zb9,eC_ap,zb5,za9,zb6,zd4,zi3,zf0,zh6,zg2,zf7,zi2,zi1,zd9,zd1,zb1,List.getElem?_cons_zero,List.getElem?_cons_succ,List.set_cons_succ,List.set_cons_zero,zb2,zc5,Rs.bind_ok,Fl.of_ok,zf9,zi5,zb8,zd7,zb7,ze1,zd3,zg5,ltI_i,leD_i,gtD_i,geD_i,eqD_i,eqD_s,neD_i,neD_s,zd2,zg8,if_true,Bool.false_eq_true,if_false,Bool.not_true,Bool.not_false,h1,k1,h2]
 | false=>
  have k2:=k2 rfl
  cases b2 with
  | true=>have h3:=h3 rfl rfl;simp only [zc6,zd6,zc7,zh0,zc1,zd0,zc8,zc4,ze5,ze8,zg0,zg1,zg3,zc9,zf3,zd5,ze0,tB_ap,ze3,ze9,zi0,zf5,zf4,zb9,eC_ap,zb5,za9,zb6,zd4,zi3,zf0,zh6,zg2,zf7,zi2,zi1,zd9,zd1,zb1,List.getElem?_cons_zero,List.getElem?_cons_succ,List.set_cons_succ,List.set_cons_zero,zb2,zc5,Rs.bind_ok,Fl.of_ok,zf9,zi5,zb8,zd7,zb7,ze1,zd3,zg5,ltI_i,leD_i,gtD_i,geD_i,eqD_i,eqD_s,neD_i,neD_s,zd2,zg8,if_true,Bool.false_eq_true,if_false,Bool.not_true,Bool.not_false,h1,k1,k2,h3]
  | false=>have h4:=h4 rfl rfl;simp only [zc6,zd6,zc7,zh0,zc1,zd0,zc8,zc4,ze5,ze8,zg0,zg1,zg3,zc9,zf3,zd5,ze0,tB_ap,ze3,ze9,zi0,zf5,zf4,zb9,eC_ap,zb5,za9,zb6,zd4,zi3,zf0,zh6,zg2,zf7,zi2,zi1,zd9,zd1,zb1,List.getElem?_cons_zero,List.getElem?_cons_succ,List.set_cons_succ,List.set_cons_zero,zb2,zc5,Rs.bind_ok,Fl.of_ok,zf9,zi5,zb8,zd7,zb7,ze1,zd3,zg5,ltI_i,leD_i,gtD_i,geD_i,eqD_i,eqD_s,neD_i,neD_s,zd2,zg8,if_true,Bool.false_eq_true,if_false,Bool.not_true,Bool.not_false,h1,k1,k2,h4]
theorem lp_step (q x l:List Nat) (k:Nat) (hq:q.length≤1000) (hx:x.length≤1000) (h:Lay q x l) (hk:k < l.length) :
  zR6 (SP6 q x l (pts q x l k) (some (.val (.int (k:Int)))) (some (.val (.int (l.getD k 0:Nat))))) = .nx (SP6 q x l (pts q x l (k + 1)) (some (.val (.int (k:Int)))) (some (.val (.int (l.getD k 0:Nat))))):=by
 have hkq:k < q.length:=by rw [← h.len];exact hk
 have hin:=h.inn k hk
 have hqi:=tx_at q k hkq hq
 have hal:=alone_ok (q.getD k 0) x (l.getD k 0) hx hin
 unfold zR6 SP6
 have e1:eOp addD (eVar 3) (eCall zl9 (aCons (eOp ixD (eVar 0) (eVar 4)) (aCons (eVar 1) (aCons (eVar 5) aNil)))) [some (.val (tx q)),some (.val (tx x)),some (.val (nts l)),some (.val (.int (pts q x l k))),some (.val (.int (k:Int))),some (.val (.int (l.getD k 0:Nat)))] = .ok (.int (pts q x l k + ownP (q.getD k 0) x (l.getD k 0))):=
  op2 (za3 rfl) (call3 (op2 (za3 rfl) (za3 rfl) hqi) (za3 rfl) (za3 rfl) hal) zd3
 have k1:FD.tB (eOp eqD (eVar 4) (eC (.int 0))) [some (.val (tx q)),some (.val (tx x)),some (.val (nts l)),some (.val (.int (pts q x l k + ownP (q.getD k 0) x (l.getD k 0)))),some (.val (.int (k:Int))),some (.val (.int (l.getD k 0:Nat)))] = .ok (decide (k = 0)):=by
  refine tB_ok (op2 (za3 rfl) rfl ?_)
  rw [eqD_i]
  congr 2
  rw [Bool.eq_iff_iff,beq_iff_eq,decide_eq_true_iff];omega
 have prev:k≠0→∀ τ:DS,τ[2]? = some (some (.val (nts l)))→τ[4]? = some (some (.val (.int (k:Int))))→eOp ixD (eVar 2) (eOp subD (eVar 4) (eC (.int 1))) τ = .ok (.int (l.getD (k - 1) 0:Nat)):=fun hz τ t2 t4=>by
  have e:((k:Int) - 1) = ((k - 1:Nat):Int):=by omega
  refine op2 (za3 t2) (op2 (za3 t4) rfl zg5) ?_
  rw [e];exact nts_ix l (k - 1) (by omega)
 refine (gen_lp _ _ _ _ _ _ _ _ _ _ _ _ _ (.int (pts q x l k + ownP (q.getD k 0) x (l.getD k 0) - (if ((l.getD k 0:Nat):Int) < 3 then ((l.getD k 0:Nat):Int) else 3))) (.int (pts q x l k + ownP (q.getD k 0) x (l.getD k 0) + 7))
  (.int (pts q x l k + ownP (q.getD k 0) x (l.getD k 0) - (if ((l.getD k 0:Nat):Int) - (l.getD (k - 1) 0:Nat) - 1 < 5 then ((l.getD k 0:Nat):Int) - (l.getD (k - 1) 0:Nat) - 1 else 5))) (decide (k = 0)) (decide (l.getD (k - 1) 0 + 1 = l.getD k 0)) e1 k1 (fun hz=>?_) (fun hz=>?_) (fun hz _=>?_) (fun hz _=>?_)).trans ?_
 ·have z:k≠0:=by simpa using hz
  refine tB_ok (op2 (op2 (prev z _ rfl rfl) rfl zd3) (za3 rfl) ?_)
  rw [eqD_i]
  congr 2
  rw [Bool.eq_iff_iff,beq_iff_eq,decide_eq_true_iff];omega
 ·refine op2 (za3 rfl) ?_ zg5
  rw [zd4,za9];exact zZ1 _ _
 ·exact op2 (za3 rfl) rfl zd3
 ·have z:k≠0:=by simpa using hz
  have hp:=prev z [some (.val (tx q)),some (.val (tx x)),some (.val (nts l)),some (.val (.int (pts q x l k + ownP (q.getD k 0) x (l.getD k 0)))),some (.val (.int (k:Int))),some (.val (.int (l.getD k 0:Nat)))] rfl rfl
  refine op2 (za3 rfl) ?_ zg5
  have h2:eOp subD (eOp subD (eVar 5) (eOp ixD (eVar 2) (eOp subD (eVar 4) (eC (.int 1))))) (eC (.int 1)) [some (.val (tx q)),some (.val (tx x)),some (.val (nts l)),some (.val (.int (pts q x l k + ownP (q.getD k 0) x (l.getD k 0)))),some (.val (.int (k:Int))),some (.val (.int (l.getD k 0:Nat)))] = .ok (.int (((l.getD k 0:Nat):Int) - (l.getD (k - 1) 0:Nat) - 1)):=op2 (op2 (za3 rfl) hp zg5) rfl zg5
  rw [zd4,za9,eC_ap,Rs.bind_ok,za9,h2,Rs.bind_ok,zb5,Rs.bind_ok,Rs.bind_ok,Rs.bind_ok]
  exact zZ1 _ _
 ·have:(if decide (k = 0) = true then D.int (pts q x l k + ownP (q.getD k 0) x (l.getD k 0) - (if ((l.getD k 0:Nat):Int) < 3 then ((l.getD k 0:Nat):Int) else 3)) else if decide (l.getD (k - 1) 0 + 1 = l.getD k 0) = true then D.int (pts q x l k + ownP (q.getD k 0) x (l.getD k 0) + 7) else D.int (pts q x l k + ownP (q.getD k 0) x (l.getD k 0) - (if ((l.getD k 0:Nat):Int) - (l.getD (k - 1) 0:Nat) - 1 < 5 then ((l.getD k 0:Nat):Int) - (l.getD (k - 1) 0:Nat) - 1 else 5))) = D.int (pts q x l (k + 1)):=by
   show _ = D.int (pts q x l k + trm q x l k)
   unfold trm
   by_cases z:k = 0
   ·subst z
    simp only [decide_true,if_true,leadP]
    congr 1;omega
   ·simp only [z,decide_false,Bool.false_eq_true,if_false,linkP]
    by_cases z2:l.getD (k - 1) 0 + 1 = l.getD k 0
    ·simp only [z2,decide_true,if_true]
     rw [if_pos (by omega)]
     congr 1;omega
    ·simp only [z2,decide_false,Bool.false_eq_true,if_false]
     rw [if_neg (show ¬ ((l.getD k 0:Nat):Int) - (l.getD (k - 1) 0:Nat) - 1 = 0 by omega)]
     congr 1;omega
  rw [this]
theorem yj6 (q x l:List Nat) (hq:q.length≤1000) (hx:x.length≤1000) (h:Lay q x l):∀ (r:List Nat) (k:Nat) (s4 s5:Option Sl),l.drop k = r→k≤l.length→∃ t4 t5,loopD (gPr 4 5) zR6 (zk6 k (r.map fun (t:Nat)=>D.int t)) (SP6 q x l (pts q x l k) s4 s5) = .nx (SP6 q x l (pts q x l l.length) t4 t5)
 | [],k,s4,s5,hd,hk=>by
  have:k = l.length:=by have:=congrArg List.length hd;simp at this;omega
  subst this
  exact ⟨s4,s5,rfl⟩
 | p :: r,k,s4,s5,hd,hk=>by
  obtain ⟨d1,d2⟩:=zT3 hd
  have hlt:k < l.length:=by have:=congrArg List.length hd;simp at this;omega
  obtain ⟨t4,t5,ih⟩:=yj6 q x l hq hx h r (k + 1) (some (.val (.int (k:Int)))) (some (.val (.int (p:Int)))) d1 hlt
  refine ⟨t4,t5,?_⟩
  have hs:=lp_step q x l k hq hx h hlt
  rw [d2] at hs
  have hset:gPr 4 5 (.tup [.int (k:Int),.int (p:Int)]) (SP6 q x l (pts q x l k) s4 s5) = .ok (SP6 q x l (pts q x l k) (some (.val (.int (k:Int)))) (some (.val (.int (p:Int))))):=rfl
  rw [List.map_cons,zk6,loopD,hset,Fl.of_ok]
  simp only [hs]
  exact ih
theorem lp_b:zu5 = (sSeq (sSet 3 (eC (.int 0))) (sSeq (sFor (iEn (aCons (eVar 2) aNil)) (gPr 4 5) zR6) (sRet (eVar 3)))):=by unfold zu5 zR6;rfl
theorem gen_lps (it:FA) (b:FS) (A B C:D) (L:List D) (P:D) (t4 t5:Option Sl) (h1:it [some (.val A),some (.val B),some (.val C),some (.val (.int 0)),none,none] = .ok L) (h2:loopD (gPr 4 5) b L [some (.val A),some (.val B),some (.val C),some (.val (.int 0)),none,none] = .nx [some (.val A),some (.val B),some (.val C),some (.val P),t4,t5]) :
  runF 6 (sSeq (sSet 3 (eC (.int 0))) (sSeq (sFor it (gPr 4 5) b) (sRet (eVar 3)))) [A,B,C] = .ok P:=by
 have st:zg9 6 [A,B,C] = [some (.val A),some (.val B),some (.val C),none,none,none]:=rfl
 rw [zg6,st]
 simp only [zc6,zd6,zc7,zh0,zc1,zd0,zc8,zc4,ze5,ze8,zg0,zg1,zg3,zc9,zf3,zd5,ze0,tB_ap,ze3,ze9,zi0,zf5,zf4,zb9,eC_ap,zb5,za9,zb6,zd4,zi3,zf0,zh6,zg2,zf7,zi2,zi1,zd9,zd1,zb1,List.getElem?_cons_zero,List.getElem?_cons_succ,List.set_cons_succ,List.set_cons_zero,zb2,zc5,Rs.bind_ok,Fl.of_ok,zf9,zi5,zb8,zd7,zb7,ze1,zd3,zg5,ltI_i,leD_i,gtD_i,geD_i,eqD_i,eqD_s,neD_i,neD_s,zd2,zg8,if_true,Bool.false_eq_true,if_false,Bool.not_true,Bool.not_false,h1,h2]
theorem yd4 (q x l:List Nat) (hq:q.length≤1000) (hx:x.length≤1000) (h:Lay q x l):zk9 [tx q,tx x,nts l] = .ok (.int (pts q x l q.length)):=by
 obtain ⟨t4,t5,h1⟩:=yj6 q x l hq hx h l 0 none none (List.drop_zero ..) (Nat.zero_le _)
 have it:iEn (aCons (eVar 2) aNil) [some (.val (tx q)),some (.val (tx x)),some (.val (nts l)),some (.val (.int 0)),none,none] = .ok (zk6 0 (l.map fun (t:Nat)=>D.int t)):=rfl
 unfold zk9
 rw [lp_b,← h.len]
 exact gen_lps _ _ _ _ _ _ _ _ _ it h1
noncomputable def zS3:FS:=(sSeq (sSet 4 (eCall zk9 (aCons (eVar 0) (aCons (eVar 1) (aCons (eVar 3) aNil)))))
  (sIf (tOrD (FD.tB (eOp isD (eVar 2) (eC .non))) (FD.tB (eOp gtD (eVar 4) (eOp ixD (eVar 2) (eC (.int 0)))))) (sSet 2 (eTup (aCons (eVar 4) (aCons (eVar 3) aNil)))) sNext))
theorem gen_lb (e1 e2:FE) (g:FT) (a0 a1 a3 a4:Option Sl) (C W T:D) (b:Bool) (h1:e1 [a0,a1,some (.val C),a3,a4] = .ok W) (h2:g [a0,a1,some (.val C),a3,some (.val W)] = .ok b) (h3:b = true→e2 [a0,a1,some (.val C),a3,some (.val W)] = .ok T) :
  sSeq (sSet 4 e1) (sIf g (sSet 2 e2) sNext) [a0,a1,some (.val C),a3,a4] = .nx [a0,a1,some (.val (if b = true then T else C)),a3,some (.val W)]:=by
 cases b with
 | true=>have h3:=h3 rfl;simp only [zc6,zd6,zc7,zh0,zc1,zd0,zc8,zc4,ze5,ze8,zg0,zg1,zg3,zc9,zf3,zd5,ze0,tB_ap,ze3,ze9,zi0,zf5,zf4,zb9,eC_ap,zb5,za9,zb6,zd4,zi3,zf0,zh6,zg2,zf7,zi2,zi1,zd9,zd1,zb1,List.getElem?_cons_zero,List.getElem?_cons_succ,List.set_cons_succ,List.set_cons_zero,zb2,zc5,Rs.bind_ok,Fl.of_ok,zf9,zi5,zb8,zd7,zb7,ze1,zd3,zg5,ltI_i,leD_i,gtD_i,geD_i,eqD_i,eqD_s,neD_i,neD_s,zd2,zg8,if_true,Bool.false_eq_true,if_false,Bool.not_true,Bool.not_false,h1,h2,h3]
 | false=>simp only [zc6,zd6,zc7,zh0,zc1,zd0,zc8,zc4,ze5,ze8,zg0,zg1,zg3,zc9,zf3,zd5,ze0,tB_ap,ze3,ze9,zi0,zf5,zf4,zb9,eC_ap,zb5,za9,zb6,zd4,zi3,zf0,zh6,zg2,zf7,zi2,zi1,zd9,zd1,zb1,List.getElem?_cons_zero,List.getElem?_cons_succ,List.set_cons_succ,List.set_cons_zero,zb2,zc5,Rs.bind_ok,Fl.of_ok,zf9,zi5,zb8,zd7,zb7,ze1,zd3,zg5,ltI_i,leD_i,gtD_i,geD_i,eqD_i,eqD_s,neD_i,neD_s,zd2,zg8,if_true,Bool.false_eq_true,if_false,Bool.not_true,Bool.not_false,h1,h2]
theorem lb_step (q x l:List Nat) (c:Option Tl) (s4:Option Sl) (hq:q.length≤1000) (hx:x.length≤1000) (h:Lay q x l) :
  ∃ t4,zS3 [some (.val (tx q)),some (.val (tx x)),some (.val (optD c)),some (.val (nts l)),s4] = .nx [some (.val (tx q)),some (.val (tx x)),some (.val (optD (fmost [(pts q x l q.length,l)] c))),some (.val (nts l)),t4]:=by
 have hp:=yd4 q x l hq hx h
 have e1:eCall zk9 (aCons (eVar 0) (aCons (eVar 1) (aCons (eVar 3) aNil))) [some (.val (tx q)),some (.val (tx x)),some (.val (optD c)),some (.val (nts l)),s4] = .ok (.int (pts q x l q.length)):=call3 (za3 rfl) (za3 rfl) (za3 rfl) hp
 have e2:∀ C:D,eTup (aCons (eVar 4) (aCons (eVar 3) aNil)) [some (.val (tx q)),some (.val (tx x)),some (.val C),some (.val (nts l)),some (.val (.int (pts q x l q.length)))] = .ok (tlD (pts q x l q.length,l)):=fun C=>tup2 (za3 rfl) (za3 rfl)
 unfold zS3
 cases c with
 | none=>
  refine ⟨some (.val (.int (pts q x l q.length))),(gen_lb _ _ _ _ _ _ _ _ _ _ true e1 (or_tl (tB_ok (op2 (za3 rfl) rfl ya1))) fun _=>e2 _).trans ?_⟩
  rfl
 | some t=>
  have g:tOrD (FD.tB (eOp isD (eVar 2) (eC .non))) (FD.tB (eOp gtD (eVar 4) (eOp ixD (eVar 2) (eC (.int 0))))) [some (.val (tx q)),some (.val (tx x)),some (.val (optD (some t))),some (.val (nts l)),some (.val (.int (pts q x l q.length)))] = .ok (decide (t.1 < pts q x l q.length)):=
   or_tr (tB_ok (op2 (za3 rfl) rfl (is_tl t))) (tB_ok (op2 (za3 rfl) (op2 (za3 rfl) rfl (tl_0 t)) gtD_i))
  refine ⟨some (.val (.int (pts q x l q.length))),(gen_lb _ _ _ _ _ _ _ _ _ _ _ e1 g fun _=>e2 _).trans ?_⟩
  by_cases z:t.1 < pts q x l q.length
  ·simp only [z,decide_true,if_true,fmost];rfl
  ·simp only [z,decide_false,Bool.false_eq_true,if_false,fmost]
theorem yd7 (t:Tl) (ts:List Tl) (c:Option Tl):fmost (t :: ts) c = fmost ts (fmost [t] c):=by
 cases c <;> rfl
theorem yk4 (q x:List Nat) (hq:q.length≤1000) (hx:x.length≤1000):∀ (ls:List (List Nat)) (c:Option Tl) (s3 s4:Option Sl),(∀ l∈ls,Lay q x l)→∃ t3 t4,loopD (gNm 3) zS3 (ls.map nts) [some (.val (tx q)),some (.val (tx x)),some (.val (optD c)),s3,s4] = .nx [some (.val (tx q)),some (.val (tx x)),some (.val (optD (fmost (ls.map fun l=>(pts q x l q.length,l)) c))),t3,t4]
 | [],c,s3,s4,_=>⟨s3,s4,rfl⟩
 | l :: ls,c,s3,s4,h=>by
  obtain ⟨t4,e⟩:=lb_step q x l c s4 hq hx (h l (List.mem_cons_self ..))
  obtain ⟨u3,u4,ih⟩:=yk4 q x hq hx ls (fmost [(pts q x l q.length,l)] c) (some (.val (nts l))) t4 fun m hm=>h m (List.mem_cons_of_mem _ hm)
  refine ⟨u3,u4,?_⟩
  rw [List.map_cons,loopD,zg8,Fl.of_ok]
  simp only [List.set_cons_succ,List.set_cons_zero,e]
  rw [ih,List.map_cons,yd7 (pts q x l q.length,l) (ls.map _) c]
theorem lb_b:zy0 = (sSeq (sSet 2 (eC .non)) (sSeq (sFor (iAny (eCall zk2 (aCons (eVar 0) (aCons (eVar 1) aNil)))) (gNm 3) zS3) (sRet (eVar 2)))):=by unfold zy0 zS3;rfl
theorem gen_lbs (it:FA) (b:FS) (A B R:D) (L:List D) (t3 t4:Option Sl) (h1:it [some (.val A),some (.val B),some (.val .non),none,none] = .ok L) (h2:loopD (gNm 3) b L [some (.val A),some (.val B),some (.val .non),none,none] = .nx [some (.val A),some (.val B),some (.val R),t3,t4]) :
  runF 5 (sSeq (sSet 2 (eC .non)) (sSeq (sFor it (gNm 3) b) (sRet (eVar 2)))) [A,B] = .ok R:=by
 have st:zg9 5 [A,B] = [some (.val A),some (.val B),none,none,none]:=rfl
 rw [zg6,st]
 simp only [zc6,zd6,zc7,zh0,zc1,zd0,zc8,zc4,ze5,ze8,zg0,zg1,zg3,zc9,zf3,zd5,ze0,tB_ap,ze3,ze9,zi0,zf5,zf4,zb9,eC_ap,zb5,za9,zb6,zd4,zi3,zf0,zh6,zg2,zf7,zi2,zi1,zd9,zd1,zb1,List.getElem?_cons_zero,List.getElem?_cons_succ,List.set_cons_succ,List.set_cons_zero,zb2,zc5,Rs.bind_ok,Fl.of_ok,zf9,zi5,zb8,zd7,zb7,ze1,zd3,zg5,ltI_i,leD_i,gtD_i,geD_i,eqD_i,eqD_s,neD_i,neD_s,zd2,zg8,if_true,Bool.false_eq_true,if_false,Bool.not_true,Bool.not_false,h1,h2]
theorem lbest_ok (q x:List Nat) (hq:q.length≤5) (hx:x.length≤10):zp3 [tx q,tx x] = .ok (optD (bestA q x)):=by
 obtain ⟨t3,t4,h⟩:=yk4 q x (by omega) (by omega) (laysR q x) none none none fun l hl=>(zz3 q x l).mp hl
 have it:iAny (eCall zk2 (aCons (eVar 0) (aCons (eVar 1) aNil))) [some (.val (tx q)),some (.val (tx x)),some (.val .non),none,none] = .ok ((laysR q x).map nts):=by
  rw [zf3,call2 (za3 rfl) (za3 rfl) (lays_ok q x hq hx)];rfl
 unfold zp3
 rw [lb_b,← best_all]
 exact gen_lbs _ _ _ _ _ _ _ _ it h
theorem abest_ok (q x:List Nat) (hq:q.length≤1000) (hx:x.length≤1000) (ha:∀ c∈q,c < 128):zz4 [tx q,tx x] = .ok (optD (bestA q x)):=by
 by_cases z:q = []
 ·subst z
  have st:zg9 4 [tx [],tx x] = [some (.val (tx [])),some (.val (tx x)),none,none]:=rfl
  have hl:=zt5 [] (by simp)
  have hg:FD.tB (eOp eqD (eBlt lenD (aCons (eVar 0) aNil)) (eC (.int 0))) [some (.val (tx [])),some (.val (tx x)),none,none] = .ok true:=tB_ok (op2 (blt1 (za3 rfl) hl) rfl rfl)
  have he:eTup (aCons (eC (.int 0)) (aCons (eLst aNil) aNil)) [some (.val (tx [])),some (.val (tx x)),none,none] = .ok (.tup [.int 0,.lst []]):=tup2 rfl nilE
  unfold zz4
  rw [best_b,zg6,st,zc6,zh0,hg,Fl.of_ok,if_pos rfl,zc1,he]
  rfl
 ·have:=best_ok q x z hq hx ha
  rw [this]
  unfold bestA
  rw [if_neg z]
theorem yl7 (fc:FA) (g:FT) (fx:FE) (A B C:D) (L:List D) (b:Bool) (d:D) (h1:fc [some (.val A),some (.val B),some (.val C),none] = .ok L) (h2:g [some (.val A),some (.val B),some (.val C),some (.own L)] = .ok b)
  (h3:b = true→fx [some (.val A),some (.val B),some (.val C),some (.own L)] = .ok d∧0 < L.length) :
  runF 4 (sSeq (sSetO 3 fc) (sSeq (sIf g (sPut 3 (eC (.int 0)) fx) sNext) (sRetO 3))) [A,B,C] = .ok (.lst (if b = true then L.set 0 d else L)):=by
 have st:zg9 4 [A,B,C] = [some (.val A),some (.val B),some (.val C),none]:=rfl
 rw [zg6,st]
 cases b with
 | false=>simp only [zc6,zd6,zc7,zh0,zc1,zd0,zc8,zc4,ze5,ze8,zg0,zg1,zg3,zc9,zf3,zd5,ze0,tB_ap,ze3,ze9,zi0,zf5,zf4,zb9,eC_ap,zb5,za9,zb6,zd4,zi3,zf0,zh6,zg2,zf7,zi2,zi1,zd9,zd1,zb1,List.getElem?_cons_zero,List.getElem?_cons_succ,List.set_cons_succ,List.set_cons_zero,zb2,zc5,Rs.bind_ok,Fl.of_ok,zf9,zi5,zb8,zd7,zb7,ze1,zd3,zg5,ltI_i,leD_i,gtD_i,geD_i,eqD_i,eqD_s,neD_i,neD_s,zd2,zg8,if_true,Bool.false_eq_true,if_false,Bool.not_true,Bool.not_false,h1,h2,zc7,zd0,zc8,zc5,Bool.false_eq_true,if_false]
 | true=>
  obtain ⟨h3,h4⟩:=h3 rfl
  have hp:=putAt_ok (n:=3) (τ:=[some (.val A),some (.val B),some (.val C),some (.own L)]) (d:=d) (j:=0) h4
  have e0:(((0:Nat):Int)) = 0:=rfl
  rw [e0] at hp
  simp only [zc6,zd6,zc7,zh0,zc1,zd0,zc8,zc4,ze5,ze8,zg0,zg1,zg3,zc9,zf3,zd5,ze0,tB_ap,ze3,ze9,zi0,zf5,zf4,zb9,eC_ap,zb5,za9,zb6,zd4,zi3,zf0,zh6,zg2,zf7,zi2,zi1,zd9,zd1,zb1,List.getElem?_cons_zero,List.getElem?_cons_succ,List.set_cons_succ,List.set_cons_zero,zb2,zc5,Rs.bind_ok,Fl.of_ok,zf9,zi5,zb8,zd7,zb7,ze1,zd3,zg5,ltI_i,leD_i,gtD_i,geD_i,eqD_i,eqD_s,neD_i,neD_s,zd2,zg8,if_true,Bool.false_eq_true,if_false,Bool.not_true,Bool.not_false,h1,h2,h3,zc7,zd0,zc8,zc5,zg0,hp]
theorem namesb:zv8 = (sSeq (sSetO 3 (eComp 1 [0,1] (iRg1 (aCons (eCall za8 (aCons (eVar 0) (aCons (eVar 1) (aCons (eOp addD (eVar 2) (eC (.int 1))) aNil)))) aNil)) (gNm 0) (fun _=>.ok true) (eCall zo2 (aCons (eVar 1) (aCons (eOp addD (eOp addD (eVar 2) (eC (.int 1))) (eOp mulD (eC (.int 12)) (eVar 0))) aNil)))))
  (sSeq (sIf (tAndD (FD.tB (eOp gtD (eLenO 3) (eC (.int 1)))) (FD.tB (eOp eqD (eCall za8 (aCons (eVar 0) (aCons (eOp addD (eVar 1) (eC (.int 12))) (aCons (eC (.int 5)) aNil)))) (eC (.int 0))))) (sPut 3 (eC (.int 0)) (eIxO 3 (eNeg (eC (.int 1))))) sNext)
  (sRetO 3))):=by unfold zv8;rfl
noncomputable def NmOk (x:List Nat):Prop:=0 < x.length∧x.length≤10∧∀ c∈x,c∈NS
theorem nameL_ok (ns:List Int) (a:Int) (h0:0≤a):NmOk (nameL ns a (nameN ns a)):=by
 have d:=zq9 ns a (m:=10) (by decide)
 have hl:(nameL ns a (nameN ns a)).length = (1 + drawZ ns a 10).toNat:=by simp [nameL,nameN]
 refine ⟨by rw [hl];omega,by rw [hl];omega,fun c hc=>?_⟩
 obtain ⟨k,_,rfl⟩:=List.mem_map.mp hc
 exact yj0 ns a k (by omega)
theorem and_b {f g:FT} {τ:DS} {b c:Bool} (h1:f τ = .ok b) (h2:b = true→g τ = .ok c):tAndD f g τ = .ok (b && c):=by
 rw [ze9,h1,Rs.bind_ok]
 cases b with
 | false=>rfl
 | true=>rw [if_pos rfl,h2 rfl];rfl
theorem names_ok (ns:List Int) (a most:Int) (h63:ns.length≤63) (h0:0≤a) (ha:a < 800000) (hm0:0≤most) (hm1:most < 50) :
  ∃ X:List (List Nat),zo1 [.scr ns,.int a,.int most] = .ok (.lst (X.map tx))∧(X.length:Int)≤most∧∀ x∈X,NmOk x:=by
 have dl:=zq9 ns a (m:=most + 1) (by omega)
 have dk:=zq8 ns a (most + 1) h63 h0 (by omega) (by omega)
 have dk2:=zq8 ns (a + 12) 5 h63 (by omega) (by omega) (by decide)
 generalize hN:drawZ ns a (most + 1) = N at *
 generalize drawZ ns (a + 12) 5 = M at *
 have cf:=zq3 (set:=gNm 0) (fe:=(eCall zo2 (aCons (eVar 1) (aCons (eOp addD (eOp addD (eVar 2) (eC (.int 1))) (eOp mulD (eC (.int 12)) (eVar 0))) aNil)))) (τ:=[none,some (.val (.scr ns)),some (.val (.int a))]) (fun (k:Nat)=>D.int (0 + k)) tx
  (fun k=>nameL ns (a + 1 + 12 * (k:Int)) (nameN ns (a + 1 + 12 * (k:Int)))) (List.range N.toNat) fun k hk=>by
   have hk:=List.mem_range.mp hk
   refine ⟨[some (.val (.int (k:Int))),some (.val (.scr ns)),some (.val (.int a))],by rw [Int.zero_add];rfl,?_⟩
   exact call2 (za3 rfl) (op2 (op2 (za3 rfl) rfl zd3) (op2 rfl (za3 rfl) (zx0 (by omega))) zd3) (name_ok ns _ h63 (by omega) (by omega))
 have it:iRg1 (aCons (eCall za8 (aCons (eVar 0) (aCons (eVar 1) (aCons (eOp addD (eVar 2) (eC (.int 1))) aNil)))) aNil) [some (.val (.scr ns)),some (.val (.int a)),some (.val (.int most)),none] = .ok ((List.range N.toNat).map fun (k:Nat)=>D.int (0 + k)):=
  zX7 (n:=N.toNat) (by rw [Int.toNat_of_nonneg dl.1];exact call3 (za3 rfl) (za3 rfl) (op2 (za3 rfl) rfl zd3) dk) (by omega)
 have ec:=zq2 (k:=1) (idx:=[0,1]) it cf (by simp;omega)
 generalize hX0:(List.range N.toNat).map (fun (k:Nat)=>nameL ns (a + 1 + 12 * (k:Int)) (nameN ns (a + 1 + 12 * (k:Int)))) = X0 at ec cf
 have l0:X0.length = N.toNat:=by rw [← hX0];simp
 have ok0:∀ x∈X0,NmOk x:=fun x hx=>by
  rw [← hX0] at hx
  obtain ⟨k,_,rfl⟩:=List.mem_map.mp hx
  exact nameL_ok ns _ (by omega)
 have hg:tAndD (FD.tB (eOp gtD (eLenO 3) (eC (.int 1)))) (FD.tB (eOp eqD (eCall za8 (aCons (eVar 0) (aCons (eOp addD (eVar 1) (eC (.int 12))) (aCons (eC (.int 5)) aNil)))) (eC (.int 0)))) [some (.val (.scr ns)),some (.val (.int a)),some (.val (.int most)),some (.own (X0.map tx))] = .ok (decide (1 < (X0.length:Int)) && (M == 0)):=
  and_b (tB_ok (op2 (a:=.int (X0.length:Int)) (by rw [zc9];show Rs.ok (D.int ((X0.map tx).length:Int)) = _;rw [List.length_map]) rfl gtD_i)) fun _=>tB_ok (op2 (call3 (za3 rfl) (op2 (za3 rfl) rfl zd3) rfl dk2) rfl eqD_i)
 have hne:(decide (1 < (X0.length:Int)) && (M == 0)) = true→0 < X0.length:=fun h=>by
  rw [Bool.and_eq_true,decide_eq_true_eq] at h;omega
 have e:=yl7 _ _ (eIxO 3 (eNeg (eC (.int 1)))) (.scr ns) (.int a) (.int most) (X0.map tx) _ (tx (X0.getD (X0.length - 1) [])) ec hg fun h=>by
  have hp:=hne h
  refine ⟨?_,by rw [List.length_map];exact hp⟩
  rw [zg1]
  show (Rs.ok (X0.map tx)).bind (fun ds=>(eNeg (eC (.int 1)) _).bind (ixO ds)) = _
  rw [Rs.bind_ok,zO1,eC_ap,Rs.bind_ok]
  show (Rs.ok (D.int (-1))).bind _ = _
  rw [Rs.bind_ok]
  unfold ixO
  have:atI (X0.map tx) (-1) = some (tx (X0.getD (X0.length - 1) [])):=by
   have e:ixN (X0.map tx).length (-1) = some (X0.length - 1):=by
    unfold ixN
    rw [List.length_map,if_neg (by omega),if_pos (by omega)]
    congr 1;omega
   unfold atI
   rw [e]
   show (X0.map tx)[X0.length - 1]? = _
   rw [List.getElem?_map,List.getElem?_eq_getElem (by omega)]
   simp [show X0.length - 1 < X0.length by omega]
  simp only [this]
 unfold zo1
 rw [namesb,e]
 cases hb:(decide (1 < (X0.length:Int)) && (M == 0)) with
 | false=>exact ⟨X0,by rw [if_neg (by simp)],by omega,ok0⟩
 | true=>
  have hp:=hne hb
  refine ⟨X0.set 0 (X0.getD (X0.length - 1) []),by rw [if_pos rfl,List.map_set],by rw [List.length_set];omega,fun x hx=>?_⟩
  rcases List.mem_or_eq_of_mem_set hx with h | h
  ·exact ok0 x h
  ·rw [h]
   have:X0.getD (X0.length - 1) [] = X0[X0.length - 1]'(by omega):=by simp [show X0.length - 1 < X0.length by omega]
   rw [this]
   exact ok0 _ (List.getElem_mem _)
theorem ya5 {α β:Type} (f:α→β) (x:List Int×α):∀ l:List (List Int×α),insK (x.1,f x.2) (l.map fun p=>(p.1,f p.2)) = (insK x l).map fun p=>(p.1,f p.2)
 | []=>rfl
 | y :: r=>by
  rw [List.map_cons,insK,insK]
  split
  ·rfl
  ·rw [ya5 f x r];rfl
theorem zP3 {α β:Type} (f:α→β):∀ l:List (List Int×α),sortK (l.map fun p=>(p.1,f p.2)) = (sortK l).map fun p=>(p.1,f p.2)
 | []=>rfl
 | x :: r=>by rw [List.map_cons,sortK,sortK,zP3 f r,ya5]
noncomputable def srtBy {α:Type} (key:α→List Int) (rs:List α):List α:=(sortK (rs.map fun r=>(key r,r))).map (·.2)
theorem srtBy_D {α:Type} (key:α→List Int) (f:α→D) (rs:List α):(sortK ((rs.map key).zip (rs.map f))).map (·.2) = (srtBy key rs).map f:=by
 have e:(rs.map key).zip (rs.map f) = (rs.map fun r=>(key r,r)).map fun p=>(p.1,f p.2):=by
  induction rs with
  | nil=>rfl
  | cons r rs ih=>simp only [List.map_cons,List.zip_cons_cons,ih]
 rw [e,zP3]
 unfold srtBy
 rw [List.map_map,List.map_map];rfl
theorem zH4 {α:Type} (key:α→List Int) (rs:List α):(srtBy key rs).Perm rs:=by
 have:=(zw0 (rs.map fun r=>(key r,r))).map (·.2)
 rw [List.map_map] at this
 have e:rs.map ((fun p:List Int×α=>p.2) ∘ fun r=>(key r,r)) = rs:=by
  rw [show ((fun p:List Int×α=>p.2) ∘ fun r=>(key r,r)) = id from rfl,List.map_id]
 rw [e] at this
 exact this
noncomputable def kD (k:List Int):D:=.tup (k.map D.int)
theorem zS8:∀ k:List Int,intsD (k.map D.int) = some k
 | []=>rfl
 | i :: k=>by
  show (intsD (k.map D.int)).map (i :: ·) = _
  rw [zS8 k];rfl
theorem keyD_k (k:List Int):keyD (kD k) = some k:=zS8 k
theorem zS6 {α:Type} (key:α→List Int):∀ rs:List α,keysD (rs.map fun r=>kD (key r)) = some (rs.map key)
 | []=>rfl
 | r :: rs=>by rw [List.map_cons,keysD,keyD_k,zS6 key rs];rfl
theorem zH6 {α:Type} (key:α→List Int) (f:α→D) (rs:List α) (h64:rs.length < 64) (nd:(rs.map key).Nodup) (ne:∀ r,key r≠[]):zB3 (rs.map fun r=>kD (key r)) (rs.map f) = .ok (.lst ((srtBy key rs).map f)):=by
 unfold zB3
 rw [zS6]
 simp only
 rw [if_pos ⟨by simpa using h64,nd,fun k hk=>by obtain ⟨r,_,rfl⟩:=List.mem_map.mp hk;exact ne r⟩,srtBy_D]
theorem zF4 {α:Type} {idx:List Nat} {fb:FE} {τ:DS} (key:α→List Int) (f:α→D):∀ rs:List α,(∀ r∈rs,lamD idx fb τ (f r) = .ok (kD (key r)))→zu2 idx fb τ (rs.map f) = .ok (rs.map fun r=>kD (key r))
 | [],_=>rfl
 | r :: rs,h=>by
  rw [List.map_cons,zu2,h r List.mem_cons_self]
  simp only [zF4 key f rs fun s hs=>h s (List.mem_cons_of_mem _ hs),List.map_cons]
theorem yd8 {α:Type} {idx:List Nat} {fe fb:FE} {τ:DS} (key:α→List Int) (f:α→D) (rs:List α) (h:fe τ = .ok (.lst (rs.map f))) (hk:∀ r∈rs,lamD idx fb τ (f r) = .ok (kD (key r))) (h64:rs.length < 64) (nd:(rs.map key).Nodup) (ne:∀ r,key r≠[]) :
  zT2 idx fe fb τ = .ok (.lst ((srtBy key rs).map f)):=by
 unfold zT2
 rw [h,Rs.bind_ok]
 simp only [zF4 key f rs hk]
 exact zH6 key f rs h64 nd ne
theorem yc3 {α:Type} (key:α→List Int) (rs:List α) (h64:rs.length < 64) (nd:(rs.map key).Nodup) (ne:∀ r,key r≠[]):zP4 [.lst (rs.map fun r=>kD (key r))] = .ok (.lst ((srtBy key rs).map fun r=>kD (key r))):=
 zH6 key (fun r=>kD (key r)) rs h64 nd ne
noncomputable abbrev Rw:=Int×Nat
noncomputable def rowD (r:Rw):D:=.tup [.int r.1,.int (r.2:Int)]
theorem row_0 (r:Rw):ixD (rowD r) (.int 0) = .ok (.int r.1):=rfl
theorem row_1 (r:Rw):ixD (rowD r) (.int 1) = .ok (.int (r.2:Int)):=rfl
theorem zF0 {key:Rw→List Int} (hk:∀ r s,key r = key s→r.2 = s.2):∀ rs:List Rw,(rs.map (·.2)).Nodup→(rs.map key).Nodup
 | [],_=>List.nodup_nil
 | r :: rs,h=>by
  rw [List.map_cons,List.nodup_cons] at h ⊢
  refine ⟨fun hm=>h.1 ?_,zF0 hk rs h.2⟩
  obtain ⟨s,hs,e⟩:=List.mem_map.mp hm
  exact List.mem_map.mpr ⟨s,hs,hk s r e⟩
noncomputable def keyO (X:List (List Nat)) (r:Rw):List Int:=[-r.1,((X.getD r.2 []).length:Int),(r.2:Int)]
theorem zZ8 (X:List (List Nat)) (r s:Rw) (h:keyO X r = keyO X s):r.2 = s.2:=by
 unfold keyO at h
 injection h with h1 h2
 injection h2 with h2 h3
 injection h3 with h3 _
 omega
theorem yb1 {α:Type} (f:α→D):∀ (X:List α) (k:Nat),zk6 k (X.map f) = (X.zipIdx k).map fun p=>D.tup [.int (p.2:Int),f p.1]
 | [],_=>rfl
 | x :: X,k=>by rw [List.map_cons,zk6,List.zipIdx_cons,List.map_cons,yb1 f X (k + 1)]
theorem size3:∀ a b c:D,([a,b,c]:List D).length≤sizeLine:=fun a b c=>by rw [sizeLine_v];exact Nat.le_of_ble_eq_true rfl
theorem tup3 {fa fb fc:FE} {τ:DS} {a b c:D} (h1:fa τ = .ok a) (h2:fb τ = .ok b) (h3:fc τ = .ok c):eTup (aCons fa (aCons fb (aCons fc aNil))) τ = .ok (.tup [a,b,c]):=by
 rw [ym8,za9,h1,Rs.bind_ok,za9,h2,Rs.bind_ok,za9,h3,Rs.bind_ok,zb5,Rs.bind_ok,Rs.bind_ok,Rs.bind_ok,Rs.bind_ok]
 exact if_pos (size3 a b c)
theorem neg_ok {fa:FE} {τ:DS} {i:Int} (h:fa τ = .ok (.int i)):eNeg fa τ = .ok (.int (-i)):=by rw [zO1,h];rfl
theorem zM6 (X:List (List Nat)) (i:Nat) (h:i < X.length):ixD (.lst (X.map tx)) (.int (i:Int)) = .ok (tx (X.getD i [])):=by
 refine zV6 (yo4 ?_)
 rw [List.getElem?_map,List.getElem?_eq_getElem h]
 simp [h]
theorem ye8 (ds:List D) (n:Nat):slD (.lst ds) none (some (n:Int)) = .ok (.lst (ds.take n)):=by
 have:FD.cutD ds none (some (n:Int)) = ds.take n:=by
  have e0:HT.sIx ds.length 0 none = 0:=rfl
  have e1:HT.sIx ds.length ds.length (some (n:Int)) = min n ds.length:=by
   unfold HT.sIx
   have:¬ ((n:Int) < 0):=by omega
   simp [this]
  unfold FD.cutD
  rw [e0,e1,List.drop_zero,Nat.sub_zero]
  rcases Nat.le_total n ds.length with z | z
  ·rw [Nat.min_eq_left z]
  ·rw [Nat.min_eq_right z,List.take_length,List.take_of_length_le z]
 show Rs.ok (D.lst (FD.cutD ds none (some (n:Int)))) = _
 rw [this]
theorem order_b:zB1 = (sRet (zT2 [0] (eVar 1) (eTup (aCons (eNeg (eOp ixD (eVar 0) (eC (.int 0)))) (aCons (eBlt lenD (aCons (eOp ixD (eVar 1) (eOp ixD (eVar 0) (eC (.int 1)))) aNil)) (aCons (eOp ixD (eVar 0) (eC (.int 1))) aNil)))))):=by unfold zB1;rfl
structure RsOk (X:List (List Nat)) (rs:List Rw):Prop where
 few:rs.length < 64
 nd:(rs.map (·.2)).Nodup
 lt:∀ r∈rs,r.2 < X.length
 sz:∀ x∈X,x.length≤1000
theorem zN5 {X:List (List Nat)} {i:Nat} (h:i < X.length):X.getD i []∈X:=by
 have:X.getD i [] = X[i]:=by simp [h]
 rw [this];exact List.getElem_mem _
theorem order_ok (X:List (List Nat)) (rs:List Rw) (h:RsOk X rs):zp4 [.lst (X.map tx),.lst (rs.map rowD)] = .ok (.lst ((srtBy (keyO X) rs).map rowD)):=by
 have st:zg9 2 [.lst (X.map tx),.lst (rs.map rowD)] = [some (.val (.lst (X.map tx))),some (.val (.lst (rs.map rowD)))]:=rfl
 unfold zp4
 rw [order_b,zg6,st,zc1,yd8 (keyO X) rowD rs (za3 rfl) (fun r hr=>?_) h.few (zF0 (zZ8 X) rs h.nd) (fun r z=>nomatch z)]
 ·rfl
 ·have hlt:=h.lt r hr
  have hsz:=h.sz _ (zN5 hlt)
  have:eTup (aCons (eNeg (eOp ixD (eVar 0) (eC (.int 0)))) (aCons (eBlt lenD (aCons (eOp ixD (eVar 1) (eOp ixD (eVar 0) (eC (.int 1)))) aNil)) (aCons (eOp ixD (eVar 0) (eC (.int 1))) aNil))) [some (.val (rowD r)),some (.val (.lst (X.map tx)))] = .ok (kD (keyO X r)):=tup3 (neg_ok (op2 (za3 rfl) rfl (row_0 r))) (blt1 (op2 (za3 rfl) (op2 (za3 rfl) rfl (row_1 r)) (zM6 X r.2 hlt)) (zt5 _ hsz)) (op2 (za3 rfl) rfl (row_1 r))
  exact this
theorem max2_i (i j:Int):max2D [.int i,.int j] = .ok (.int (if i < j then j else i)):=rfl
theorem first_b:zv5 = (sRet (eSl (eCall zp4 (aCons (eVar 0) (aCons (eVar 1) aNil))) oNone (oSome (eBlt max2D (aCons (eVar 2) (aCons (eC (.int 0)) aNil)))))):=by unfold zv5;rfl
theorem blt2 {g:List D→Rs D} {fa fb:FE} {τ:DS} {a b d:D} (h1:fa τ = .ok a) (h2:fb τ = .ok b) (h:g [a,b] = .ok d):eBlt g (aCons fa (aCons fb aNil)) τ = .ok d:=by
 rw [zd4,za9,h1,Rs.bind_ok,za9,h2,Rs.bind_ok,zb5,Rs.bind_ok,Rs.bind_ok,Rs.bind_ok,h]
theorem os_ok' {fa:FE} {τ:DS} {i:Int} (h:fa τ = .ok (.int i)):oSome fa τ = .ok (some i):=by rw [zd1,h];rfl
theorem first_ok (X:List (List Nat)) (rs:List Rw) (many:Nat) (h:RsOk X rs):zn9 [.lst (X.map tx),.lst (rs.map rowD),.int (many:Int)] = .ok (.lst (((srtBy (keyO X) rs).take many).map rowD)):=by
 have st:zg9 3 [.lst (X.map tx),.lst (rs.map rowD),.int (many:Int)] = [some (.val (.lst (X.map tx))),some (.val (.lst (rs.map rowD))),some (.val (.int (many:Int)))]:=rfl
 have hm:max2D [.int (many:Int),.int 0] = .ok (.int (many:Int)):=by
  rw [max2_i];rw [if_neg (by omega)]
 have e:eSl (eCall zp4 (aCons (eVar 0) (aCons (eVar 1) aNil))) oNone (oSome (eBlt max2D (aCons (eVar 2) (aCons (eC (.int 0)) aNil)))) [some (.val (.lst (X.map tx))),some (.val (.lst (rs.map rowD))),some (.val (.int (many:Int)))] = .ok (.lst (((srtBy (keyO X) rs).take many).map rowD)):=
  sl_ok (call2 (za3 rfl) (za3 rfl) (order_ok X rs h)) rfl (os_ok' (blt2 (za3 rfl) rfl hm)) (by rw [ye8,List.map_take])
 unfold zn9
 rw [first_b,zg6,st,zc1,e];rfl
theorem gen_lso (e1 e2:FE) (A B C R:D) (h1:e1 [some (.val A),some (.val B),none] = .ok C) (h2:e2 [some (.val A),some (.val B),some (.val C)] = .ok R):runF 3 (sSeq (sSet 2 e1) (sRet e2)) [A,B] = .ok R:=by
 have st:zg9 3 [A,B] = [some (.val A),some (.val B),none]:=rfl
 rw [zg6,st]
 simp only [zc6,zd6,zc7,zh0,zc1,zd0,zc8,zc4,ze5,ze8,zg0,zg1,zg3,zc9,zf3,zd5,ze0,tB_ap,ze3,ze9,zi0,zf5,zf4,zb9,eC_ap,zb5,za9,zb6,zd4,zi3,zf0,zh6,zg2,zf7,zi2,zi1,zd9,zd1,zb1,List.getElem?_cons_zero,List.getElem?_cons_succ,List.set_cons_succ,List.set_cons_zero,zb2,zc5,Rs.bind_ok,Fl.of_ok,zf9,zi5,zb8,zd7,zb7,ze1,zd3,zg5,ltI_i,leD_i,gtD_i,geD_i,eqD_i,eqD_s,neD_i,neD_s,zd2,zg8,if_true,Bool.false_eq_true,if_false,Bool.not_true,Bool.not_false,h1,h2]
noncomputable def abcN:List Nat:=[97,98,99]
theorem abc_s:("abc" : Str) = ⟨abcN.toArray⟩:=by decide +kernel
theorem abc_ok:NmOk abcN:=⟨by decide,by decide,by decide⟩
theorem cat_abc (X:List (List Nat)) (h:X.length≤1000):addD (.lst (X.map tx)) (.lst [.str "abc"]) = .ok (.lst ((X ++ [abcN]).map tx)):=by
 show (if _ then Rs.ok (D.lst _) else Rs.no) = _
 rw [if_pos (by rw [sizeLine_v,List.length_map,List.length_singleton];omega),List.map_append,abc_s]
 rfl
theorem call4' {f:List D→Rs D} {fa fb fc fd:FE} {τ:DS} {a b c d r:D} (h1:fa τ = .ok a) (h2:fb τ = .ok b) (h3:fc τ = .ok c) (h4:fd τ = .ok d) (h:f [a,b,c,d] = .ok r):eCall f (aCons fa (aCons fb (aCons fc (aCons fd aNil)))) τ = .ok r:=by
 rw [zb6,za9,h1,Rs.bind_ok,za9,h2,Rs.bind_ok,za9,h3,Rs.bind_ok,za9,h4,Rs.bind_ok,zb5,Rs.bind_ok,Rs.bind_ok,Rs.bind_ok,Rs.bind_ok,Rs.bind_ok,h];rfl
theorem nilO (τ:DS):(fun τ=>(aNil τ).bind fun ds=>if ds.length≤sizeLine then Rs.ok ds else Rs.no) τ = .ok []:=by
 show (if ([]:List D).length≤sizeLine then Rs.ok [] else Rs.no) = _
 exact if_pos (Nat.zero_le sizeLine)
theorem yj5:zu4 = (sSeq (sSet 2 (eBlt zP4 (aCons (fun τ=>((eComp 2 [0] (iAny (eVar 1)) (gPr 0 1) (fun _=>.ok true) (eTup (aCons (eOp subD (eC (.int 0)) (eVar 0)) (aCons (eBlt lenD (aCons (eOp ixD (eVar 2) (eVar 1)) aNil)) (aCons (eVar 1) aNil))))) τ).bind fun ds=>.ok (.lst ds)) aNil)))
  (sRet (fun τ=>((eComp 3 [] (iAny (eVar 2)) (gTr 0 1 2) (fun _=>.ok true) (eTup (aCons (eOp subD (eC (.int 0)) (eVar 0)) (aCons (eVar 2) aNil)))) τ).bind fun ds=>.ok (.lst ds)))):=by unfold zu4;rfl
theorem yd3 (X:List (List Nat)) (rs:List Rw) (h:RsOk X rs):zk8 [.lst (X.map tx),.lst (rs.map rowD)] = .ok (.lst ((srtBy (keyO X) rs).map rowD)):=by
 have c1:=zq3 (set:=gPr 0 1) (fe:=(eTup (aCons (eOp subD (eC (.int 0)) (eVar 0)) (aCons (eBlt lenD (aCons (eOp ixD (eVar 2) (eVar 1)) aNil)) (aCons (eVar 1) aNil))))) (τ:=[none,none,some (.val (.lst (X.map tx)))]) rowD (fun r=>kD (keyO X r)) id rs fun r hr=>by
  have hlt:=h.lt r hr
  have hsz:=h.sz _ (zN5 hlt)
  refine ⟨[some (.val (.int r.1)),some (.val (.int (r.2:Int))),some (.val (.lst (X.map tx)))],rfl,?_⟩
  refine (tup3 (op2 rfl (za3 rfl) zg5) (blt1 (op2 (za3 rfl) (za3 rfl) (zM6 X r.2 hlt)) (zt5 _ hsz)) (za3 rfl)).trans ?_
  unfold kD keyO
  rw [Int.zero_sub];rfl
 rw [List.map_id] at c1
 have p:=zH4 (keyO X) rs
 have e1:=zq2 (k:=2) (idx:=[0]) (fi:=iAny (eVar 1)) (τ:=[some (.val (.lst (X.map tx))),some (.val (.lst (rs.map rowD))),none]) rfl c1 (by rw [List.length_map];have:=h.few;omega)
 have s1:eBlt zP4 (aCons (fun τ=>((eComp 2 [0] (iAny (eVar 1)) (gPr 0 1) (fun _=>.ok true) (eTup (aCons (eOp subD (eC (.int 0)) (eVar 0)) (aCons (eBlt lenD (aCons (eOp ixD (eVar 2) (eVar 1)) aNil)) (aCons (eVar 1) aNil))))) τ).bind fun ds=>.ok (.lst ds)) aNil) [some (.val (.lst (X.map tx))),some (.val (.lst (rs.map rowD))),none] = .ok (.lst ((srtBy (keyO X) rs).map fun r=>kD (keyO X r))):=
  blt1 (by rw [e1];rfl) (yc3 (keyO X) rs h.few (zF0 (zZ8 X) rs h.nd) fun r z=>nomatch z)
 have c2:=zq3 (set:=gTr 0 1 2) (fe:=(eTup (aCons (eOp subD (eC (.int 0)) (eVar 0)) (aCons (eVar 2) aNil)))) (τ:=[none,none,none]) (fun r=>kD (keyO X r)) rowD id (srtBy (keyO X) rs) fun r hr=>by
  refine ⟨[some (.val (.int (-r.1))),some (.val (.int ((X.getD r.2 []).length:Int))),some (.val (.int (r.2:Int)))],rfl,?_⟩
  refine (tup2 (op2 rfl (za3 rfl) zg5) (za3 rfl)).trans ?_
  unfold rowD id
  rw [Int.zero_sub,Int.neg_neg]
 rw [List.map_id] at c2
 have e2:=zq2 (k:=3) (idx:=[]) (fi:=iAny (eVar 2)) (τ:=[some (.val (.lst (X.map tx))),some (.val (.lst (rs.map rowD))),some (.val (.lst ((srtBy (keyO X) rs).map fun r=>kD (keyO X r))))]) rfl c2 (by rw [List.length_map,p.length_eq];have:=h.few;omega)
 unfold zk8
 rw [yj5]
 exact gen_lso _ _ _ _ _ _ s1 (by rw [e2];rfl)
theorem zj8 {f g:FS} {τ τ':DS} (h:f τ = .nx τ'):sSeq f g τ = g τ':=by rw [zc6,h,zf9]
theorem if_f {g:FT} {a b:FS} {τ:DS} (h:g τ = .ok false):sIf g a b τ = b τ:=by rw [zh0,h,Fl.of_ok,if_neg (by simp)]
theorem if_t {g:FT} {a b:FS} {τ:DS} (h:g τ = .ok true):sIf g a b τ = a τ:=by rw [zh0,h,Fl.of_ok,if_pos rfl]
theorem if_n {g:FT} {a:FS} {τ:DS} (h:g τ = .ok false):sIf g a sNext τ = .nx τ:=if_f h
theorem zo4 {i:Nat} {fe:FE} {τ:DS} {d:D} (h:fe τ = .ok d):sSet i fe τ = .nx (τ.set i (some (.val d))):=by rw [zd6,h,Fl.of_ok]
theorem zU3 {i:Nat} {ff:FA} {τ:DS} {ds:List D} (h:ff τ = .ok ds):sSetO i ff τ = .nx (τ.set i (some (.own ds))):=by rw [zc7,h,Fl.of_ok]
theorem zH7 {fe:FE} {τ:DS} {d:D} (h:fe τ = .ok d):sRet fe τ = .rt d:=by rw [zc1,h,Fl.of_ok]
theorem arg1 {fa:FE} {τ:DS} {a:D} (h:fa τ = .ok a):aCons fa aNil τ = .ok [a]:=by rw [za9,h,Rs.bind_ok,zb5,Rs.bind_ok]
theorem strExt {x y:Str} (h:x.cps.toList = y.cps.toList):x = y:=by
 cases x with | mk a=>cases y with | mk b=>
 have:a = b:=Array.toList_inj.mp h
 rw [this]
theorem mk_str (x:Str):(⟨x.cps.toList.toArray⟩:Str) = x:=strExt (by simp)
noncomputable def joinL (c:Nat):List (List Nat)→List Nat
 | []=>[]
 | [x]=>x
 | x :: r=>x ++ c :: joinL c r
theorem zI5 (c:Nat) (x:List Nat) (r:List (List Nat)) (h:r≠[]):joinL c (x :: r) = x ++ c :: joinL c r:=by
 cases r with
 | nil=>exact absurd rfl h
 | cons y s=>rfl
theorem app_l (x y:Str):(x ++ y).cps.toList = x.cps.toList ++ y.cps.toList:=by
 show (x.cps ++ y.cps).toList = _
 rw [Array.toList_append]
theorem join_l (c:Nat):∀ (ps:List Str),(Str.join ⟨#[c]⟩ ps).cps.toList = joinL c (ps.map fun p=>p.cps.toList)
 | []=>by rw [Str.join.eq_def];rfl
 | [x]=>by rw [Str.join.eq_def];rfl
 | x :: y :: r=>by
  have ih:=join_l c (y :: r)
  rw [Str.join.eq_def]
  show (x ++ (⟨#[c]⟩:Str) ++ Str.join ⟨#[c]⟩ (y :: r)).cps.toList = _
  rw [app_l,app_l,ih]
  show x.cps.toList ++ [c] ++ _ = x.cps.toList ++ c :: _
  rw [List.append_assoc];rfl
theorem zJ1 (c:Nat):∀ {a b u v:List Nat},c∉a→c∉b→a ++ c :: u = b ++ c :: v→a = b∧u = v
 | [],[],u,v,_,_,h=>by simpa using h
 | [],y :: b,u,v,_,h2,h=>by
  simp only [List.nil_append,List.cons_append,List.cons.injEq] at h
  exact absurd h.1 (fun z=>h2 (by rw [z];exact List.mem_cons_self ..))
 | x :: a,[],u,v,h1,_,h=>by
  simp only [List.nil_append,List.cons_append,List.cons.injEq] at h
  exact absurd h.1.symm (fun z=>h1 (by rw [z];exact List.mem_cons_self ..))
 | x :: a,y :: b,u,v,h1,h2,h=>by
  simp only [List.cons_append,List.cons.injEq] at h
  obtain ⟨e1,e2⟩:=zJ1 c (fun z=>h1 (List.mem_cons_of_mem _ z)) (fun z=>h2 (List.mem_cons_of_mem _ z)) h.2
  exact ⟨by rw [h.1,e1],e2⟩
theorem zS7 (c:Nat):∀ {ls ms:List (List Nat)},ls≠[]→ms≠[]→(∀ l∈ls,c∉l)→(∀ l∈ms,c∉l)→joinL c ls = joinL c ms→ls = ms
 | [],_,h,_,_,_,_=>absurd rfl h
 | _,[],_,h,_,_,_=>absurd rfl h
 | [x],[y],_,_,_,_,h=>by rw [show x = y from h]
 | [x],y :: z :: r,_,_,h1,_,h=>by
  have h:x = y ++ c :: joinL c (z :: r):=h
  exact absurd (by rw [h];simp) (h1 x (by simp))
 | x :: w :: s,[y],_,_,_,h2,h=>by
  have h:x ++ c :: joinL c (w :: s) = y:=h
  exact absurd (by rw [← h];simp) (h2 y (by simp))
 | x :: w :: s,y :: z :: r,_,_,h1,h2,h=>by
  have h:x ++ c :: joinL c (w :: s) = y ++ c :: joinL c (z :: r):=h
  obtain ⟨e1,e2⟩:=zJ1 c (h1 x (by simp)) (h2 y (by simp)) h
  rw [e1,zS7 c (by simp) (by simp) (fun l hl=>h1 l (List.mem_cons_of_mem _ hl)) (fun l hl=>h2 l (List.mem_cons_of_mem _ hl)) e2]
theorem yf1 (c:Nat) (ls:List (List Nat)) (hn:ls≠[]) (hf:∀ l∈ls,c∉l):Txt.split ⟨(joinL c ls).toArray⟩ ⟨#[c]⟩ = ls.map fun l=>(⟨l.toArray⟩:Str):=by
 have h1:=StrLaws.join_split ⟨(joinL c ls).toArray⟩ ⟨#[c]⟩
 have h2:=StrLaws.split_free ⟨(joinL c ls).toArray⟩ c
 have h3:=split_pos ⟨(joinL c ls).toArray⟩ ⟨#[c]⟩
 generalize Txt.split ⟨(joinL c ls).toArray⟩ ⟨#[c]⟩ = ps at h1 h2 h3
 have e:=congrArg (fun s:Str=>s.cps.toList) h1
 simp only [join_l] at e
 have:(ps.map fun p=>p.cps.toList) = ls:=by
  refine zS7 c ?_ hn ?_ hf e
  ·intro z
   rw [List.map_eq_nil_iff] at z
   subst z;simp at h3
  ·intro l hl
   obtain ⟨p,hp,rfl⟩:=List.mem_map.mp hl
   exact h2 p hp
 rw [← this,List.map_map]
 conv=>lhs;rw [← List.map_id ps]
 apply List.map_congr_left
 intro p _
 exact (mk_str p).symm
noncomputable def zB7:FS:=(sIf (tAndD (FD.tB (eOp ltI (eLenO 2) (eBlt lenD (aCons (eVar 0) aNil)))) (tTru (eCall zq1 (aCons (eOp ixD (eVar 0) (eLenO 2)) (aCons (eOp ixD (eVar 1) (eVar 3)) aNil))))) (sApp 2 (eVar 3)) sNext)
theorem ym7 (q x:List Nat) (hq:q.length≤1000) (hx:x.length≤1000) (ha:∀ c∈q,c < 128):∀ (m k:Nat) (b:List Nat) (s:Option Sl),k + m = x.length→b.length≤k →
  ∃ s',loopD (gNm 3) zB7 ((List.range' k m).map fun (k:Nat)=>D.int (0 + k)) [some (.val (tx q)),some (.val (tx x)),some (.own (b.map fun (k:Nat)=>D.int k)),s]
   = .nx [some (.val (tx q)),some (.val (tx x)),some (.own ((b ++ epR (q.drop b.length) (x.drop k) k).map fun (k:Nat)=>D.int k)),s']
 | 0,k,b,s,h,hb=>by
  have:x.drop k = []:=List.drop_eq_nil_of_le (by omega)
  rw [this]
  have e:epR (q.drop b.length) [] k = []:=by cases q.drop b.length <;> rfl
  rw [e,List.append_nil]
  exact ⟨s,rfl⟩
 | m + 1,k,b,s,h,hb=>by
  have hk:k < x.length:=by omega
  have hxk:=tx_ix x k x[k] (List.getElem?_eq_getElem hk) hx
  rw [List.range'_succ,List.map_cons,loopD,zg8,Fl.of_ok,List.drop_eq_getElem_cons hk]
  simp only [List.set_cons_succ,List.set_cons_zero,Int.zero_add]
  have ih:=fun b' s' h'=>ym7 q x hq hx ha m (k + 1) b' s' (by omega) h'
  simp only [Int.zero_add] at ih
  by_cases hl:b.length < q.length
  ·have hqb:=tx_ix q b.length q[b.length] (List.getElem?_eq_getElem hl) hq
   have hbz:b.length < sizeLine:=by rw [sizeLine_v];omega
   have hmt:=zM9 q[b.length] x[k] (ha _ (List.getElem_mem hl))
   rw [List.drop_eq_getElem_cons hl]
   by_cases hm:meetC q[b.length] x[k] = true
   ·obtain ⟨s',e⟩:=ih (b ++ [k]) (some (.val (.int k))) (by simp;omega)
    refine ⟨s',?_⟩
    have:zB7 [some (.val (tx q)),some (.val (tx x)),some (.own (b.map fun (k:Nat)=>D.int k)),some (.val (.int k))] = .nx [some (.val (tx q)),some (.val (tx x)),some (.own ((b ++ [k]).map fun (k:Nat)=>D.int k)),some (.val (.int k))]:=by
     unfold zB7
     simp only [zh0,zc4,ze8,zc9,tB_ap,ze3,ze9,zf4,zb9,zb5,za9,zb6,zd4,List.getElem?_cons_zero,List.getElem?_cons_succ,List.set_cons_succ,List.set_cons_zero,zb2,zc5,Rs.bind_ok,Fl.of_ok,zd7,zb7,ze1,ltI_i,if_true,List.length_map,zt5 q hq,Int.ofNat_lt,hl,decide_true,hqb,hxk,hmt,hm,hbz,List.map_append,List.map_cons,List.map_nil]
    simp only [this]
    rw [e]
    simp only [epR,hm,if_true,List.append_assoc,List.cons_append,List.nil_append,List.length_append,List.length_cons,List.length_nil,Nat.zero_add]
   ·obtain ⟨s',e⟩:=ih b (some (.val (.int k))) (by omega)
    refine ⟨s',?_⟩
    have hm':meetC q[b.length] x[k] = false:=by simpa using hm
    have:zB7 [some (.val (tx q)),some (.val (tx x)),some (.own (b.map fun (k:Nat)=>D.int k)),some (.val (.int k))] = .nx [some (.val (tx q)),some (.val (tx x)),some (.own (b.map fun (k:Nat)=>D.int k)),some (.val (.int k))]:=by
     unfold zB7
     simp only [zh0,zc4,ze8,zc9,tB_ap,ze3,ze9,zf4,zb9,zb5,za9,zb6,zd4,List.getElem?_cons_zero,List.getElem?_cons_succ,List.set_cons_succ,List.set_cons_zero,zb2,zc5,Rs.bind_ok,Fl.of_ok,zd7,zb7,ze1,ltI_i,if_true,Bool.false_eq_true,if_false,List.length_map,zt5 q hq,Int.ofNat_lt,hl,decide_true,hqb,hxk,hmt,hm']
    simp only [this]
    rw [e,List.drop_eq_getElem_cons hl]
    simp only [epR,hm',Bool.false_eq_true,if_false]
  ·obtain ⟨s',e⟩:=ih b (some (.val (.int k))) (by omega)
   refine ⟨s',?_⟩
   have:zB7 [some (.val (tx q)),some (.val (tx x)),some (.own (b.map fun (k:Nat)=>D.int k)),some (.val (.int k))] = .nx [some (.val (tx q)),some (.val (tx x)),some (.own (b.map fun (k:Nat)=>D.int k)),some (.val (.int k))]:=by
    unfold zB7
    simp only [zh0,zc4,ze8,zc9,tB_ap,ze3,ze9,zf4,zb9,zb5,za9,zb6,zd4,List.getElem?_cons_zero,List.getElem?_cons_succ,List.set_cons_succ,List.set_cons_zero,zb2,zc5,Rs.bind_ok,Fl.of_ok,zb7,ltI_i,Bool.false_eq_true,if_false,List.length_map,zt5 q hq,Int.ofNat_lt,hl,decide_false]
   simp only [this]
   rw [e,List.drop_eq_nil_of_le (by omega:q.length≤b.length)]
   simp only [epR]
theorem ep_ok (q x:List Nat) (hq:q.length≤1000) (hx:x.length≤1000) (ha:∀ c∈q,c < 128):zk3 [tx q,tx x] = .ok (nts (epR q x 0)):=by
 have st:zg9 4 [tx q,tx x] = [some (.val (tx q)),some (.val (tx x)),none,none]:=rfl
 obtain ⟨s',e⟩:=ym7 q x hq hx ha x.length 0 [] none (by omega) (Nat.le_refl _)
 unfold zB7 at e
 have r1:=zX8 (fs:=aCons (eBlt lenD (aCons (eVar 1) aNil)) aNil) (τ:=[some (.val (tx q)),some (.val (tx x)),some (.own []),none]) (j:=x.length) (by simp only [zb9,zb5,za9,zd4,List.getElem?_cons_zero,List.getElem?_cons_succ,zb2,Rs.bind_ok,zt5 x hx]) (by omega) (by omega)
 unfold zk3 zt9
 rw [zg6,st]
 simp only [zc6,zc7,ze5,zb5,List.set_cons_succ,List.set_cons_zero,Rs.bind_ok,Fl.of_ok,zf9,if_true,List.length_nil,Nat.zero_le,r1,rngD,Int.toNat_natCast]
 rw [List.range_eq_range']
 rw [show ([]:List D) = ([]:List Nat).map fun (k:Nat)=>D.int k from rfl,e]
 simp only [zd0,zc8,List.getElem?_cons_zero,List.getElem?_cons_succ,zc5,Fl.of_ok,zf9,zb8,List.nil_append,List.length_nil,List.drop_zero]
theorem fits1_ok (q x:List Nat) (hq:q.length≤1000) (hx:x.length≤1000) (ha:∀ c∈q,c < 128):zF1 [tx q,tx x] = .ok (.bl (subs q x)):=by
 have st:zg9 2 [tx q,tx x] = [some (.val (tx q)),some (.val (tx x))]:=rfl
 unfold zF1 b_fits
 rw [zg6,st]
 simp only [zc1,zf4,zb9,zb5,za9,zb6,zd4,List.getElem?_cons_zero,List.getElem?_cons_succ,zb2,Rs.bind_ok,Fl.of_ok,zb8,zd7,eqD_i,zd2,ep_ok q x hq hx ha,zt5 q hq,List.length_map]
 congr 2
 rw [Bool.eq_iff_iff,← zD3 q x 0,beq_iff_eq]
 omega
noncomputable def gd:Nat→D→Prop
 | _,.str x=>PyData.strOk x = true
 | _,.int _=>True
 | _,.bl _=>True
 | _,.non=>True
 | n + 1,.lst ds=>∀ d∈ds,gd n d
 | n + 1,.tup ds=>∀ d∈ds,gd n d
 | _,_=>False
theorem ym0 {n:Nat} (ih:∀ d,gd n d→zp7 d = true∧(toPy d).canLay0 = true∧(toPy d).depth≤n∧PyData.eqv (toPy d) (toPy d) = true):∀ ds:List D,(∀ d∈ds,gd n d)→plainDs ds = true∧PyData.canLayAll0 (toPys ds) = true∧PyData.depthAll (toPys ds)≤n∧PyData.eqvAll (toPys ds) (toPys ds) = true
 | [],_=>⟨rfl,rfl,Nat.zero_le _,by simp [toPys,PyData.eqvAll]⟩
 | d :: ds,h=>by
  obtain ⟨a1,a2,a3,a4⟩:=ih d (h d List.mem_cons_self)
  obtain ⟨b1,b2,b3,b4⟩:=ym0 ih ds fun e he=>h e (List.mem_cons_of_mem _ he)
  refine ⟨by simp [plainDs,a1,b1],by simp [toPys,PyData.canLayAll0,a2,b2],?_,by simp [toPys,PyData.eqvAll,a4,b4]⟩
  simp only [toPys,PyData.depthAll]
  omega
theorem gd_ok:∀ (n:Nat) (d:D),gd n d→zp7 d = true∧(toPy d).canLay0 = true∧(toPy d).depth≤n∧PyData.eqv (toPy d) (toPy d) = true
 | n,.str x,h=>⟨by simp [zp7],by simpa [toPy,PyData.canLay0,gd] using h,by simp [toPy,PyData.depth],by simp [toPy,PyData.eqv]⟩
 | n,.int _,h=>⟨by simp [zp7],by simp [toPy,PyData.canLay0],by simp [toPy,PyData.depth],by simp [toPy,PyData.eqv]⟩
 | n,.bl _,h=>⟨by simp [zp7],by simp [toPy,PyData.canLay0],by simp [toPy,PyData.depth],by simp [toPy,PyData.eqv]⟩
 | n,.non,h=>⟨by simp [zp7],by simp [toPy,PyData.canLay0],by simp [toPy,PyData.depth],by simp [toPy,PyData.eqv]⟩
 | n + 1,.lst ds,h=>by
  obtain ⟨b1,b2,b3,b4⟩:=ym0 (gd_ok n) ds (by simpa [gd] using h)
  exact ⟨by simpa [zp7] using b1,by simpa [toPy,PyData.canLay0] using b2,by simpa [toPy,PyData.depth] using b3,by simpa [toPy,PyData.eqv] using b4⟩
 | n + 1,.tup ds,h=>by
  obtain ⟨b1,b2,b3,b4⟩:=ym0 (gd_ok n) ds (by simpa [gd] using h)
  exact ⟨by simpa [zp7] using b1,by simpa [toPy,PyData.canLay0] using b2,by simpa [toPy,PyData.depth] using b3,by simpa [toPy,PyData.eqv] using b4⟩
 | 0,.lst ds,h=>by simp [gd] at h
 | 0,.tup ds,h=>by simp [gd] at h
 | 0,.scr ds,h=>by simp [gd] at h
 | 0,.raw ds,h=>by simp [gd] at h
 | 0,.exc ds,h=>by simp [gd] at h
 | n + 1,.scr ds,h=>by simp [gd] at h
 | n + 1,.raw ds,h=>by simp [gd] at h
 | n + 1,.exc ds,h=>by simp [gd] at h
theorem ya7 {n:Nat} {d:D} (h:gd n d) (hn:n≤60):okD d = true∧eqvD d d = true:=by
 obtain ⟨a,b,c,e⟩:=gd_ok n d h
 refine ⟨?_,e⟩
 have:(toPy d).depth≤60:=by omega
 simp [okD,a,b,this]
noncomputable def wds (ls:List (List Nat)):List (List Nat):=ls.filter fun l=>!l.isEmpty
noncomputable def wdE:FE:=fun τ=>((eComp 1 [] (iAny (eMt "str" zB2 (eVar 0) (aCons (eC (.str " ")) aNil))) (gNm 0) (FD.tB (eOp neD (eVar 0) (eC (.str "")))) (eVar 0)) τ).bind fun ds=>.ok (.lst ds)
theorem words_b:zB0 = sRet wdE:=by unfold zB0 wdE;rfl
structure TxOk (t:List Nat) (ws:List (List Nat)):Prop where
 wd:zm7 [tx t] = .ok (.lst (ws.map tx))
 few:ws.length≤100
 each:∀ w∈ws,w≠[]∧w.length≤100∧∀ c∈w,c < 128
theorem yb2 (l:List Nat):((⟨l.toArray⟩:Str) == ("" : Str)) = l.isEmpty:=by
 cases l with
 | nil=>rfl
 | cons a r=>
  rw [Bool.eq_iff_iff]
  constructor
  ·intro h
   have h:=congrArg (fun s:Str=>s.cps.toList) (eq_of_beq h)
   have:(a :: r) = []:=h
   cases this
  ·intro h;cases h
theorem frE {ff:FA} {τ:DS} {ds:List D} (h:ff τ = .ok ds):(fun τ=>(ff τ).bind fun ds=>Rs.ok (D.lst ds)) τ = .ok (.lst ds):=by show (ff τ).bind _ = _;rw [h];rfl
theorem blank:(" " : Str) = ⟨#[32]⟩:=by decide +kernel
theorem txOk (ls:List (List Nat)) (hn:ls≠[]) (hl:ls.length≤100) (hf:∀ l∈ls,l.length≤100∧∀ c∈l,c < 128∧c≠32) (hz:(joinL 32 ls).length≤100000):TxOk (joinL 32 ls) (wds ls):=by
 refine ⟨?_,?_,fun w hw=>?_⟩
 ·have st:zg9 1 [tx (joinL 32 ls)] = [some (.val (tx (joinL 32 ls)))]:=rfl
  have sp:=yf1 32 ls hn fun l h z=>((hf l h).2 32 z).2 rfl
  have hs:zB2 (tx (joinL 32 ls)) [.str " "] = .ok (.lst (ls.map tx)):=by
   unfold zB2
   show (if zD7 (⟨(joinL 32 ls).toArray⟩:Str) " " then Rs.ok (D.lst ((Txt.split (⟨(joinL 32 ls).toArray⟩:Str) " ").map D.str)) else .no) = _
   rw [blank,sp,if_pos,List.map_map];rfl
   refine ⟨by decide,?_,?_⟩
   ·rw [zR5,sizeLine_v];omega
   ·rw [sp,List.length_map,sizeLine_v];omega
  have e:wdE [some (.val (tx (joinL 32 ls)))] = .ok (.lst ((wds ls).map tx)):=by
   unfold wdE
   refine frE (zq2 (ds:=ls.map tx) ?_ (zr0 (f:=tx) (g:=tx) (p:=fun l=>!l.isEmpty) ls fun a ha=>⟨_,rfl,?_,za3 rfl⟩) ?_)
   ·show (eMt "str" zB2 (eVar 0) (aCons (eC (.str " ")) aNil) [some (.val (tx (joinL 32 ls)))]).bind iterD = _
    rw [zi2,za3 (d:=tx (joinL 32 ls)) rfl,Rs.bind_ok,if_pos (show isTy "str" (tx (joinL 32 ls)) = true from rfl)]
    show ((Rs.ok [D.str " "]).bind fun ds=>zB2 (tx (joinL 32 ls)) ds).bind iterD = _
    rw [Rs.bind_ok,hs];rfl
   ·exact tB_ok (op2 (za3 rfl) rfl (by rw [neD_s,yb2]))
   ·rw [List.length_map];exact Nat.le_trans (List.length_filter_le _ _) (by omega)
  unfold zm7
  rw [words_b,zg6,st,zc1,e];rfl
 ·exact Nat.le_trans (List.length_filter_le _ _) hl
 ·obtain ⟨h1,h2⟩:=List.mem_filter.mp hw
  exact ⟨fun z=>by subst z;simp at h2,(hf w h1).1,fun c hc=>((hf w h1).2 c hc).1⟩
noncomputable def fwE:FE:=eBlt allD (aCons (fun τ=>((eComp 1 [1] (iAny (eCall zm7 (aCons (eVar 0) aNil))) (gNm 0) (fun _=>.ok true) (eCall zF1 (aCons (eVar 0) (aCons (eVar 1) aNil)))) τ).bind fun ds=>.ok (.lst ds)) aNil)
theorem fw_b:zx9 = sRet fwE:=by unfold zx9 fwE;rfl
noncomputable def allF (ws:List (List Nat)) (x:List Nat):Bool:=ws.all fun w=>subs w x
theorem zC4 {fe:FE} {τ:DS} {ds:List D} (h:fe τ = .ok (.lst ds)):iAny fe τ = .ok ds:=by rw [zf3,h];rfl
section
variable {t:List Nat} {ws:List (List Nat)} {x:List Nat}
theorem ym4 (h:TxOk t ws) (hx:x.length≤1000):zj7 [tx t,tx x] = .ok (.bl (allF ws x)):=by
 have st:zg9 2 [tx t,tx x] = [some (.val (tx t)),some (.val (tx x))]:=rfl
 have e:fwE [some (.val (tx t)),some (.val (tx x))] = .ok (.bl (allF ws x)):=by
  unfold fwE
  refine blt1 (frE (zq2 (zC4 (call1 (za3 rfl) h.wd)) (zq3 tx D.bl (fun w=>subs w x) ws fun w hw=>⟨_,rfl,?_⟩) ?_)) ?_
  ·obtain ⟨_,h2,h3⟩:=h.each w hw
   exact call2 (za3 rfl) (za3 rfl) (fits1_ok w x (by omega) hx h3)
  ·have:=h.few;simp only [List.length_map];omega
  ·unfold allD
   show (match zt2 ((ws.map fun w=>subs w x).map D.bl) with | some bs=>Rs.ok (D.bl (bs.all id)) | none=>.no) = _
   rw [yb5]
   show Rs.ok (D.bl _) = Rs.ok (D.bl _)
   congr 2
   unfold allF;rw [List.all_map];rfl
 unfold zj7
 rw [fw_b,zg6,st,zc1,e];rfl
noncomputable def bwl (ws:List (List Nat)) (x:List Nat):List Tl:=ws.map fun w=>(bestA w x).getD (0,[])
noncomputable def bwD (ws:List (List Nat)) (x:List Nat):D:=if allF ws x = true then .lst ((bwl ws x).map tlD) else .non
noncomputable def bwE:FE:=(fun τ=>((eComp 1 [1] (iAny (eCall zm7 (aCons (eVar 0) aNil))) (gNm 0) (fun _=>.ok true) (eCall zz4 (aCons (eVar 0) (aCons (eVar 1) aNil)))) τ).bind fun ds=>.ok (.lst ds))
theorem bw_b:zs8 = (sSeq (sIf (tNotD (tTru (eCall zj7 (aCons (eVar 0) (aCons (eVar 1) aNil))))) (sRet (eC .non)) sNext) (sRet bwE)):=by unfold zs8 bwE;rfl
theorem zW4 {w x:List Nat} (h:subs w x = true):∃ v l,bestA w x = some (v,l)∧IsBest w x v l:=zJ5 w x _ (zS4 w x h)
theorem zJ4 {w x:List Nat} (h:subs w x = false):bestA w x = none:=zJ6 w x h
theorem yh8 {w x:List Nat} (h:subs w x = true):optD (bestA w x) = tlD ((bestA w x).getD (0,[])):=by
 obtain ⟨v,l,e,_⟩:=zW4 h;rw [e];rfl
theorem yb6 (h:TxOk t ws) (hx:x.length≤1000):zh3 [tx t,tx x] = .ok (bwD ws x):=by
 have st:zg9 2 [tx t,tx x] = [some (.val (tx t)),some (.val (tx x))]:=rfl
 have hf:tTru (eCall zj7 (aCons (eVar 0) (aCons (eVar 1) aNil))) [some (.val (tx t)),some (.val (tx x))] = .ok (allF ws x):=by
  rw [ze3,call2 (za3 rfl) (za3 rfl) (ym4 h hx)];rfl
 unfold zh3 bwD
 rw [bw_b,zg6,st]
 cases z:allF ws x with
 | false=>
  rw [z] at hf
  rw [zc6,if_t (tn_ok hf)];rfl
 | true=>
  rw [z] at hf
  have e:bwE [some (.val (tx t)),some (.val (tx x))] = .ok (.lst ((bwl ws x).map tlD)):=by
   unfold bwE
   refine frE (zq2 (zC4 (call1 (za3 rfl) h.wd)) (zq3 tx tlD (fun w=>(bestA w x).getD (0,[])) ws fun w hw=>⟨_,rfl,?_⟩) ?_)
   ·obtain ⟨_,h2,h3⟩:=h.each w hw
    refine call2 (za3 rfl) (za3 rfl) ?_
    rw [abest_ok w x (by omega) hx h3,yh8]
    exact List.all_eq_true.mp z w hw
   ·have:=h.few;simp only [bwl,List.length_map];omega
  rw [zj8 (if_n (tn_ok hf)),zH7 e];rfl
end
noncomputable def ptw (ws:List (List Nat)) (x:List Nat):Int:=((bwl ws x).map (·.1)).sum
noncomputable def plw (ws:List (List Nat)) (x:List Nat):List Int:=(bwl ws x).flatMap fun t=>toI t.2
noncomputable def oiD:Option Int→D
 | some i=>.int i
 | none=>.non
noncomputable def wpt (ws:List (List Nat)) (x:List Nat):Option Int:=if allF ws x = true then some (ptw ws x) else none
noncomputable def pwE:FE:=(eBlt sumD (aCons (fun τ=>((eComp 2 [] (iAny (eVar 2)) (gPr 0 1) (fun _=>.ok true) (eVar 0)) τ).bind fun ds=>.ok (.lst ds)) aNil))
theorem pw_b:zr1 = (sSeq (sSet 2 (eCall zh3 (aCons (eVar 0) (aCons (eVar 1) aNil)))) (sSeq (sIf (FD.tB (eOp isD (eVar 2) (eC .non))) (sRet (eC .non)) sNext) (sRet pwE))):=by unfold zr1 pwE;rfl
theorem is_lst (ds:List D):isD (.lst ds) .non = .ok (.bl false):=rfl
section
variable {t:List Nat} {ws:List (List Nat)} {x:List Nat}
theorem yf9 (h:TxOk t ws) (hx:x.length≤1000):zf8 [tx t,tx x] = .ok (oiD (wpt ws x)):=by
 have st:zg9 3 [tx t,tx x] = [some (.val (tx t)),some (.val (tx x)),none]:=rfl
 have hb:=yb6 h hx
 unfold bwD at hb
 unfold zf8 wpt
 rw [pw_b,zg6,st]
 cases z:allF ws x with
 | false=>
  rw [z,if_neg (by simp)] at hb
  rw [zj8 (zo4 (call2 (za3 rfl) (za3 rfl) hb)),zc6,if_t (tB_ok (op2 (za3 rfl) rfl ya1))];rfl
 | true=>
  rw [z,if_pos rfl] at hb
  rw [zj8 (zo4 (call2 (za3 rfl) (za3 rfl) hb)),zj8 (if_n (tB_ok (op2 (za3 rfl) rfl (is_lst _))))]
  have e:pwE [some (.val (tx t)),some (.val (tx x)),some (.val (.lst ((bwl ws x).map tlD)))] = .ok (.int (ptw ws x)):=by
   unfold pwE
   refine blt1 (frE (zq2 (zC4 (za3 rfl)) (zq3 tlD D.int (fun t=>t.1) (bwl ws x) fun a ha=>⟨_,rfl,za3 rfl⟩) ?_)) ?_
   ·have:=h.few;simp only [bwl,List.length_map];omega
   ·show (match intsL (((bwl ws x).map fun t=>t.1).map D.int) with | some ns=>Rs.ok (D.int ns.sum) | none=>.no) = _
    rw [zw5];rfl
  exact congrArg flRes (zH7 e)
noncomputable def plE:FE:=fun τ=>(((aCons (eVar 3) aNil) τ).bind setI).bind fun ds=>.ok (.lst ds)
theorem pl_b:zr2 = (sSeq (sSet 2 (eCall zh3 (aCons (eVar 0) (aCons (eVar 1) aNil)))) (sSeq (sIf (FD.tB (eOp isD (eVar 2) (eC .non))) (sRet (eC .non)) sNext)
 (sSeq (sSetO 3 (fun τ=>(aNil τ).bind fun ds=>if ds.length≤sizeLine then .ok ds else .no)) (sSeq (sFor (iAny (eVar 2)) (gPr 4 5) (sExt 3 (eVar 5))) (fun τ=>sRet plE (frzT τ)))))):=by unfold zr2 plE;rfl
theorem ext_nx {i:Nat} {fe:FE} {τ:DS} {ds es:List D} (h:τ[i]? = some (some (.own ds))) (he:fe τ = .ok (.lst es)) (hl:ds.length + es.length≤10000):sExt i fe τ = .nx (τ.set i (some (.own (ds ++ es)))):=by
 unfold sExt
 rw [zc8,h]
 show Fl.of (Rs.ok ds) _ = _
 rw [Fl.of_ok,he,Fl.of_ok]
 exact if_pos (by rw [sizeLine_v];omega)
theorem yg3 (a0 a1 a2:Option Sl):∀ (ts:List Tl) (acc:List Int) (t4 t5:Option Sl),acc.length + (ts.flatMap fun t=>toI t.2).length≤10000 →
  ∃ b4 b5,loopD (gPr 4 5) (sExt 3 (eVar 5)) (ts.map tlD) [a0,a1,a2,some (.own (acc.map D.int)),t4,t5] = .nx [a0,a1,a2,some (.own ((acc ++ ts.flatMap fun t=>toI t.2).map D.int)),b4,b5]
 | [],acc,t4,t5,_=>⟨t4,t5,by simp [loopD]⟩
 | t :: ts,acc,t4,t5,h=>by
  rw [List.flatMap_cons,List.length_append] at h
  obtain ⟨b4,b5,ih⟩:=yg3 a0 a1 a2 ts (acc ++ toI t.2) (some (.val (.int t.1))) (some (.val (nts t.2))) (by rw [List.length_append];omega)
  refine ⟨b4,b5,?_⟩
  rw [List.map_cons,loopD]
  show Fl.of (Rs.ok [a0,a1,a2,some (.own (acc.map D.int)),some (.val (.int t.1)),some (.val (nts t.2))]) _ = _
  rw [Fl.of_ok,ext_nx (i:=3) (ds:=acc.map D.int) (es:=(toI t.2).map D.int) rfl (by rw [za3 (d:=nts t.2) rfl,yi8]) (by simp only [List.length_map] at h ⊢;omega)]
  show loopD _ _ _ [a0,a1,a2,some (.own (acc.map D.int ++ (toI t.2).map D.int)),_,_] = _
  rw [← List.map_append,ih,List.flatMap_cons,List.append_assoc]
theorem plcw_ok (h:TxOk t ws) (hx:x.length≤1000) (hp:(plw ws x).length < 64):zj0 [tx t,tx x] = .ok (if allF ws x = true then its (STW.setZ (plw ws x)) else .non):=by
 have st:zg9 6 [tx t,tx x] = [some (.val (tx t)),some (.val (tx x)),none,none,none,none]:=rfl
 have hb:=yb6 h hx
 unfold bwD at hb
 unfold zj0
 rw [pl_b,zg6,st]
 cases z:allF ws x with
 | false=>
  rw [z,if_neg (by simp)] at hb
  rw [zj8 (zo4 (call2 (za3 rfl) (za3 rfl) hb)),zc6,if_t (tB_ok (op2 (za3 rfl) rfl ya1))];rfl
 | true=>
  rw [z,if_pos rfl] at hb
  rw [zj8 (zo4 (call2 (za3 rfl) (za3 rfl) hb)),zj8 (if_n (tB_ok (op2 (za3 rfl) rfl (is_lst _)))),zj8 (zU3 (nilO _)),if_pos rfl]
  obtain ⟨b4,b5,lp⟩:=yg3 (some (.val (tx t))) (some (.val (tx x))) (some (.val (.lst ((bwl ws x).map tlD)))) (bwl ws x) [] none none (by unfold plw at hp;rw [List.length_nil];omega)
  have fr:sFor (iAny (eVar 2)) (gPr 4 5) (sExt 3 (eVar 5)) [some (.val (tx t)),some (.val (tx x)),some (.val (.lst ((bwl ws x).map tlD))),some (.own []),none,none] = .nx [some (.val (tx t)),some (.val (tx x)),some (.val (.lst ((bwl ws x).map tlD))),some (.own ((plw ws x).map D.int)),b4,b5]:=by
   rw [ze5,zC4 (za3 rfl),Fl.of_ok]
   exact lp
  show flRes (sSeq (sFor (iAny (eVar 2)) (gPr 4 5) (sExt 3 (eVar 5))) (fun τ=>sRet plE (frzT τ)) [some (.val (tx t)),some (.val (tx x)),some (.val (.lst ((bwl ws x).map tlD))),some (.own []),none,none]) = _
  rw [zj8 fr]
  show flRes (sRet plE (frzT _)) = _
  have e:plE (frzT [some (.val (tx t)),some (.val (tx x)),some (.val (.lst ((bwl ws x).map tlD))),some (.own ((plw ws x).map D.int)),b4,b5]) = .ok (its (STW.setZ (plw ws x))):=by
   unfold plE
   rw [arg1 (za3 (d:=.lst ((plw ws x).map D.int)) rfl),Rs.bind_ok]
   have:setI [.lst ((plw ws x).map D.int)] = .ok ((STW.setZ (plw ws x)).map D.int):=by
    show (match intsL ((plw ws x).map D.int) with | some ns=>if ns.length < 64 then Rs.ok ((STW.setZ ns).map D.int) else .no | none=>.no) = _
    rw [zw5];exact if_pos hp
   rw [this];rfl
  rw [zH7 e];rfl
end
noncomputable abbrev ORw:=Option Int×Nat
noncomputable def orD (p:ORw):D:=.tup [oiD p.1,.int (p.2:Int)]
noncomputable def orow (p:ORw):Option Rw:=p.1.map fun v=>(v,p.2)
noncomputable def wR (X:List (List Nat)) (ws:List (List Nat)):List Rw:=X.zipIdx.filterMap fun p=>orow (wpt ws p.1,p.2)
noncomputable def fbE:FE:=fun τ=>((eComp 2 [1] (iEn (aCons (eVar 0) aNil)) (gPr 0 1) (fun _=>.ok true) (eTup (aCons (eCall zf8 (aCons (eVar 2) (aCons (eVar 1) aNil))) (aCons (eVar 0) aNil)))) τ).bind fun ds=>.ok (.lst ds)
noncomputable def fcE:FE:=fun τ=>((eComp 1 [] (iAny (eVar 3)) (gNm 0) (FD.tB (eOp zB5 (eOp ixD (eVar 0) (eC (.int 0))) (eC .non))) (eVar 0)) τ).bind fun ds=>.ok (.lst ds)
theorem fb_b:zr7 = (sSeq (sSet 3 fbE) (sRet (eCall zn9 (aCons (eVar 0) (aCons fcE (aCons (eVar 2) aNil)))))):=by unfold zr7 fbE fcE;rfl
theorem zE6:∀ l:List ORw,(l.filter fun p=>p.1.isSome).map orD = (l.filterMap orow).map rowD
 | []=>rfl
 | (none,i) :: l=>by
  have ih:=zE6 l
  rw [List.filter_cons_of_neg (by simp),List.filterMap_cons_none (by rfl),ih]
 | (some v,i) :: l=>by
  have ih:=zE6 l
  rw [List.filter_cons_of_pos (by simp),List.filterMap_cons_some (b:=(v,i)) (by rfl),List.map_cons,List.map_cons,ih];rfl
theorem isNot_or (p:ORw):zB5 (oiD p.1) .non = .ok (.bl p.1.isSome):=by
 obtain ⟨o,i⟩:=p
 cases o <;> rfl
theorem wR_sub (X:List (List Nat)) (ws:List (List Nat)):∀ k,((((X.zipIdx k).filterMap fun p=>orow (wpt ws p.1,p.2))).map (·.2)).Sublist (List.range' k X.length):=by
 induction X with
 | nil=>intro k;exact List.Sublist.refl _
 | cons x X ih=>
  intro k
  have:=ih (k + 1)
  rw [List.zipIdx_cons,List.length_cons,List.range'_succ]
  cases z:wpt ws x with
  | none=>rw [List.filterMap_cons_none (by simp [orow,z])];exact List.Sublist.cons _ this
  | some v=>rw [List.filterMap_cons_some (b:=(v,k)) (by simp [orow,z]),List.map_cons];exact List.Sublist.cons₂ _ this
theorem wR_ok (X:List (List Nat)) (ws:List (List Nat)) (hX:∀ x∈X,x.length≤1000) (hl:X.length < 64):RsOk X (wR X ws):=by
 have s:=wR_sub X ws 0
 rw [← List.range_eq_range'] at s
 refine ⟨?_,s.nodup List.nodup_range,fun r hr=>?_,hX⟩
 ·have:=s.length_le
  rw [List.length_map,List.length_range] at this
  unfold wR;omega
 ·have:=s.mem (List.mem_map.mpr ⟨r,hr,rfl⟩)
  simpa using this
theorem zT0 {t:List Nat} {ws:List (List Nat)} (h:TxOk t ws) (X:List (List Nat)) (many:Nat) (hX:∀ x∈X,x.length≤1000) (hl:X.length < 64) :
  zh4 [.lst (X.map tx),tx t,.int (many:Int)] = .ok (.lst (((srtBy (keyO X) (wR X ws)).take many).map rowD)):=by
 have st:zg9 4 [.lst (X.map tx),tx t,.int (many:Int)] = [some (.val (.lst (X.map tx))),some (.val (tx t)),some (.val (.int (many:Int))),none]:=rfl
 have e1:fbE [some (.val (.lst (X.map tx))),some (.val (tx t)),some (.val (.int (many:Int))),none] = .ok (.lst ((X.zipIdx.map fun p=>(wpt ws p.1,p.2)).map orD)):=by
  unfold fbE
  refine frE (zq2 (ds:=X.zipIdx.map fun p=>D.tup [.int (p.2:Int),tx p.1]) ?_ (zq3 (fun p:List Nat×Nat=>D.tup [.int (p.2:Int),tx p.1]) orD (fun p=>(wpt ws p.1,p.2)) X.zipIdx fun p hp=>⟨_,rfl,?_⟩) ?_)
  ·unfold iEn
   rw [arg1 (za3 (d:=.lst (X.map tx)) rfl),Rs.bind_ok]
   show Rs.ok (zk6 0 (X.map tx)) = _
   rw [yb1 tx X 0]
  ·refine tup2 (call2 (za3 rfl) (za3 rfl) (yf9 h (hX _ ?_))) (za3 rfl)
   exact List.fst_mem_of_mem_zipIdx hp
  ·simp only [List.length_map,List.length_zipIdx];omega
 have e2:fcE [some (.val (.lst (X.map tx))),some (.val (tx t)),some (.val (.int (many:Int))),some (.val (.lst ((X.zipIdx.map fun p=>(wpt ws p.1,p.2)).map orD)))] = .ok (.lst ((wR X ws).map rowD)):=by
  unfold fcE
  have key:(wR X ws).map rowD = ((X.zipIdx.map fun p=>(wpt ws p.1,p.2)).filter fun p:ORw=>p.1.isSome).map orD:=by
   rw [zE6,List.filterMap_map];rfl
  rw [key]
  refine frE (zq2 (zC4 (za3 rfl)) (zr0 orD orD (fun p:ORw=>p.1.isSome) _ fun p hp=>⟨_,rfl,?_,za3 rfl⟩) ?_)
  ·exact tB_ok (op2 (op2 (za3 rfl) rfl (show ixD (orD p) (.int 0) = .ok (oiD p.1) from rfl)) rfl (isNot_or p))
  ·rw [List.length_map]
   refine Nat.le_trans (List.length_filter_le _ _) ?_
   simp only [List.length_map,List.length_zipIdx];omega
 unfold zh4
 rw [fb_b,zg6,st,zj8 (zo4 e1)]
 exact congrArg flRes (zH7 (call3 (za3 rfl) e2 (za3 rfl) (first_ok X _ many (wR_ok X ws hX hl))))
noncomputable def WOk (w:List Nat):Prop:=w.length≤20∧∀ c∈w,c∈QS
theorem qs_no:∀ c∈QS,c < 128∧c≠32:=by decide
theorem WOk.part {w:List Nat} (h:WOk w):w.length≤100∧∀ c∈w,c < 128∧c≠32:=⟨by have:=h.1;omega,fun c hc=>qs_no c (h.2 c hc)⟩
theorem WOk.lt {w:List Nat} (h:WOk w):∀ c∈w,c < 128:=fun c hc=>(qs_no c (h.2 c hc)).1
theorem WOk.nil:WOk []:=⟨by decide,fun c hc=>by cases hc⟩
theorem ya0 (c:Nat):∀ ls:List (List Nat),(∀ l∈ls,l.length≤100)→(joinL c ls).length≤101 * ls.length
 | [],_=>by simp [joinL]
 | [x],h=>by have:=h x (by simp);simp only [joinL,List.length_singleton];omega
 | x :: y :: r,h=>by
  have h1:=h x (by simp)
  have h2:=ya0 c (y :: r) fun l hl=>h l (List.mem_cons_of_mem _ hl)
  rw [zI5 c x (y :: r) (by simp),List.length_append,List.length_cons]
  simp only [List.length_cons] at h2 ⊢
  omega
theorem txW (ls:List (List Nat)) (hn:ls≠[]) (hl:ls.length≤20) (hf:∀ l∈ls,WOk l):TxOk (joinL 32 ls) (wds ls):=
 txOk ls hn (by omega) (fun l h=>(hf l h).part) (by have:=ya0 32 ls fun l h=>(hf l h).part.1;omega)
theorem bl1:D.str " " = tx [32]:=by rw [blank]
theorem add3 {τ:DS} {fa fb:FE} {a b:List Nat} (h1:fa τ = .ok (tx a)) (h2:fb τ = .ok (tx b)) (ha:a.length≤500) (hb:b.length≤500):eOp addD fa fb τ = .ok (tx (a ++ b)):=op2 h1 h2 (add_tx a b (by omega) (by omega))
theorem yl9 (rs:List Rw):gd 2 (.lst (rs.map rowD)):=fun d hd=>by
 obtain ⟨r,_,rfl⟩:=List.mem_map.mp hd
 intro e he
 rcases List.mem_cons.mp he with rfl | he
 ·trivial
 ·rw [List.mem_singleton.mp he];trivial
theorem gd_ints (l:List Int):gd 1 (its l):=fun d hd=>by
 obtain ⟨r,_,rfl⟩:=List.mem_map.mp hd
 trivial
theorem ne_lstg {n:Nat} {ds:List D} (h:gd n (.lst ds)) (hn:n≤60):neD (.lst ds) (.lst ds) = .ok (.bl false):=by
 obtain ⟨a,b⟩:=ya7 h hn
 unfold neD
 simp only [a,and_self,if_true,b,Bool.not_true]
theorem ym5 {n:Nat} {ds:List D} (h:gd n (.lst ds)) (hn:n≤60):eqD (.lst ds) (.lst ds) = .ok (.bl true):=by
 obtain ⟨a,b⟩:=ya7 h hn
 unfold eqD
 simp only [a,and_self,if_true,b]
noncomputable def preL (a:List (List Nat)):List Nat:=a.flatMap fun l=>l ++ [32]
theorem zZ9:∀ (a:List (List Nat)) (x:List Nat),joinL 32 (a ++ [x]) = preL a ++ x
 | [],x=>rfl
 | y :: a,x=>by
  rw [List.cons_append,zI5 32 y (a ++ [x]) (by simp),zZ9 a x]
  unfold preL
  rw [List.flatMap_cons];simp
theorem zY1 (n:Nat):preL (List.replicate n []) = List.replicate n 32:=by
 unfold preL
 induction n with
 | zero=>rfl
 | succ n ih=>rw [List.replicate_succ,List.flatMap_cons,ih,List.replicate_succ];rfl
theorem pre_step (a:List (List Nat)) (w:List Nat) (n:Nat):preL (a ++ [w] ++ List.replicate n []) = preL a ++ w ++ List.replicate (n + 1) 32:=by
 have:=zY1 n
 unfold preL at this ⊢
 rw [List.flatMap_append,List.flatMap_append,this,List.flatMap_singleton,List.replicate_succ];simp
theorem zJ8 (a:List (List Nat)) (w:List Nat) (n:Nat):wds (a ++ [w] ++ List.replicate n []) = wds a ++ (if w.isEmpty = true then [] else [w]):=by
 unfold wds
 rw [List.filter_append,List.filter_append]
 have:(List.replicate n ([]:List Nat)).filter (fun l=>!l.isEmpty) = []:=by
  rw [List.filter_eq_nil_iff];intro l hl;rw [(List.mem_replicate.mp hl).2];simp
 rw [this,List.append_nil]
 cases w <;> simp
theorem mulS_tx (ys:List Nat) (k:Nat) (h:ys.length≤1000) (hk:k≤1000):mulSD (tx ys) (.int (k:Int)) = .ok (tx (List.replicate k ys).flatten):=by
 show (if (⟨ys.toArray⟩:Str).length≤1000∧0≤(k:Int)∧(k:Int)≤1000 then Rs.ok (D.str ⟨(List.replicate (k:Int).toNat (⟨ys.toArray⟩:Str).cps.toList).flatten.toArray⟩) else .no) = _
 rw [if_pos ⟨by rw [zR5];exact h,by omega,by omega⟩,Int.toNat_natCast]
theorem blanks (k:Nat) (hk:k≤1000):mulSD (.str " ") (.int (k:Int)) = .ok (tx (List.replicate k 32)):=by
 rw [bl1,mulS_tx [32] k (by simp) hk]
 congr 2
 induction k with
 | zero=>rfl
 | succ n ih=>rw [List.replicate_succ,List.flatten_cons,ih (by omega),List.replicate_succ];rfl
structure WInv (k:Nat) (a:List (List Nat)):Prop where
 len:a.length≤2 * k + 1
 few:(wds a).length≤k
 each:∀ l∈a,WOk l∧l.length≤3
noncomputable def lwB:FS:=(sSeq (sSet 6 (eOp ixD (eOp addD (eVar 2) (eLst (aCons (eC (.str "abc")) aNil))) (eCall za8 (aCons (eVar 0) (aCons (eOp addD (eOp addD (eVar 1) (eC (.int 2))) (eVar 5)) (aCons (eOp addD (eBlt lenD (aCons (eVar 2) aNil)) (eC (.int 1))) aNil))))))
  (sSeq (sSet 7 (eCall zl7 (aCons (eVar 0) (aCons (eOp addD (eOp addD (eVar 1) (eC (.int 10))) (eOp mulD (eC (.int 12)) (eVar 5))) (aCons (eVar 6) (aCons (eC (.int 3)) aNil))))))
  (sSeq (sIf (FD.tB (eOp neD (eVar 7) (eC (.str "")))) (sApp 3 (eVar 7)) sNext)
  (sSet 4 (eOp addD (eOp addD (eVar 4) (eVar 7)) (eOp mulSD (eC (.str " ")) (eOp addD (eC (.int 1)) (eCall za8 (aCons (eVar 0) (aCons (eOp addD (eOp addD (eVar 1) (eC (.int 6))) (eVar 5)) (aCons (eC (.int 2)) aNil)))))))))))
theorem lw_b:zv7 = (sSeq (sSetO 3 (fun τ=>(aNil τ).bind fun ds=>if ds.length≤sizeLine then .ok ds else .no))
  (sSeq (sSet 4 (eOp mulSD (eC (.str " ")) (eCall za8 (aCons (eVar 0) (aCons (eVar 1) (aCons (eC (.int 2)) aNil))))))
  (sSeq (sFor (iRg1 (aCons (eCall za8 (aCons (eVar 0) (aCons (eOp addD (eVar 1) (eC (.int 1))) (aCons (eC (.int 4)) aNil)))) aNil)) (gNm 5) lwB)
  (fun τ=>sRet (eTup (aCons (eVar 3) (aCons (eVar 4) aNil))) (frzT τ))))):=by unfold zv7 lwB;rfl
section
variable {ns:List Int} {X:List (List Nat)}
noncomputable abbrev lst (ns:List Int) (at_:Int) (X:List (List Nat)) (a:List (List Nat)) (s5 s6 s7:Option Sl):DS:=[some (.val (.scr ns)),some (.val (.int at_)),some (.val (.lst (X.map tx))),some (.own ((wds a).map tx)),some (.val (tx (preL a))),s5,s6,s7]
theorem pre_len (a:List (List Nat)) (h:∀ l∈a,l.length≤3):(preL a).length≤4 * a.length:=by
 unfold preL
 induction a with
 | nil=>simp
 | cons l a ih=>
  have h1:=h l (by simp)
  have h2:=ih fun m hm=>h m (by simp [hm])
  rw [List.flatMap_cons,List.length_append,List.length_append,List.length_singleton,List.length_cons];omega
theorem lw_step (at_:Int) (k:Nat) (a:List (List Nat)) (s6 s7:Option Sl) (h63:ns.length≤63) (h0:0≤at_) (ha:at_ < 10000) (hk:k < 4) (hX:∀ x∈X,NmOk x) (hl:X.length≤1000) (hw:WInv k a) :
  ∃ a' t6 t7,WInv (k + 1) a'∧lwB (lst ns at_ X a (some (.val (.int (0 + k)))) s6 s7) = .nx (lst ns at_ X a' (some (.val (.int (0 + k)))) t6 t7):=by
 have dl:=zq9 ns (at_ + 2 + (0 + (k:Int))) (m:=(X.length:Int) + 1) (by omega)
 have dk:=zq8 ns (at_ + 2 + (0 + (k:Int))) ((X.length:Int) + 1) h63 (by omega) (by omega) (by omega)
 generalize drawZ ns (at_ + 2 + (0 + (k:Int))) ((X.length:Int) + 1) = M at dl dk
 have hi:M.toNat < (X ++ [abcN]).length:=by rw [List.length_append,List.length_singleton];omega
 have hm':(X ++ [abcN]).getD M.toNat []∈X ++ [abcN]:=zN5 hi
 have hn:NmOk ((X ++ [abcN]).getD M.toNat []):=by
  rcases List.mem_append.mp hm' with z | z
  ·exact hX _ z
  ·have:(X ++ [abcN]).getD M.toNat [] = abcN:=by simpa using z
   rw [this];exact abc_ok
 have ix:=zM6 (X ++ [abcN]) M.toNat hi
 rw [Int.toNat_of_nonneg dl.1] at ix
 obtain ⟨q,q1,q2,q3⟩:=query_ok ns (at_ + 10 + 12 * (0 + (k:Int))) ((X ++ [abcN]).getD M.toNat []) 3 h63 (by omega) (by omega) (by decide) (by decide) hn.1 (Nat.le_trans hn.2.1 (by decide)) hn.2.2
 have el:=zq9 ns (at_ + 6 + (0 + (k:Int))) (m:=2) (by decide)
 have ek:=zq8 ns (at_ + 6 + (0 + (k:Int))) 2 h63 (by omega) (by omega) (by decide)
 generalize drawZ ns (at_ + 6 + (0 + (k:Int))) 2 = N at el ek
 have hq:WOk q:=⟨by omega,q2⟩
 have hpl:=pre_len a fun l hl=>(hw.each l hl).2
 have hal:=hw.len
 have s1:sSet 6 (eOp ixD (eOp addD (eVar 2) (eLst (aCons (eC (.str "abc")) aNil))) (eCall za8 (aCons (eVar 0) (aCons (eOp addD (eOp addD (eVar 1) (eC (.int 2))) (eVar 5)) (aCons (eOp addD (eBlt lenD (aCons (eVar 2) aNil)) (eC (.int 1))) aNil))))) (lst ns at_ X a (some (.val (.int (0 + k)))) s6 s7) = .nx (lst ns at_ X a (some (.val (.int (0 + k)))) (some (.val (tx ((X ++ [abcN]).getD M.toNat [])))) s7):=
  zo4 (op2 (op2 (za3 rfl) (lst1e rfl) (cat_abc X hl)) (call3 (za3 rfl) (op2 (op2 (za3 rfl) rfl zd3) (za3 rfl) zd3) (op2 (blt1 (za3 rfl) zd2) rfl (by rw [List.length_map];exact zd3)) dk) ix)
 have s2:sSet 7 (eCall zl7 (aCons (eVar 0) (aCons (eOp addD (eOp addD (eVar 1) (eC (.int 10))) (eOp mulD (eC (.int 12)) (eVar 5))) (aCons (eVar 6) (aCons (eC (.int 3)) aNil))))) (lst ns at_ X a (some (.val (.int (0 + k)))) (some (.val (tx ((X ++ [abcN]).getD M.toNat [])))) s7) = .nx (lst ns at_ X a (some (.val (.int (0 + k)))) (some (.val (tx ((X ++ [abcN]).getD M.toNat [])))) (some (.val (tx q)))):=
  zo4 (call4' (za3 rfl) (op2 (op2 (za3 rfl) rfl zd3) (op2 rfl (za3 rfl) (zx0 (by omega))) zd3) (za3 rfl) rfl q3)
 have s3:(sIf (FD.tB (eOp neD (eVar 7) (eC (.str "")))) (sApp 3 (eVar 7)) sNext) (lst ns at_ X a (some (.val (.int (0 + k)))) (some (.val (tx ((X ++ [abcN]).getD M.toNat [])))) (some (.val (tx q)))) = .nx [some (.val (.scr ns)),some (.val (.int at_)),some (.val (.lst (X.map tx))),some (.own ((wds a ++ (if q.isEmpty = true then [] else [q])).map tx)),some (.val (tx (preL a))),some (.val (.int (0 + k))),some (.val (tx ((X ++ [abcN]).getD M.toNat []))),some (.val (tx q))]:=by
  have hc:FD.tB (eOp neD (eVar 7) (eC (.str ""))) (lst ns at_ X a (some (.val (.int (0 + k)))) (some (.val (tx ((X ++ [abcN]).getD M.toNat [])))) (some (.val (tx q)))) = .ok (!q.isEmpty):=tB_ok (op2 (za3 rfl) rfl (by rw [neD_s,yb2]))
  cases z:q.isEmpty with
  | true=>rw [z] at hc;rw [if_n hc,if_pos rfl,List.append_nil]
  | false=>
   rw [z] at hc
   rw [if_t hc,if_neg (by simp),ze8]
   show Fl.of (Rs.ok ((wds a).map tx)) _ = _
   have hf:=hw.few
   rw [Fl.of_ok,za3 (d:=tx q) rfl,Fl.of_ok,if_pos (by rw [sizeLine_v,List.length_map];omega),List.map_append];rfl
 have s4:sSet 4 (eOp addD (eOp addD (eVar 4) (eVar 7)) (eOp mulSD (eC (.str " ")) (eOp addD (eC (.int 1)) (eCall za8 (aCons (eVar 0) (aCons (eOp addD (eOp addD (eVar 1) (eC (.int 6))) (eVar 5)) (aCons (eC (.int 2)) aNil))))))) [some (.val (.scr ns)),some (.val (.int at_)),some (.val (.lst (X.map tx))),some (.own ((wds a ++ (if q.isEmpty = true then [] else [q])).map tx)),some (.val (tx (preL a))),some (.val (.int (0 + k))),some (.val (tx ((X ++ [abcN]).getD M.toNat []))),some (.val (tx q))] = .nx (lst ns at_ X (a ++ [q] ++ List.replicate N.toNat []) (some (.val (.int (0 + k)))) (some (.val (tx ((X ++ [abcN]).getD M.toNat [])))) (some (.val (tx q)))):=by
  rw [show lst ns at_ X (a ++ [q] ++ List.replicate N.toNat []) (some (.val (.int (0 + k)))) (some (.val (tx ((X ++ [abcN]).getD M.toNat [])))) (some (.val (tx q))) = [some (.val (.scr ns)),some (.val (.int at_)),some (.val (.lst (X.map tx))),some (.own ((wds a ++ (if q.isEmpty = true then [] else [q])).map tx)),some (.val (tx (preL a ++ q ++ List.replicate (N.toNat + 1) 32))),some (.val (.int (0 + k))),some (.val (tx ((X ++ [abcN]).getD M.toNat []))),some (.val (tx q))] by rw [← zJ8,← pre_step]]
  have eb:eOp mulSD (eC (.str " ")) (eOp addD (eC (.int 1)) (eCall za8 (aCons (eVar 0) (aCons (eOp addD (eOp addD (eVar 1) (eC (.int 6))) (eVar 5)) (aCons (eC (.int 2)) aNil))))) [some (.val (.scr ns)),some (.val (.int at_)),some (.val (.lst (X.map tx))),some (.own ((wds a ++ (if q.isEmpty = true then [] else [q])).map tx)),some (.val (tx (preL a))),some (.val (.int (0 + k))),some (.val (tx ((X ++ [abcN]).getD M.toNat []))),some (.val (tx q))] = .ok (tx (List.replicate (N.toNat + 1) 32)):=by
   have:=blanks (N.toNat + 1) (by omega)
   rw [show ((N.toNat + 1:Nat):Int) = 1 + N by omega] at this
   exact op2 rfl (op2 rfl (call3 (za3 rfl) (op2 (op2 (za3 rfl) rfl zd3) (za3 rfl) zd3) rfl ek) zd3) this
  exact zo4 (add3 (add3 (za3 rfl) (za3 rfl) (by omega) (by omega)) eb (by rw [List.length_append];omega) (by rw [List.length_replicate];omega))
 refine ⟨a ++ [q] ++ List.replicate N.toNat [],some (.val (tx ((X ++ [abcN]).getD M.toNat []))),some (.val (tx q)),⟨?_,?_,fun l hl=>?_⟩,?_⟩
 ·simp only [List.length_append,List.length_singleton,List.length_replicate];omega
 ·rw [zJ8,List.length_append]
  have:=hw.few
  split <;> simp <;> omega
 ·rcases List.mem_append.mp hl with hl | hl
  ·rcases List.mem_append.mp hl with hl | hl
   ·exact hw.each l hl
   ·rw [List.mem_singleton.mp hl];exact ⟨hq,by omega⟩
  ·rw [(List.mem_replicate.mp hl).2];exact ⟨WOk.nil,by simp⟩
 ·unfold lwB
  rw [zj8 s1,zj8 s2,zj8 s3,s4]
theorem yj4 (at_:Int) (h63:ns.length≤63) (h0:0≤at_) (ha:at_ < 10000) (hX:∀ x∈X,NmOk x) (hl:X.length≤1000) :
  ∃ a,WInv 3 a∧zo0 [.scr ns,.int at_,.lst (X.map tx)] = .ok (.tup [.lst ((wds a).map tx),tx (preL a)]):=by
 have st:zg9 8 [.scr ns,.int at_,.lst (X.map tx)] = [some (.val (.scr ns)),some (.val (.int at_)),some (.val (.lst (X.map tx))),none,none,none,none,none]:=rfl
 have d1:=zq9 ns at_ (m:=2) (by decide)
 have e1:=zq8 ns at_ 2 h63 h0 (by omega) (by decide)
 generalize drawZ ns at_ 2 = A at d1 e1
 have d2:=zq9 ns (at_ + 1) (m:=4) (by decide)
 have e2:=zq8 ns (at_ + 1) 4 h63 (by omega) (by omega) (by decide)
 generalize drawZ ns (at_ + 1) 4 = B at d2 e2
 have w0:WInv 0 (List.replicate A.toNat []):=⟨by rw [List.length_replicate];omega,by
  have:=zJ8 [] [] A.toNat
  have z:wds (List.replicate A.toNat []) = []:=by
   unfold wds;rw [List.filter_eq_nil_iff];intro l hl;rw [(List.mem_replicate.mp hl).2];simp
  rw [z];simp,fun l hl=>by rw [(List.mem_replicate.mp hl).2];exact ⟨WOk.nil,by simp⟩⟩
 have loop:∀ (m k:Nat) (a:List (List Nat)) (s5 s6 s7:Option Sl),k + m≤3→WInv k a→∃ a' t5 t6 t7,WInv (k + m) a'∧loopD (gNm 5) lwB ((List.range' k m).map fun (i:Nat)=>D.int (0 + i)) (lst ns at_ X a s5 s6 s7) = .nx (lst ns at_ X a' t5 t6 t7):=fun m=>by
  induction m with
  | zero=>intro k a s5 s6 s7 _ h;exact ⟨a,s5,s6,s7,h,rfl⟩
  | succ m ih=>
   intro k a s5 s6 s7 hk h
   obtain ⟨a1,t6,t7,h1,e1⟩:=lw_step (ns:=ns) (X:=X) at_ k a s6 s7 h63 h0 ha (by omega) hX hl h
   obtain ⟨a2,u5,u6,u7,h2,e2⟩:=ih (k + 1) a1 (some (.val (.int (0 + k)))) t6 t7 (by omega) h1
   refine ⟨a2,u5,u6,u7,by rw [show k + (m + 1) = k + 1 + m by omega];exact h2,?_⟩
   rw [List.range'_succ,List.map_cons,loopD]
   show Fl.of (Rs.ok (lst ns at_ X a (some (.val (.int (0 + k)))) s6 s7)) _ = _
   rw [Fl.of_ok,e1]
   exact e2
 obtain ⟨a,t5,t6,t7,hw,lp⟩:=loop B.toNat 0 (List.replicate A.toNat []) none none none (by omega) w0
 have hw3:WInv 3 a:=⟨by have:=hw.len;omega,by have:=hw.few;omega,hw.each⟩
 refine ⟨a,hw3,?_⟩
 have z0:wds (List.replicate A.toNat []) = []:=by
  unfold wds;rw [List.filter_eq_nil_iff];intro l hl;rw [(List.mem_replicate.mp hl).2];simp
 have s1:sSetO 3 (fun τ=>(aNil τ).bind fun ds=>if ds.length≤sizeLine then .ok ds else .no) [some (.val (.scr ns)),some (.val (.int at_)),some (.val (.lst (X.map tx))),none,none,none,none,none] = .nx [some (.val (.scr ns)),some (.val (.int at_)),some (.val (.lst (X.map tx))),some (.own []),none,none,none,none]:=zU3 (nilO _)
 have s2:sSet 4 (eOp mulSD (eC (.str " ")) (eCall za8 (aCons (eVar 0) (aCons (eVar 1) (aCons (eC (.int 2)) aNil))))) [some (.val (.scr ns)),some (.val (.int at_)),some (.val (.lst (X.map tx))),some (.own []),none,none,none,none] = .nx (lst ns at_ X (List.replicate A.toNat []) none none none):=by
  rw [show lst ns at_ X (List.replicate A.toNat []) none none none = [some (.val (.scr ns)),some (.val (.int at_)),some (.val (.lst (X.map tx))),some (.own []),some (.val (tx (List.replicate A.toNat 32))),none,none,none] by rw [← zY1];show [_,_,_,some (Sl.own ((wds (List.replicate A.toNat [])).map tx)),_,_,_,_] = _;rw [z0];rfl]
  have:=blanks A.toNat (by omega)
  rw [Int.toNat_of_nonneg d1.1] at this
  exact zo4 (op2 rfl (call3 (za3 rfl) (za3 rfl) rfl e1) this)
 have s3:sFor (iRg1 (aCons (eCall za8 (aCons (eVar 0) (aCons (eOp addD (eVar 1) (eC (.int 1))) (aCons (eC (.int 4)) aNil)))) aNil)) (gNm 5) lwB (lst ns at_ X (List.replicate A.toNat []) none none none) = .nx (lst ns at_ X a t5 t6 t7):=by
  have r:=zX7 (fa:=eCall za8 (aCons (eVar 0) (aCons (eOp addD (eVar 1) (eC (.int 1))) (aCons (eC (.int 4)) aNil)))) (τ:=lst ns at_ X (List.replicate A.toNat []) none none none) (n:=B.toNat) (by rw [Int.toNat_of_nonneg d2.1];exact call3 (za3 rfl) (op2 (za3 rfl) rfl zd3) rfl e2) (by omega)
  rw [ze5,r,Fl.of_ok,List.range_eq_range']
  exact lp
 have e4:eTup (aCons (eVar 3) (aCons (eVar 4) aNil)) (frzT (lst ns at_ X a t5 t6 t7)) = .ok (.tup [.lst ((wds a).map tx),tx (preL a)]):=tup2 (za3 rfl) (za3 rfl)
 unfold zo0
 rw [lw_b,zg6,st,zj8 s1,zj8 s2,zj8 s3]
 show flRes (sRet _ (frzT _)) = _
 rw [zH7 e4];rfl
end
theorem pre_ok {a:List (List Nat)} (h:WInv 3 a):TxOk (preL a) (wds a):=by
 have hl:=h.len
 have t:=txW (a ++ [[]]) (by simp) (by rw [List.length_append,List.length_singleton];omega) fun l hl=>by
  rcases List.mem_append.mp hl with hl | hl
  ·exact (h.each l hl).1
  ·rw [List.mem_singleton.mp hl];exact WOk.nil
 rw [zZ9,List.append_nil] at t
 have e:wds (a ++ [[]]) = wds a:=by unfold wds;rw [List.filter_append];simp
 rw [e] at t
 exact t
noncomputable def toE:FE:=fun τ=>((eComp 1 [6] (iAny (eVar 2)) (gNm 0) (fun _=>.ok true) (eCall zp3 (aCons (eVar 0) (aCons (eVar 1) aNil)))) τ).bind fun ds=>.ok (.lst ds)
noncomputable def flE:FS:=sRet (eC (.bl false))
noncomputable def g1T:FT:=(tOrD (tNotD (tTru (eBlt isiD (aCons (eVar 9) (aCons (eC (.raw (.ty "bool"))) aNil))))) (FD.tB (eOp neD (eVar 9) (eVar 8))))
noncomputable def suE:FE:=(eBlt sumD (aCons (fun τ=>((eComp 1 [] (iAny (eVar 7)) (gNm 0) (fun _=>.ok true) (eOp ixD (eVar 0) (eC (.int 0)))) τ).bind fun ds=>.ok (.lst ds)) aNil))
noncomputable def plB:FS:=(sSet 11 (eOp addD (eVar 11) (eOp ixD (eVar 12) (eC (.int 1)))))
noncomputable def srE:FE:=(fun τ=>(((aCons (eVar 11) aNil) τ).bind setI).bind fun ds=>.ok (.lst ds))
noncomputable def fiS:FS:=(sSeq (sSet 10 suE) (sSeq (sSet 11 (eLst aNil)) (sSeq (sFor (iAny (eVar 7)) (gNm 12) plB) (sSeq (sSet 11 srE) (sApp 4 (eTup (aCons (eVar 10) (aCons (eVar 5) aNil))))))))
noncomputable def g2T:FT:=(tOrD (FD.tB (eOp neD (eCall zf8 (aCons (eVar 3) (aCons (eVar 6) aNil))) (eVar 10))) (FD.tB (eOp neD (eCall zj0 (aCons (eVar 3) (aCons (eVar 6) aNil))) (eVar 11))))
noncomputable def bdE:FS:=(sSeq (sSet 7 toE) (sSeq (sSet 8 (eOp zI0 (eC .non) (eVar 7))) (sSeq (sSet 9 (eCall zj7 (aCons (eVar 3) (aCons (eVar 6) aNil)))) (sSeq (sIf g1T flE sNext) (sSeq (sSet 10 (eC .non)) (sSeq (sSet 11 (eC .non)) (sSeq (sIf (tTru (eVar 8)) fiS sNext) (sIf g2T flE sNext))))))))
noncomputable def lsE:FE:=(eAnd (eOp eqD (eCall zh4 (aCons (eVar 1) (aCons (eVar 3) (aCons (eC (.int 99)) aNil)))) (eVar 4)) (eOp eqD (eCall zh4 (aCons (eVar 1) (aCons (eVar 3) (aCons (eVar 13) aNil)))) (eSl (eVar 4) oNone (oSome (eVar 13)))))
noncomputable def nmE:FE:=(eCall zo1 (aCons (eVar 0) (aCons (eC (.int 0)) (aCons (eC (.int 4)) aNil))))
noncomputable def lwE:FE:=(eCall zo0 (aCons (eVar 0) (aCons (eC (.int 80)) (aCons (eVar 1) aNil))))
noncomputable def enS:FS:=(sSeq (sSet 4 (eCall zk8 (aCons (eVar 1) (aCons (eVar 4) aNil)))) (sSeq (sSet 13 (eCall za8 (aCons (eVar 0) (aCons (eC (.int 78)) (aCons (eC (.int 6)) aNil))))) (sRet lsE)))
theorem law_b:b_law = (sSeq (sSet 1 nmE) (sSeq (sTup (gPr 2 3) lwE) (sSeq (sSetO 4 (fun τ=>(aNil τ).bind fun ds=>if ds.length≤sizeLine then .ok ds else .no)) (sSeq (sFor (iEn (aCons (eVar 1) aNil)) (gPr 5 6) bdE) (fun τ=>enS (frzT τ)))))):=by unfold b_law nmE lwE bdE toE g1T fiS suE plB srE g2T flE enS lsE;rfl
section
variable {ns:List Int} {X:List (List Nat)} {a:List (List Nat)} {x:List Nat}
noncomputable abbrev sx6 (ns:List Int) (X a:List (List Nat)) (rs:List Rw) (s5 s6 s7 s8 s9 s10 s11 s12 s13:Option Sl):DS:=[some (.val (.scr ns)),some (.val (.lst (X.map tx))),some (.val (.lst ((wds a).map tx))),some (.val (tx (preL a))),some (.own (rs.map rowD)),s5,s6,s7,s8,s9,s10,s11,s12,s13]
theorem optD_ne (o:Option Tl):eqvD (optD o) .non = o.isNone:=by
 cases o with
 | none=>rfl
 | some t=>obtain ⟨v,l⟩:=t;rfl
theorem gd_opt (o:Option Tl):gd 2 (optD o):=by
 cases o with
 | none=>trivial
 | some t=>
  intro e he
  rcases List.mem_cons.mp he with rfl | he
  ·trivial
  ·rw [List.mem_singleton.mp he]
   intro d hd
   obtain ⟨r,_,rfl⟩:=List.mem_map.mp hd
   trivial
theorem yi9 (os:List (Option Tl)):zI0 .non (.lst (os.map optD)) = .ok (.bl (os.all (·.isSome))):=by
 have h1:okD .non = true:=by decide
 have h2:=(ya7 (n:=3) (d:=.lst (os.map optD)) (fun d hd=>by obtain ⟨o,_,rfl⟩:=List.mem_map.mp hd;exact gd_opt o) (by decide)).1
 unfold zI0 inD
 simp only [h1,h2,and_self,if_true,Rs.bind_ok]
 unfold negD
 have:((os.map optD).any fun y=>eqvD y .non) = !(os.all (·.isSome)):=by
  rw [List.any_map]
  induction os with
  | nil=>rfl
  | cons o os ih=>
   have ih:=ih (ya7 (n:=3) (d:=.lst (os.map optD)) (fun d hd=>by obtain ⟨o,_,rfl⟩:=List.mem_map.mp hd;exact gd_opt o) (by decide)).1
   rw [List.any_cons,List.all_cons,ih]
   show (eqvD (optD o) .non || _) = _
   rw [optD_ne]
   cases o <;> simp
 rw [this]
 show Rs.ok (D.bl (!!_)) = _
 rw [Bool.not_not]
theorem yn8 (w x:List Nat):(bestA w x).isSome = subs w x:=by
 cases z:subs w x with
 | false=>rw [zJ4 z];rfl
 | true=>obtain ⟨v,l,e,_⟩:=zW4 z;rw [e];rfl
theorem all_some (ws:List (List Nat)) (x:List Nat):(ws.map fun w=>bestA w x).all (·.isSome) = allF ws x:=by
 unfold allF
 rw [List.all_map];congr 1;funext w;exact yn8 w x
theorem ye0 (h:WInv 3 a):∀ w∈wds a,w.length≤3:=fun w hw=>(h.each w (List.mem_filter.mp hw).1).2
theorem to_ok (h:WInv 3 a) (hx:x.length≤10) (rs:List Rw) (s5 s7 s8 s9 s10 s11 s12 s13:Option Sl):toE (sx6 ns X a rs s5 (some (.val (tx x))) s7 s8 s9 s10 s11 s12 s13) = .ok (.lst (((wds a).map fun w=>bestA w x).map optD)):=by
 unfold toE
 refine frE (zq2 (zC4 (za3 rfl)) (zq3 tx optD (fun w=>bestA w x) (wds a) fun w hw=>⟨_,rfl,?_⟩) ?_)
 ·exact call2 (za3 rfl) (za3 rfl) (lbest_ok w x (by have:=ye0 h w hw;omega) hx)
 ·have:=h.few;simp only [List.length_map];omega
theorem map_get {ws:List (List Nat)} (z:allF ws x = true):(ws.map fun w=>bestA w x).map optD = (bwl ws x).map tlD:=by
 unfold bwl
 rw [List.map_map,List.map_map]
 exact List.map_congr_left fun w hw=>yh8 (List.all_eq_true.mp z w hw)
theorem plw_len (h:WInv 3 a):(plw (wds a) x).length≤9:=by
 have aux:∀ ws:List (List Nat),(∀ w∈ws,w.length≤3)→(plw ws x).length≤3 * ws.length:=fun ws=>by
  induction ws with
  | nil=>intro _;exact Nat.le_refl _
  | cons w ws ih=>
   intro hw
   have h1:=hw w (by simp)
   have h2:=ih fun u hu=>hw u (by simp [hu])
   have h3:((bestA w x).getD (0,[])).2.length≤3:=by
    cases y:subs w x with
    | false=>rw [zJ4 y];simp
    | true=>obtain ⟨b,l,e,hb⟩:=zW4 y;rw [e];have:=hb.lay.len;simp;omega
   unfold plw bwl at h2 ⊢
   rw [List.map_cons,List.flatMap_cons,List.length_append,List.length_map,List.length_cons]
   omega
 have:=aux (wds a) (ye0 h);have:=h.few;omega
theorem cat_its (a b:List Int) (h:a.length + b.length≤1000):addD (its a) (its b) = .ok (its (a ++ b)):=by
 show (if _ then Rs.ok (D.lst _) else Rs.no) = _
 rw [if_pos (by rw [sizeLine_v,List.length_map,List.length_map];omega),← List.map_append]
theorem pl_lp (pre:DS) (hp:pre.length = 11) (s13:Option Sl):∀ (ts:List Tl) (acc:List Int) (s12:Option Sl),acc.length + (ts.flatMap fun t=>toI t.2).length≤1000 →
  ∃ t12,loopD (gNm 12) plB (ts.map tlD) (pre ++ [some (.val (its acc)),s12,s13]) = .nx (pre ++ [some (.val (its (acc ++ ts.flatMap fun t=>toI t.2))),t12,s13])
 | [],acc,s12,_=>⟨s12,by simp [loopD]⟩
 | t :: ts,acc,s12,h=>by
  rw [List.flatMap_cons,List.length_append] at h
  obtain ⟨t12,ih⟩:=pl_lp pre hp s13 ts (acc ++ toI t.2) (some (.val (tlD t))) (by rw [List.length_append];omega)
  refine ⟨t12,?_⟩
  rw [List.map_cons,loopD]
  have g:gNm 12 (tlD t) (pre ++ [some (.val (its acc)),s12,s13]) = .ok (pre ++ [some (.val (its acc)),some (.val (tlD t)),s13]):=by
   rw [zg8,List.set_append_right _ _ (by omega),hp];rfl
  have g1:(pre ++ [some (.val (its acc)),some (.val (tlD t)),s13])[11]? = some (some (.val (its acc))):=by rw [List.getElem?_append_right (by omega),hp];rfl
  have g2:(pre ++ [some (.val (its acc)),some (.val (tlD t)),s13])[12]? = some (some (.val (tlD t))):=by rw [List.getElem?_append_right (by omega),hp];rfl
  have e:plB (pre ++ [some (.val (its acc)),some (.val (tlD t)),s13]) = .nx (pre ++ [some (.val (its (acc ++ toI t.2))),some (.val (tlD t)),s13]):=by
   unfold plB
   rw [zo4 (op2 (za3 g1) (op2 (za3 g2) rfl (tl_1 t)) (show addD (its acc) (nts t.2) = .ok (its (acc ++ toI t.2)) by rw [yi8];exact cat_its _ _ (by simp only [List.length_map] at h ⊢;omega)))]
   rw [List.set_append_right _ _ (by omega),hp];rfl
  rw [g,Fl.of_ok,e]
  show loopD _ _ _ _ = _
  rw [ih,List.flatMap_cons,List.append_assoc]
noncomputable def cnD (ws:List (List Nat)) (x:List Nat):D:=oiD (wpt ws x)
noncomputable def pcD (ws:List (List Nat)) (x:List Nat):D:=if allF ws x = true then its (STW.setZ (plw ws x)) else .non
theorem ne_oi (o:Option Int):neD (oiD o) (oiD o) = .ok (.bl false):=by
 cases o with
 | none=>rfl
 | some i=>show neD (.int i) (.int i) = _;rw [neD_i];simp
theorem ne_pc (ws:List (List Nat)) (x:List Nat):neD (pcD ws x) (pcD ws x) = .ok (.bl false):=by
 unfold pcD
 split
 ·exact ne_lstg (gd_ints _) (by decide)
 ·rfl
noncomputable def adR (ws:List (List Nat)) (x:List Nat) (i:Nat):List Rw:=(orow (wpt ws x,i)).toList
theorem bd_ok (h:WInv 3 a) (hx:x.length≤10) (rs:List Rw) (hr:rs.length≤100) (i:Nat) (s7 s8 s9 s10 s11 s12 s13:Option Sl) :
  ∃ t7 t8 t9 t10 t11 t12,bdE (sx6 ns X a rs (some (.val (.int (i:Int)))) (some (.val (tx x))) s7 s8 s9 s10 s11 s12 s13) = .nx (sx6 ns X a (rs ++ adR (wds a) x i) (some (.val (.int (i:Int)))) (some (.val (tx x))) t7 t8 t9 t10 t11 t12 s13):=by
 have tk:=pre_ok h
 have hx':x.length≤1000:=by omega
 have fw:=ym4 tk hx'
 have fp:=yf9 tk hx'
 have hpl:=plw_len (x:=x) h
 have fl:=plcw_ok tk hx' (by omega)
 generalize hW:wds a = ws at *
 have hto:=fun rs s5 s7 s8 s9 s10 s11 s12 s13=>to_ok (ns:=ns) (X:=X) h hx rs s5 s7 s8 s9 s10 s11 s12 s13
 rw [hW] at hto
 let S:=fun (rs:List Rw) (s7 s8 s9 s10 s11 s12:Option Sl)=>([some (.val (.scr ns)),some (.val (.lst (X.map tx))),some (.val (.lst (ws.map tx))),some (.val (tx (preL a))),some (.own (rs.map rowD)),some (.val (.int (i:Int))),some (.val (tx x)),s7,s8,s9,s10,s11,s12,s13]:DS)
 have eS:∀ rs s7 s8 s9 s10 s11 s12,sx6 ns X a rs (some (.val (.int (i:Int)))) (some (.val (tx x))) s7 s8 s9 s10 s11 s12 s13 = S rs s7 s8 s9 s10 s11 s12:=fun _ _ _ _ _ _ _=>by show [_,_,some (Sl.val (.lst ((wds a).map tx))),_,_,_,_,_,_,_,_,_,_,_] = _;rw [hW]
 simp only [eS]
 have s1:sSet 7 toE (S rs s7 s8 s9 s10 s11 s12) = .nx (S rs (some (.val (.lst ((ws.map fun w=>bestA w x).map optD)))) s8 s9 s10 s11 s12):=by
  rw [← eS rs s7 s8 s9 s10 s11 s12]
  rw [zo4 (hto rs _ s7 s8 s9 s10 s11 s12 s13)]
  exact congrArg Fl.nx (eS rs (some (.val (.lst ((ws.map fun w=>bestA w x).map optD)))) s8 s9 s10 s11 s12)
 have s2:sSet 8 (eOp zI0 (eC .non) (eVar 7)) (S rs (some (.val (.lst ((ws.map fun w=>bestA w x).map optD)))) s8 s9 s10 s11 s12) = .nx (S rs (some (.val (.lst ((ws.map fun w=>bestA w x).map optD)))) (some (.val (.bl (allF ws x)))) s9 s10 s11 s12):=
  zo4 (op2 rfl (za3 rfl) (by rw [yi9,all_some]))
 have s3:sSet 9 (eCall zj7 (aCons (eVar 3) (aCons (eVar 6) aNil))) (S rs (some (.val (.lst ((ws.map fun w=>bestA w x).map optD)))) (some (.val (.bl (allF ws x)))) s9 s10 s11 s12) = .nx (S rs (some (.val (.lst ((ws.map fun w=>bestA w x).map optD)))) (some (.val (.bl (allF ws x)))) (some (.val (.bl (allF ws x)))) s10 s11 s12):=
  zo4 (call2 (za3 rfl) (za3 rfl) fw)
 have s4:g1T (S rs (some (.val (.lst ((ws.map fun w=>bestA w x).map optD)))) (some (.val (.bl (allF ws x)))) (some (.val (.bl (allF ws x)))) s10 s11 s12) = .ok false:=by
  unfold g1T
  refine or_tr (tn_ok (b:=true) ?_) (tB_ok (op2 (za3 rfl) (za3 rfl) (by rw [ne_bl];simp)))
  rw [ze3,blt2 (za3 rfl) rfl (d:=.bl true) rfl];rfl
 have s5:sSet 10 (eC .non) (S rs (some (.val (.lst ((ws.map fun w=>bestA w x).map optD)))) (some (.val (.bl (allF ws x)))) (some (.val (.bl (allF ws x)))) s10 s11 s12) = .nx (S rs (some (.val (.lst ((ws.map fun w=>bestA w x).map optD)))) (some (.val (.bl (allF ws x)))) (some (.val (.bl (allF ws x)))) (some (.val .non)) s11 s12):=zo4 rfl
 have s6:sSet 11 (eC .non) (S rs (some (.val (.lst ((ws.map fun w=>bestA w x).map optD)))) (some (.val (.bl (allF ws x)))) (some (.val (.bl (allF ws x)))) (some (.val .non)) s11 s12) = .nx (S rs (some (.val (.lst ((ws.map fun w=>bestA w x).map optD)))) (some (.val (.bl (allF ws x)))) (some (.val (.bl (allF ws x)))) (some (.val .non)) (some (.val .non)) s12):=zo4 rfl
 obtain ⟨t12,s7'⟩:∃ t12,(sIf (tTru (eVar 8)) fiS sNext) (S rs (some (.val (.lst ((ws.map fun w=>bestA w x).map optD)))) (some (.val (.bl (allF ws x)))) (some (.val (.bl (allF ws x)))) (some (.val .non)) (some (.val .non)) s12) = .nx (S (rs ++ adR ws x i) (some (.val (.lst ((ws.map fun w=>bestA w x).map optD)))) (some (.val (.bl (allF ws x)))) (some (.val (.bl (allF ws x)))) (some (.val (cnD ws x))) (some (.val (pcD ws x))) t12):=by
  unfold cnD pcD adR
  have ht:tTru (eVar 8) (S rs (some (.val (.lst ((ws.map fun w=>bestA w x).map optD)))) (some (.val (.bl (allF ws x)))) (some (.val (.bl (allF ws x)))) (some (.val .non)) (some (.val .non)) s12) = .ok (allF ws x):=by
   rw [ze3,za3 (d:=.bl (allF ws x)) rfl];rfl
  cases z:allF ws x with
  | false=>
   rw [z] at ht
   have e0:wpt ws x = none:=by unfold wpt;rw [z];rfl
   refine ⟨s12,?_⟩
   rw [if_n ht,e0]
   show _ = Fl.nx (S (rs ++ []) _ _ _ _ _ _)
   rw [List.append_nil];rfl
  | true=>
   rw [z] at ht
   have e0:wpt ws x = some (ptw ws x):=by unfold wpt;rw [z];rfl
   have mg:=map_get z
   rw [mg] at ht ⊢
   have f1:sSet 10 suE (S rs (some (.val (.lst ((bwl ws x).map tlD)))) (some (.val (.bl true))) (some (.val (.bl true))) (some (.val .non)) (some (.val .non)) s12) = .nx (S rs (some (.val (.lst ((bwl ws x).map tlD)))) (some (.val (.bl true))) (some (.val (.bl true))) (some (.val (.int (ptw ws x)))) (some (.val .non)) s12):=by
    refine zo4 ?_
    unfold suE
    refine blt1 (frE (zq2 (zC4 (za3 rfl)) (zq3 tlD D.int (fun t=>t.1) (bwl ws x) fun t ht=>⟨_,rfl,op2 (za3 rfl) rfl (tl_0 t)⟩) ?_)) ?_
    ·have:=tk.few;simp only [bwl,List.length_map];omega
    ·show (match intsL (((bwl ws x).map fun t=>t.1).map D.int) with | some ns=>Rs.ok (D.int ns.sum) | none=>.no) = _
     rw [zw5];rfl
   have f2:sSet 11 (eLst aNil) (S rs (some (.val (.lst ((bwl ws x).map tlD)))) (some (.val (.bl true))) (some (.val (.bl true))) (some (.val (.int (ptw ws x)))) (some (.val .non)) s12) = .nx (S rs (some (.val (.lst ((bwl ws x).map tlD)))) (some (.val (.bl true))) (some (.val (.bl true))) (some (.val (.int (ptw ws x)))) (some (.val (its []))) s12):=zo4 nilE
   obtain ⟨t12,lp⟩:=pl_lp [some (.val (.scr ns)),some (.val (.lst (X.map tx))),some (.val (.lst (ws.map tx))),some (.val (tx (preL a))),some (.own (rs.map rowD)),some (.val (.int (i:Int))),some (.val (tx x)),some (.val (.lst ((bwl ws x).map tlD))),some (.val (.bl true)),some (.val (.bl true)),some (.val (.int (ptw ws x)))] rfl s13 (bwl ws x) [] s12 (by unfold plw at hpl;rw [List.length_nil];omega)
   have f3:sFor (iAny (eVar 7)) (gNm 12) plB (S rs (some (.val (.lst ((bwl ws x).map tlD)))) (some (.val (.bl true))) (some (.val (.bl true))) (some (.val (.int (ptw ws x)))) (some (.val (its []))) s12) = .nx (S rs (some (.val (.lst ((bwl ws x).map tlD)))) (some (.val (.bl true))) (some (.val (.bl true))) (some (.val (.int (ptw ws x)))) (some (.val (its (plw ws x)))) t12):=by
    rw [ze5,zC4 (za3 rfl),Fl.of_ok];exact lp
   have f4:sSet 11 srE (S rs (some (.val (.lst ((bwl ws x).map tlD)))) (some (.val (.bl true))) (some (.val (.bl true))) (some (.val (.int (ptw ws x)))) (some (.val (its (plw ws x)))) t12) = .nx (S rs (some (.val (.lst ((bwl ws x).map tlD)))) (some (.val (.bl true))) (some (.val (.bl true))) (some (.val (.int (ptw ws x)))) (some (.val (its (STW.setZ (plw ws x))))) t12):=by
    refine zo4 ?_
    unfold srE
    rw [arg1 (za3 (d:=its (plw ws x)) rfl),Rs.bind_ok]
    have:setI [its (plw ws x)] = .ok ((STW.setZ (plw ws x)).map D.int):=by
     show (match intsL ((plw ws x).map D.int) with | some ns=>if ns.length < 64 then Rs.ok ((STW.setZ ns).map D.int) else .no | none=>.no) = _
     rw [zw5];exact if_pos (by omega)
    rw [this];rfl
   have f5:sApp 4 (eTup (aCons (eVar 10) (aCons (eVar 5) aNil))) (S rs (some (.val (.lst ((bwl ws x).map tlD)))) (some (.val (.bl true))) (some (.val (.bl true))) (some (.val (.int (ptw ws x)))) (some (.val (its (STW.setZ (plw ws x))))) t12) = .nx (S (rs ++ [(ptw ws x,i)]) (some (.val (.lst ((bwl ws x).map tlD)))) (some (.val (.bl true))) (some (.val (.bl true))) (some (.val (.int (ptw ws x)))) (some (.val (its (STW.setZ (plw ws x))))) t12):=by
    have et:eTup (aCons (eVar 10) (aCons (eVar 5) aNil)) (S rs (some (.val (.lst ((bwl ws x).map tlD)))) (some (.val (.bl true))) (some (.val (.bl true))) (some (.val (.int (ptw ws x)))) (some (.val (its (STW.setZ (plw ws x))))) t12) = .ok (rowD (ptw ws x,i)):=tup2 (za3 rfl) (za3 rfl)
    rw [ze8]
    show Fl.of (Rs.ok (rs.map rowD)) _ = _
    rw [Fl.of_ok,et,Fl.of_ok,if_pos (by rw [sizeLine_v,List.length_map];omega)]
    have em:(rs ++ [(ptw ws x,i)]).map rowD = rs.map rowD ++ [rowD (ptw ws x,i)]:=by simp
    simp only [S,em];rfl
   refine ⟨t12,?_⟩
   rw [if_t ht]
   unfold fiS
   rw [zj8 f1,zj8 f2,zj8 f3,zj8 f4,f5,e0];rfl
 have s8':g2T (S (rs ++ adR ws x i) (some (.val (.lst ((ws.map fun w=>bestA w x).map optD)))) (some (.val (.bl (allF ws x)))) (some (.val (.bl (allF ws x)))) (some (.val (cnD ws x))) (some (.val (pcD ws x))) t12) = .ok false:=by
  unfold g2T
  exact or_tr (tB_ok (op2 (call2 (za3 rfl) (za3 rfl) fp) (za3 rfl) (ne_oi _))) (tB_ok (op2 (call2 (za3 rfl) (za3 rfl) fl) (za3 rfl) (ne_pc ws x)))
 refine ⟨some (.val (.lst ((ws.map fun w=>bestA w x).map optD))),some (.val (.bl (allF ws x))),some (.val (.bl (allF ws x))),some (.val (cnD ws x)),some (.val (pcD ws x)),t12,?_⟩
 unfold bdE
 rw [zj8 s1,zj8 s2,zj8 s3,zj8 (if_n s4),zj8 s5,zj8 s6,zj8 s7',if_n s8']
noncomputable def wRk (X ws:List (List Nat)) (k:Nat):List Rw:=(X.zipIdx k).filterMap fun p=>orow (wpt ws p.1,p.2)
theorem yo1 (h:WInv 3 a) (s13:Option Sl):∀ (Y:List (List Nat)) (k:Nat) (rs:List Rw) (s5 s6 s7 s8 s9 s10 s11 s12:Option Sl),(∀ x∈Y,x.length≤10)→rs.length + Y.length≤100 →
  ∃ t5 t6 t7 t8 t9 t10 t11 t12,loopD (gPr 5 6) bdE (zk6 k (Y.map tx)) (sx6 ns X a rs s5 s6 s7 s8 s9 s10 s11 s12 s13) = .nx (sx6 ns X a (rs ++ wRk Y (wds a) k) t5 t6 t7 t8 t9 t10 t11 t12 s13)
 | [],k,rs,s5,s6,s7,s8,s9,s10,s11,s12,_,_=>⟨s5,s6,s7,s8,s9,s10,s11,s12,by
   show Fl.nx _ = _
   rw [show wRk [] (wds a) k = [] from rfl,List.append_nil]⟩
 | y :: Y,k,rs,s5,s6,s7,s8,s9,s10,s11,s12,hY,hr=>by
  rw [List.length_cons] at hr
  obtain ⟨u7,u8,u9,u10,u11,u12,e1⟩:=bd_ok (ns:=ns) (X:=X) (x:=y) h (hY y (by simp)) rs (by omega) k s7 s8 s9 s10 s11 s12 s13
  have ha:(adR (wds a) y k).length≤1:=by unfold adR orow;cases wpt (wds a) y <;> simp
  obtain ⟨t5,t6,t7,t8,t9,t10,t11,t12,e2⟩:=yo1 h s13 Y (k + 1) (rs ++ adR (wds a) y k) (some (.val (.int (k:Int)))) (some (.val (tx y))) u7 u8 u9 u10 u11 u12 (fun x hx=>hY x (by simp [hx])) (by rw [List.length_append];omega)
  refine ⟨t5,t6,t7,t8,t9,t10,t11,t12,?_⟩
  rw [List.map_cons,zk6,loopD]
  show Fl.of (Rs.ok (sx6 ns X a rs (some (.val (.int (k:Int)))) (some (.val (tx y))) s7 s8 s9 s10 s11 s12 s13)) _ = _
  rw [Fl.of_ok,e1]
  refine e2.trans ?_
  have:rs ++ adR (wds a) y k ++ wRk Y (wds a) (k + 1) = rs ++ wRk (y :: Y) (wds a) k:=by
   rw [List.append_assoc]
   congr 1
   unfold wRk adR
   rw [List.zipIdx_cons]
   cases z:orow (wpt (wds a) y,k) with
   | none=>rw [List.filterMap_cons_none (by simp only [z])];rfl
   | some r=>rw [List.filterMap_cons_some (b:=r) (by simp only [z])];rfl
  rw [this]
end
theorem main:∀ ns:List Int,ns.length≤63→m_law [.scr ns] = .ok (.bl true):=fun ns h63=>by
 have st:zg9 14 [D.scr ns] = [some (.val (.scr ns)),none,none,none,none,none,none,none,none,none,none,none,none,none]:=rfl
 obtain ⟨X,x1,x2,x3⟩:=names_ok ns 0 4 h63 (by decide) (by decide) (by decide) (by decide)
 have hX:∀ x∈X,x.length≤1000:=fun x hx=>by have:=(x3 x hx).2.1;omega
 have hl:X.length < 64:=by omega
 obtain ⟨a,hw,ew⟩:=yj4 (ns:=ns) (X:=X) 80 h63 (by decide) (by decide) x3 (by omega)
 have tk:=pre_ok hw
 have dl:=zq9 ns 78 (m:=6) (by decide)
 have dk:=zq8 ns 78 6 h63 (by decide) (by decide) (by decide)
 generalize drawZ ns 78 6 = M at dl dk
 obtain ⟨t5,t6,t7,t8,t9,t10,t11,t12,lp⟩:=yo1 (ns:=ns) (X:=X) hw none X 0 [] none none none none none none none none (fun x hx=>(x3 x hx).2.1) (by simp;omega)
 have hz:(srtBy (keyO X) (wR X (wds a))).length≤X.length:=by
  rw [(zH4 _ _).length_eq]
  unfold wR
  exact Nat.le_trans (List.length_filterMap_le _ _) (by simp)
 have s1:sSet 1 nmE [some (.val (.scr ns)),none,none,none,none,none,none,none,none,none,none,none,none,none] = .nx [some (.val (.scr ns)),some (.val (.lst (X.map tx))),none,none,none,none,none,none,none,none,none,none,none,none]:=zo4 (by unfold nmE;exact call3 (za3 rfl) rfl rfl x1)
 have s2:sTup (gPr 2 3) lwE [some (.val (.scr ns)),some (.val (.lst (X.map tx))),none,none,none,none,none,none,none,none,none,none,none,none] = .nx [some (.val (.scr ns)),some (.val (.lst (X.map tx))),some (.val (.lst ((wds a).map tx))),some (.val (tx (preL a))),none,none,none,none,none,none,none,none,none,none]:=by
  have:lwE [some (.val (.scr ns)),some (.val (.lst (X.map tx))),none,none,none,none,none,none,none,none,none,none,none,none] = .ok (.tup [.lst ((wds a).map tx),tx (preL a)]):=by unfold lwE;exact call3 (za3 rfl) rfl (za3 rfl) ew
  unfold sTup
  rw [this];rfl
 have s3:sSetO 4 (fun τ=>(aNil τ).bind fun ds=>if ds.length≤sizeLine then .ok ds else .no) [some (.val (.scr ns)),some (.val (.lst (X.map tx))),some (.val (.lst ((wds a).map tx))),some (.val (tx (preL a))),none,none,none,none,none,none,none,none,none,none] = .nx (sx6 ns X a [] none none none none none none none none none):=zU3 (nilO _)
 have s4:sFor (iEn (aCons (eVar 1) aNil)) (gPr 5 6) bdE (sx6 ns X a [] none none none none none none none none none) = .nx (sx6 ns X a (wR X (wds a)) t5 t6 t7 t8 t9 t10 t11 t12 none):=by
  have e:iEn (aCons (eVar 1) aNil) (sx6 ns X a [] none none none none none none none none none) = .ok (zk6 0 (X.map tx)):=by
   unfold iEn
   rw [arg1 (za3 (d:=.lst (X.map tx)) rfl),Rs.bind_ok];rfl
  rw [ze5,e,Fl.of_ok]
  exact lp
 have e5:frzT (sx6 ns X a (wR X (wds a)) t5 t6 t7 t8 t9 t10 t11 t12 none) = [some (.val (.scr ns)),some (.val (.lst (X.map tx))),some (.val (.lst ((wds a).map tx))),some (.val (tx (preL a))),some (.val (.lst ((wR X (wds a)).map rowD)))] ++ [t5,t6,t7,t8,t9,t10,t11,t12,none].map frzS:=rfl
 generalize hq:[t5,t6,t7,t8,t9,t10,t11,t12,none].map frzS = tl at e5
 have hq8:tl.length = 9:=by rw [← hq];rfl
 obtain ⟨r5,r6,r7,r8,r9,r10,r11,r12,r13,hr⟩:∃ r5 r6 r7 r8 r9 r10 r11 r12 r13,tl = [r5,r6,r7,r8,r9,r10,r11,r12,r13]:=⟨_,_,_,_,_,_,_,_,_,hq.symm⟩
 subst hr
 have s5:sSet 4 (eCall zk8 (aCons (eVar 1) (aCons (eVar 4) aNil))) [some (.val (.scr ns)),some (.val (.lst (X.map tx))),some (.val (.lst ((wds a).map tx))),some (.val (tx (preL a))),some (.val (.lst ((wR X (wds a)).map rowD))),r5,r6,r7,r8,r9,r10,r11,r12,r13] = .nx [some (.val (.scr ns)),some (.val (.lst (X.map tx))),some (.val (.lst ((wds a).map tx))),some (.val (tx (preL a))),some (.val (.lst ((srtBy (keyO X) (wR X (wds a))).map rowD))),r5,r6,r7,r8,r9,r10,r11,r12,r13]:=zo4 (call2 (za3 rfl) (za3 rfl) (yd3 X _ (wR_ok X (wds a) hX hl)))
 have s6:sSet 13 (eCall za8 (aCons (eVar 0) (aCons (eC (.int 78)) (aCons (eC (.int 6)) aNil)))) [some (.val (.scr ns)),some (.val (.lst (X.map tx))),some (.val (.lst ((wds a).map tx))),some (.val (tx (preL a))),some (.val (.lst ((srtBy (keyO X) (wR X (wds a))).map rowD))),r5,r6,r7,r8,r9,r10,r11,r12,r13] = .nx [some (.val (.scr ns)),some (.val (.lst (X.map tx))),some (.val (.lst ((wds a).map tx))),some (.val (tx (preL a))),some (.val (.lst ((srtBy (keyO X) (wR X (wds a))).map rowD))),r5,r6,r7,r8,r9,r10,r11,r12,some (.val (.int M))]:=zo4 (call3 (za3 rfl) rfl rfl dk)
 have s7:lsE [some (.val (.scr ns)),some (.val (.lst (X.map tx))),some (.val (.lst ((wds a).map tx))),some (.val (tx (preL a))),some (.val (.lst ((srtBy (keyO X) (wR X (wds a))).map rowD))),r5,r6,r7,r8,r9,r10,r11,r12,some (.val (.int M))] = .ok (.bl true):=by
  unfold lsE
  have f1:=zT0 tk X 99 hX hl
  rw [List.take_of_length_le (by omega)] at f1
  have f2:=zT0 tk X M.toNat hX hl
  rw [Int.toNat_of_nonneg dl.1] at f2
  have tkk:=ye8 ((srtBy (keyO X) (wR X (wds a))).map rowD) M.toNat
  rw [← List.map_take,Int.toNat_of_nonneg dl.1] at tkk
  exact yo6 (op2 (call3 (za3 rfl) (za3 rfl) rfl f1) (za3 rfl) (ym5 (yl9 _) (by decide))) (op2 (call3 (za3 rfl) (za3 rfl) (za3 rfl) f2) (sl_ok (za3 rfl) rfl (os_ok (za3 rfl)) tkk) (ym5 (yl9 _) (by decide)))
 unfold m_law
 rw [law_b,zg6,st,zj8 s1,zj8 s2,zj8 s3,zj8 s4]
 show flRes (enS (frzT _)) = _
 rw [e5]
 show flRes (enS [some (.val (.scr ns)),some (.val (.lst (X.map tx))),some (.val (.lst ((wds a).map tx))),some (.val (tx (preL a))),some (.val (.lst ((wR X (wds a)).map rowD))),r5,r6,r7,r8,r9,r10,r11,r12,r13]) = _
 unfold enS
 rw [zj8 s5,zj8 s6,zH7 s7];rfl
set_option maxHeartbeats 4000000
noncomputable def top (i:Nat):Stmt:=PySem.Challenge.pw_fewfind_k60_words.main.body.getD i (.Pass ⟨0,0,0,0⟩)
section
variable {P:Program} {w:World} {K:PySem.W.Frag} {mg:Str→Option Value} {base:Heap}
noncomputable abbrev zp0:Stmt:=top 37
theorem zP9:zf1 ["_law_script", "_law_k"] ["_law_script", "_law_k"] (za7 zp0):=⟨rfl,rfl,rfl,by decide +kernel,rfl,by decide +kernel,by decide +kernel⟩
theorem zR1 {f:Addr} {fd:FuncData} (A_:DefAt K mg "_law_cell" zp0 f fd) (z_len:mg "len" = none):DefOk P w K mg base "_law_cell" 1 2 ["_law_script", "_law_k"] zq7:=by
 refine DefOk.mk (k:=0) A_ zP9 rfl (fun _ _ _ _ _ _ us hl=>by obtain ⟨_,_,rfl⟩:=lnz2 hl;rfl) (fun cdv A outer s H E hr=>?_) fun _ _ _ h=>h
 exact (za5 (zm6 (zh2 (zq4 hr.units) (za0 (pv 0)) (zs3 za4) (zj1 _)) (zb0 (ze4 (zb3 zr5 za6 (za0 (pv 1))))) zh9) (zb0 (ze4 (zb3 zc3 (zg7 ix_ok (za0 (pv 0)) (zb3 zA4 (za0 (pv 1)) (zf2 zs7 rfl z_len PySem.boot_len (za1 (za0 (pv 0)) za4)))) (zb3 zr5 za6 (zb3 zC9 (za0 (pv 1)) (zf2 zs7 rfl z_len PySem.boot_len (za1 (za0 (pv 0)) za4))))))))
noncomputable abbrev zn5:Stmt:=top 38
theorem sc__law_drawn:zf1 ["_law_script", "_law_k", "_law_many", "_law_cell_here"] ["_law_script", "_law_k", "_law_many"] (za7 zn5):=⟨rfl,rfl,rfl,by decide +kernel,rfl,by decide +kernel,by decide +kernel⟩
theorem zM4 {f:Addr} {fd:FuncData} (A_:DefAt K mg "_law_drawn" zn5 f fd) (h__law_cell:DefOk P w K mg base "_law_cell" 1 2 ["_law_script", "_law_k"] zq7):DefOk P w K mg base "_law_drawn" 2 3 ["_law_script", "_law_k", "_law_many"] za8:=by
 refine DefOk.mk (k:=1) A_ sc__law_drawn rfl (fun _ _ _ _ _ _ us hl=>by obtain ⟨_,_,_,rfl⟩:=lnz3 hl;rfl) (fun cdv A outer s H E hr=>?_) fun _ _ _ h=>h
 exact (za5 (zc2 (i:=3) sc__law_drawn.nd rfl (Or.inl rfl) (zb3 zA4 (zb3 zc3 (zb3 zr5 (zb3 zA4 (zc0 h__law_cell (hr.mono (by decide)) (za1 (za0 (pv 0)) (za1 (za0 (pv 1)) za4)) (za2 (za2 zb4))) za6) za6) (zb3 zr5 za6 (zb3 zc3 (za0 (pv 1)) za6))) za6)) (za5 (zc2 (i:=3) sc__law_drawn.nd rfl (Or.inl rfl) (zb3 zA4 (zb3 zc3 (zb3 zr5 (za0 (pv 3)) (za0 (pv 3))) (zb3 zC9 (za0 (pv 3)) za6)) za6)) (zb0 (ze4 (zb3 zA4 (zb3 zC9 (zb3 zA4 (zb3 zc3 (zb3 zr5 (za0 (pv 3)) (za0 (pv 3))) (zb3 zC9 (za0 (pv 3)) za6)) za6) za6) (za0 (pv 2)))))))
noncomputable abbrev zo8:Stmt:=top 39
theorem sc__law_name:zf1 ["_law_script", "_law_at", "_law_found_here", "_law_k"] ["_law_script", "_law_at"] (za7 zo8):=⟨rfl,rfl,rfl,by decide +kernel,rfl,by decide +kernel,by decide +kernel⟩
theorem zQ9 {f:Addr} {fd:FuncData} (A_:DefAt K mg "_law_name" zo8 f fd) (h__law_drawn:DefOk P w K mg base "_law_drawn" 2 3 ["_law_script", "_law_k", "_law_many"] za8) (z_range:mg "range" = none):DefOk P w K mg base "_law_name" 3 2 ["_law_script", "_law_at"] zo2:=by
 refine DefOk.mk (k:=2) A_ sc__law_name rfl (fun _ _ _ _ _ _ us hl=>by obtain ⟨_,_,rfl⟩:=lnz2 hl;rfl) (fun cdv A outer s H E hr=>?_) fun _ _ _ h=>h
 exact (za5 (zc2 (i:=2) sc__law_name.nd rfl (Or.inl rfl) zn8) (za5 (zp8 PassesOwn.never rfl (zq6 rfl z_range (za1 (zb3 zc3 za6 (zc0 h__law_drawn (hr.mono (by decide)) (za1 (za0 (pv 0)) (za1 (za0 (pv 1)) (za1 za6 za4))) (za2 (za2 (za2 zb4))))) za4)) (zi4 sc__law_name.nd rfl (Or.inl rfl)) (zb0 (zc2 (i:=2) sc__law_name.nd rfl (Or.inl rfl) (zb3 zc3 (za0 (pv 2)) (zg7 ix_ok zn8 (zc0 h__law_drawn (hr.mono (by decide)) (za1 (za0 (pv 0)) (za1 (zb3 zc3 (zb3 zc3 (za0 (pv 1)) za6) (za0 (pv 3))) (za1 za6 za4))) (za2 (za2 (za2 zb4))))))))) (zb0 (ze4 (za0 (pv 2))))))
noncomputable abbrev zn3:Stmt:=top 41
theorem sc__law_names:zf1 ["_law_script", "_law_at", "_law_most", "_law_found_here"] ["_law_script", "_law_at", "_law_most"] (za7 zn3):=⟨rfl,rfl,rfl,by decide +kernel,rfl,by decide +kernel,by decide +kernel⟩
theorem zM2 {f:Addr} {fd:FuncData} (A_:DefAt K mg "_law_names" zn3 f fd) (h__law_drawn:DefOk P w K mg base "_law_drawn" 2 3 ["_law_script", "_law_k", "_law_many"] za8) (h__law_name:DefOk P w K mg base "_law_name" 3 2 ["_law_script", "_law_at"] zo2) (z_len:mg "len" = none) (z_range:mg "range" = none):DefOk P w K mg base "_law_names" 4 3 ["_law_script", "_law_at", "_law_most"] zo1:=by
 refine DefOk.mk (k:=3) A_ sc__law_names rfl (fun _ _ _ _ _ _ us hl=>by obtain ⟨_,_,_,rfl⟩:=lnz3 hl;rfl) (fun cdv A outer s H E hr=>?_) fun _ _ _ h=>h
 exact (za5 (yh1 (i:=3) sc__law_names.nd rfl rfl rfl (tn:=["_law_k"]) (fr:=["_law_script", "_law_at"]) (idx:=[0,1]) rfl rfl ⟨rfl,rfl,⟨rfl,rfl,trivial⟩⟩ (zp6 0) (zq6 rfl z_range (za1 (zc0 h__law_drawn (hr.mono (by decide)) (za1 (za0 (pv 0)) (za1 (za0 (pv 1)) (za1 (zb3 zc3 (za0 (pv 2)) za6) za4))) (za2 (za2 (za2 zb4)))) za4)) (fun s H C fp=>(zi4 (show List.Nodup (["_law_k", "_law_script", "_law_at"]:List Str) by decide +kernel) rfl (Or.inl rfl))) (fun s H C fp=>zr3) (fun s H C fp=>(zc0 h__law_name (hr.mono (by decide)) (za1 (za0 (pv 1)) (za1 (zb3 zc3 (zb3 zc3 (za0 (pv 2)) za6) (zb3 zr5 za6 (za0 (pv 0)))) za4)) (za2 (za2 zb4))))) (za5 (zm6 (pdt_w (zU8 (zh2 zY8 (zL4 (pv 3) rfl z_len) za6 (zj1 _)) (zL0 (zh2 (zq4 hr.units) (zc0 h__law_drawn (hr.mono (by decide)) (za1 (za0 (pv 0)) (za1 (zb3 zc3 (za0 (pv 1)) za6) (za1 za6 za4))) (za2 (za2 (za2 zb4)))) za6 (zj1 _))))) (zb0 (pds_put (pv 3) za6 (pde_ixO (pv 3) (zv0 za6)))) zh9) (zb0 (zL1 (pv 3)))))
noncomputable abbrev zo9:Stmt:=top 40
theorem zP8:zf1 ["_law_sign"] ["_law_sign"] (za7 zo9):=⟨rfl,rfl,rfl,by decide +kernel,rfl,by decide +kernel,by decide +kernel⟩
theorem zR0 {f:Addr} {fd:FuncData} (A_:DefAt K mg "_law_mark" zo9 f fd):DefOk P w K mg base "_law_mark" 1 1 ["_law_sign"] zo3:=by
 refine DefOk.mk (k:=0) A_ zP8 rfl (fun _ _ _ _ _ _ us hl=>by obtain ⟨_,rfl⟩:=lnz1 hl;rfl) (fun cdv A outer s H E hr=>?_) fun _ _ _ h=>h
 exact (zb0 (ze4 (zq0 (zw9 (zs2 hr)) (za0 (pv 0)) zn8 (by with_unfolding_all rfl))))
noncomputable abbrev zn2:Stmt:=top 42
theorem sc__law_query:zf1 ["_law_script", "_law_at", "_law_name_here", "_law_most", "_law_found_here", "_law_place", "_law_k", "_law_sign"] ["_law_script", "_law_at", "_law_name_here", "_law_most"] (za7 zn2):=⟨rfl,rfl,rfl,by decide +kernel,rfl,by decide +kernel,by decide +kernel⟩
theorem zM1 {f:Addr} {fd:FuncData} (A_:DefAt K mg "_law_query" zn2 f fd) (h__law_drawn:DefOk P w K mg base "_law_drawn" 2 3 ["_law_script", "_law_k", "_law_many"] za8) (h__law_mark:DefOk P w K mg base "_law_mark" 1 1 ["_law_sign"] zo3) (z_range:mg "range" = none) (z_len:mg "len" = none) (z_min:mg "min" = none):DefOk P w K mg base "_law_query" 3 4 ["_law_script", "_law_at", "_law_name_here", "_law_most"] zl7:=by
 refine DefOk.mk (k:=2) A_ sc__law_query rfl (fun _ _ _ _ _ _ us hl=>by obtain ⟨_,_,_,_,rfl⟩:=lnz4 hl;rfl) (fun cdv A outer s H E hr=>?_) fun _ _ _ h=>h
 exact (za5 (zc2 (i:=4) sc__law_query.nd rfl (Or.inl rfl) zn8) (za5 (zc2 (i:=5) sc__law_query.nd rfl (Or.inl rfl) za6) (za5 (zp8 PassesOwn.never rfl (zq6 rfl z_range (za1 (zc0 h__law_drawn (hr.mono (by decide)) (za1 (za0 (pv 0)) (za1 (za0 (pv 1)) (za1 (zb3 zc3 (za0 (pv 3)) za6) za4))) (za2 (za2 (za2 zb4)))) za4)) (zi4 sc__law_query.nd rfl (Or.inl rfl)) (za5 (zc2 (i:=5) sc__law_query.nd rfl (Or.inl rfl) (zf2 (zG4 rfl) rfl z_min boot_min (za1 (zb3 zp2 (zf2 zs7 rfl z_len PySem.boot_len (za1 (za0 (pv 2)) za4)) za6) (za1 (zb3 zc3 (za0 (pv 5)) (zc0 h__law_drawn (hr.mono (by decide)) (za1 (za0 (pv 0)) (za1 (zb3 zc3 (zb3 zc3 (za0 (pv 1)) za6) (zb3 zr5 za6 (za0 (pv 6)))) (za1 za6 za4))) (za2 (za2 (za2 zb4))))) za4)))) (za5 (zc2 (i:=7) sc__law_query.nd rfl (Or.inl rfl) (yh7 (yh5 (yh4 (za0 (pv 2)) (zC8 (za0 (pv 5))) (zC8 (zb3 zc3 (za0 (pv 5)) za6))) (zx5 zn8)))) (za5 (zc2 (i:=5) sc__law_query.nd rfl (Or.inl rfl) (zb3 zc3 (za0 (pv 5)) za6)) (za5 (zm6 (zh2 (zq4 hr.units) (zc0 h__law_drawn (hr.mono (by decide)) (za1 (za0 (pv 0)) (za1 (zb3 zc3 (zb3 zc3 (za0 (pv 1)) za6) (zb3 zr5 za6 (za0 (pv 6)))) (za1 za6 za4))) (za2 (za2 (za2 zb4)))) za6 (zj1 _)) (zb0 (zc2 (i:=7) sc__law_query.nd rfl (Or.inl rfl) (zg7 ix_ok zn8 (zc0 h__law_drawn (hr.mono (by decide)) (za1 (za0 (pv 0)) (za1 (zb3 zc3 (zb3 zc3 (za0 (pv 1)) za6) (zb3 zr5 za6 (za0 (pv 6)))) (za1 za6 za4))) (za2 (za2 (za2 zb4))))))) zh9) (zb0 (zm6 (zU9 (zu9 (zc0 h__law_mark (hr.mono (by decide)) (za1 (za0 (pv 7)) za4) (za2 zb4)))) (zb0 (zc2 (i:=4) sc__law_query.nd rfl (Or.inl rfl) (zb3 zc3 (za0 (pv 4)) (za0 (pv 7))))) zh9))))))) (zb0 (ze4 (za0 (pv 4)))))))
noncomputable abbrev zn1:Stmt:=top 50
theorem sc__law_words:zf1 ["_law_script", "_law_at", "_law_names_here", "_law_words_here", "_law_text", "_law_k", "_law_name_here", "_law_word"] ["_law_script", "_law_at", "_law_names_here"] (za7 zn1):=⟨rfl,rfl,rfl,by decide +kernel,rfl,by decide +kernel,by decide +kernel⟩
theorem zM0 {f:Addr} {fd:FuncData} (A_:DefAt K mg "_law_words" zn1 f fd) (h__law_drawn:DefOk P w K mg base "_law_drawn" 2 3 ["_law_script", "_law_k", "_law_many"] za8) (h__law_query:DefOk P w K mg base "_law_query" 3 4 ["_law_script", "_law_at", "_law_name_here", "_law_most"] zl7) (z_range:mg "range" = none) (z_len:mg "len" = none):DefOk P w K mg base "_law_words" 4 3 ["_law_script", "_law_at", "_law_names_here"] zo0:=by
 refine DefOk.mk (k:=3) A_ sc__law_words rfl (fun _ _ _ _ _ _ us hl=>by obtain ⟨_,_,_,rfl⟩:=lnz3 hl;rfl) (fun cdv A outer s H E hr=>?_) fun _ _ _ h=>h
 exact (za5 (zy8 (i:=3) sc__law_words.nd rfl (Or.inl rfl) (zE4 za4)) (za5 (zc2 (i:=4) sc__law_words.nd rfl (Or.inl rfl) (zb3 zY6 zn8 (zc0 h__law_drawn (hr.mono (by decide)) (za1 (za0 (pv 0)) (za1 (za0 (pv 1)) (za1 za6 za4))) (za2 (za2 (za2 zb4)))))) (za5 (zp8 PassesOwn.never rfl (zq6 rfl z_range (za1 (zc0 h__law_drawn (hr.mono (by decide)) (za1 (za0 (pv 0)) (za1 (zb3 zc3 (za0 (pv 1)) za6) (za1 za6 za4))) (za2 (za2 (za2 zb4)))) za4)) (zi4 sc__law_words.nd rfl (Or.inl rfl)) (za5 (zc2 (i:=6) sc__law_words.nd rfl (Or.inl rfl) (zg7 ix_ok (zb3 zc3 (za0 (pv 2)) (zs3 (za1 zn8 za4))) (zc0 h__law_drawn (hr.mono (by decide)) (za1 (za0 (pv 0)) (za1 (zb3 zc3 (zb3 zc3 (za0 (pv 1)) za6) (za0 (pv 5))) (za1 (zb3 zc3 (zf2 zs7 rfl z_len PySem.boot_len (za1 (za0 (pv 2)) za4)) za6) za4))) (za2 (za2 (za2 zb4)))))) (za5 (zc2 (i:=7) sc__law_words.nd rfl (Or.inl rfl) (zc0 h__law_query (hr.mono (by decide)) (za1 (za0 (pv 0)) (za1 (zb3 zc3 (zb3 zc3 (za0 (pv 1)) za6) (zb3 zr5 za6 (za0 (pv 5)))) (za1 (za0 (pv 6)) (za1 za6 za4)))) (za2 (za2 (za2 (za2 zb4)))))) (za5 (zm6 (zh2 (zH9 hr.units) (za0 (pv 7)) zn8 (zj1 _)) (zb0 (zL2 (pv 3) (za0 (pv 7)))) zh9) (zb0 (zc2 (i:=4) sc__law_words.nd rfl (Or.inl rfl) (zb3 zc3 (zb3 zc3 (za0 (pv 4)) (za0 (pv 7))) (zb3 zY6 zn8 (zb3 zc3 za6 (zc0 h__law_drawn (hr.mono (by decide)) (za1 (za0 (pv 0)) (za1 (zb3 zc3 (zb3 zc3 (za0 (pv 1)) za6) (za0 (pv 5))) (za1 za6 za4))) (za2 (za2 (za2 zb4))))))))))))) (zb0 (yh0 (ze4 (zr4 (za1 (za0 (pv 3)) (za1 (za0 (pv 4)) za4)))))))))
noncomputable abbrev zm2:Stmt:=top 48
theorem sc__law_sorted:zf1 ["_law_names_here", "_law_rows", "_law_keyed"] ["_law_names_here", "_law_rows"] (za7 zm2):=⟨rfl,rfl,rfl,by decide +kernel,rfl,by decide +kernel,by decide +kernel⟩
theorem zH1 {f:Addr} {fd:FuncData} (A_:DefAt K mg "_law_sorted" zm2 f fd) (z_len:mg "len" = none) (z_sorted:mg "sorted" = none):DefOk P w K mg base "_law_sorted" 1 2 ["_law_names_here", "_law_rows"] zk8:=by
 refine DefOk.mk (k:=0) A_ sc__law_sorted rfl (fun _ _ _ _ _ _ us hl=>by obtain ⟨_,_,rfl⟩:=lnz2 hl;rfl) (fun cdv A outer s H E hr=>?_) fun _ _ _ h=>h
 exact (za5 (zc2 (i:=2) sc__law_sorted.nd rfl (Or.inl rfl) (zf2 cd_sortT rfl z_sorted PyProof.Rows.boot_sorted (za1 (zs9 (zo6 (tn:=["_law_count", "_law_number"]) (fr:=["_law_names_here"]) (idx:=[0]) rfl rfl ⟨rfl,rfl,trivial⟩ (zK3 0 1) (zn7 (za0 (pv 1))) (fun s H C fp=>(zu1 rfl (show List.Nodup (["_law_count", "_law_number", "_law_names_here"]:List Str) by decide +kernel) rfl (Or.inl rfl) rfl (Or.inl rfl))) (fun s H C fp=>zr3) (fun s H C fp=>(zr4 (za1 (zb3 zp2 za6 (za0 (pv 0))) (za1 (zf2 zs7 rfl z_len PySem.boot_len (za1 (zg7 ix_ok (za0 (pv 2)) (za0 (pv 1))) za4)) (za1 (za0 (pv 1)) za4))))))) za4))) (zb0 (ze4 (zs9 (zo6 (tn:=["_law_less", "_law_many", "_law_number"]) (fr:=[]) (idx:=[]) rfl rfl trivial (setOk_tr 0 1 2 (by decide) (by decide) (by decide)) (zn7 (za0 (pv 2))) (fun s H C fp=>(pdg_trip rfl (show List.Nodup (["_law_less", "_law_many", "_law_number"]:List Str) by decide +kernel) rfl (Or.inl rfl) rfl (Or.inl rfl) rfl (Or.inl rfl))) (fun s H C fp=>zr3) (fun s H C fp=>(zr4 (za1 (zb3 zp2 za6 (za0 (pv 0))) (za1 (za0 (pv 2)) za4)))))))))
noncomputable abbrev zx4:Stmt:=top 5
theorem sc_meets:zf1 ["sign", "other"] ["sign", "other"] (za7 zx4):=⟨rfl,rfl,rfl,by decide +kernel,rfl,by decide +kernel,by decide +kernel⟩
theorem ok_meets {f:Addr} {fd:FuncData} (A_:DefAt K mg "meets" zx4 f fd) {t_SMALL:Tok} (g_SMALL:mg "SMALL" = some (.str "abcdefghijklmnopqrstuvwxyz" t_SMALL)):DefOk P w K mg base "meets" 1 2 ["sign", "other"] zq1:=by
 refine DefOk.mk (k:=0) A_ sc_meets rfl (fun _ _ _ _ _ _ us hl=>by obtain ⟨_,_,rfl⟩:=lnz2 hl;rfl) (fun cdv A outer s H E hr=>?_) fun _ _ _ h=>h
 exact (zb0 (ze4 (yh5 (zq0 (zq4 hr.units) (za0 (pv 0)) (za0 (pv 1)) (zj1 _)) (zx5 (zL5 (zq0 (zw9 (zs2 hr)) (za0 (pv 0)) (zE5 rfl g_SMALL) (by with_unfolding_all rfl)) (zx5 (zq0 (zq4 hr.units) (yh2 (za0 (pv 0))) (za0 (pv 1)) (zj1 _))))))))
noncomputable abbrev zi9:Stmt:=top 6
theorem sc_earliest_places:zf1 ["query", "name", "places", "place"] ["query", "name"] (za7 zi9):=⟨rfl,rfl,rfl,by decide +kernel,rfl,by decide +kernel,by decide +kernel⟩
theorem zz2 {f:Addr} {fd:FuncData} (A_:DefAt K mg "earliest_places" zi9 f fd) (h_meets:DefOk P w K mg base "meets" 1 2 ["sign", "other"] zq1) (z_len:mg "len" = none) (z_range:mg "range" = none):DefOk P w K mg base "earliest_places" 2 2 ["query", "name"] zk3:=by
 refine DefOk.mk (k:=1) A_ sc_earliest_places rfl (fun _ _ _ _ _ _ us hl=>by obtain ⟨_,_,rfl⟩:=lnz2 hl;rfl) (fun cdv A outer s H E hr=>?_) fun _ _ _ h=>h
 exact (za5 (zy8 (i:=2) sc_earliest_places.nd rfl (Or.inl rfl) (zE4 za4)) (za5 (zp8 PassesOwn.never rfl (zq6 rfl z_range (za1 (zf2 zs7 rfl z_len PySem.boot_len (za1 (za0 (pv 1)) za4)) za4)) (zi4 sc_earliest_places.nd rfl (Or.inl rfl)) (zb0 (zm6 (pdt_w (zU8 (zh2 opd_lt (zL4 (pv 2) rfl z_len) (zf2 zs7 rfl z_len PySem.boot_len (za1 (za0 (pv 0)) za4)) (zj1 _)) (zL0 (zu9 (zc0 h_meets (hr.mono (by decide)) (za1 (zg7 ix_ok (za0 (pv 0)) (zL4 (pv 2) rfl z_len)) (za1 (zg7 ix_ok (za0 (pv 1)) (za0 (pv 3))) za4)) (za2 (za2 zb4))))))) (zb0 (zL2 (pv 2) (za0 (pv 3)))) zh9))) (zb0 (zL1 (pv 2)))))
noncomputable abbrev zD9:Stmt:=top 7
theorem sc_fits:zf1 ["query", "name"] ["query", "name"] (za7 zD9):=⟨rfl,rfl,rfl,by decide +kernel,rfl,by decide +kernel,by decide +kernel⟩
theorem ok_fits {f:Addr} {fd:FuncData} (A_:DefAt K mg "fits" zD9 f fd) (h_earliest_places:DefOk P w K mg base "earliest_places" 2 2 ["query", "name"] zk3) (z_len:mg "len" = none):DefOk P w K mg base "fits" 3 2 ["query", "name"] zF1:=by
 refine DefOk.mk (k:=2) A_ sc_fits rfl (fun _ _ _ _ _ _ us hl=>by obtain ⟨_,_,rfl⟩:=lnz2 hl;rfl) (fun cdv A outer s H E hr=>?_) fun _ _ _ h=>h
 exact (zb0 (ze4 (zq0 (zq4 hr.units) (zf2 zs7 rfl z_len PySem.boot_len (za1 (zc0 h_earliest_places (hr.mono (by decide)) (za1 (za0 (pv 0)) (za1 (za0 (pv 1)) za4)) (za2 (za2 zb4))) za4)) (zf2 zs7 rfl z_len PySem.boot_len (za1 (za0 (pv 0)) za4)) (zj1 _))))
noncomputable abbrev zq5:Stmt:=top 30
theorem zU4:zf1 ["text"] ["text"] (za7 zq5):=⟨rfl,rfl,rfl,by decide +kernel,rfl,by decide +kernel,by decide +kernel⟩
theorem zV0 {f:Addr} {fd:FuncData} (A_:DefAt K mg "words_of" zq5 f fd):DefOk P w K mg base "words_of" 1 1 ["text"] zm7:=by
 refine DefOk.mk (k:=0) A_ zU4 rfl (fun _ _ _ _ _ _ us hl=>by obtain ⟨_,rfl⟩:=lnz1 hl;rfl) (fun cdv A outer s H E hr=>?_) fun _ _ _ h=>h
 exact (zb0 (ze4 (zs9 (zo6 (tn:=["word"]) (fr:=[]) (idx:=[]) rfl rfl trivial (zp6 0) (zn7 (pde_mt F.plainAttrs_str F.slot_str_split F.type_str_split md_split (za0 (pv 0)) (za1 zn8 za4))) (fun s H C fp=>(zi4 (show List.Nodup (["word"]:List Str) by decide +kernel) rfl (Or.inl rfl))) (fun s H C fp=>(zy7 (zh2 (zH9 hr.units) (za0 (pv 0)) zn8 (zj1 _)))) (fun s H C fp=>(za0 (pv 0)))))))
noncomputable abbrev zo7:Stmt:=top 31
theorem zP7:zf1 ["text", "name"] ["text", "name"] (za7 zo7):=⟨rfl,rfl,rfl,by decide +kernel,rfl,by decide +kernel,by decide +kernel⟩
theorem zQ8 {f:Addr} {fd:FuncData} (A_:DefAt K mg "fit_words" zo7 f fd) (h_words_of:DefOk P w K mg base "words_of" 1 1 ["text"] zm7) (h_fits:DefOk P w K mg base "fits" 3 2 ["query", "name"] zF1) (z_all:mg "all" = none):DefOk P w K mg base "fit_words" 4 2 ["text", "name"] zj7:=by
 refine DefOk.mk (k:=3) A_ zP7 rfl (fun _ _ _ _ _ _ us hl=>by obtain ⟨_,_,rfl⟩:=lnz2 hl;rfl) (fun cdv A outer s H E hr=>?_) fun _ _ _ h=>h
 exact (zb0 (ze4 (zf2 (cd_all rfl) rfl z_all boot_all (za1 (zs9 (zo6 (tn:=["word"]) (fr:=["name"]) (idx:=[1]) rfl rfl ⟨rfl,rfl,trivial⟩ (zp6 0) (zn7 (zc0 h_words_of (hr.mono (by decide)) (za1 (za0 (pv 0)) za4) (za2 zb4))) (fun s H C fp=>(zi4 (show List.Nodup (["word", "name"]:List Str) by decide +kernel) rfl (Or.inl rfl))) (fun s H C fp=>zr3) (fun s H C fp=>(zc0 h_fits (hr.mono (by decide)) (za1 (za0 (pv 0)) (za1 (za0 (pv 1)) za4)) (za2 (za2 zb4)))))) za4))))
noncomputable abbrev zn4:Stmt:=top 43
theorem sc__law_meets:zf1 ["_law_typed", "_law_sign", "_law_smalls"] ["_law_typed", "_law_sign"] (za7 zn4):=⟨rfl,rfl,rfl,by decide +kernel,rfl,by decide +kernel,by decide +kernel⟩
theorem zM3 {f:Addr} {fd:FuncData} (A_:DefAt K mg "_law_meets" zn4 f fd):DefOk P w K mg base "_law_meets" 1 2 ["_law_typed", "_law_sign"] zl8:=by
 refine DefOk.mk (k:=0) A_ sc__law_meets rfl (fun _ _ _ _ _ _ us hl=>by obtain ⟨_,_,rfl⟩:=lnz2 hl;rfl) (fun cdv A outer s H E hr=>?_) fun _ _ _ h=>h
 exact (za5 (zc2 (i:=2) sc__law_meets.nd rfl (Or.inl rfl) zn8) (zb0 (ze4 (yh5 (zq0 (zq4 hr.units) (za0 (pv 0)) (za0 (pv 1)) (zj1 _)) (zx5 (zL5 (zq0 (zw9 (zs2 hr)) (za0 (pv 0)) (za0 (pv 2)) (by with_unfolding_all rfl)) (zx5 (zq0 (zq4 hr.units) (za0 (pv 1)) (zg7 ix_ok zn8 (pde_mt F.plainAttrs_str F.slot_str_index F.type_str_index md_idx (za0 (pv 2)) (za1 (za0 (pv 0)) za4))) (zj1 _)))))))))
noncomputable abbrev zl2:Stmt:=top 44
theorem sc__law_layings:zf1 ["_law_query_here", "_law_name_here", "_law_found_here", "_law_typed", "_law_longer", "_law_laying", "_law_start"] ["_law_query_here", "_law_name_here"] (za7 zl2):=⟨rfl,rfl,rfl,by decide +kernel,rfl,by decide +kernel,by decide +kernel⟩
theorem zE9 {f:Addr} {fd:FuncData} (A_:DefAt K mg "_law_layings" zl2 f fd) (h__law_meets:DefOk P w K mg base "_law_meets" 1 2 ["_law_typed", "_law_sign"] zl8) (z_len:mg "len" = none) (z_range:mg "range" = none):DefOk P w K mg base "_law_layings" 2 2 ["_law_query_here", "_law_name_here"] zk2:=by
 refine DefOk.mk (k:=1) A_ sc__law_layings rfl (fun _ _ _ _ _ _ us hl=>by obtain ⟨_,_,rfl⟩:=lnz2 hl;rfl) (fun cdv A outer s H E hr=>?_) fun _ _ _ h=>h
 exact (za5 (zc2 (i:=2) sc__law_layings.nd rfl (Or.inl rfl) (zs3 (za1 (zs3 za4) za4))) (za5 (zp8 PassesOwn.never rfl (zn7 (za0 (pv 0))) (zi4 sc__law_layings.nd rfl (Or.inr rfl)) (za5 (zc2 (i:=4) sc__law_layings.nd rfl (Or.inl rfl) (zs3 za4)) (za5 (zp8 PassesOwn.never rfl (zn7 (za0 (pv 2))) (zi4 sc__law_layings.nd rfl (Or.inr rfl)) (za5 (zc2 (i:=6) sc__law_layings.nd rfl (Or.inl rfl) (pde_if (zh2 (zH9 hr.units) (za0 (pv 5)) (zs3 za4) (zj1 _)) (zb3 zc3 (zg7 ix_ok (za0 (pv 5)) (zv0 za6)) za6) za6)) (zb0 (zc2 (i:=4) sc__law_layings.nd rfl (Or.inl rfl) (zb3 zc3 (za0 (pv 4)) (zs9 (zo6 (tn:=["_law_k"]) (fr:=["_law_laying", "_law_typed", "_law_name_here"]) (idx:=[5,3,1]) rfl rfl ⟨rfl,rfl,⟨rfl,rfl,⟨rfl,rfl,trivial⟩⟩⟩ (zp6 0) (yc9 rfl z_range (za1 (za0 (pv 6)) (za1 (zf2 zs7 rfl z_len PySem.boot_len (za1 (za0 (pv 1)) za4)) za4))) (fun s H C fp=>(zi4 (show List.Nodup (["_law_k", "_law_laying", "_law_typed", "_law_name_here"]:List Str) by decide +kernel) rfl (Or.inl rfl))) (fun s H C fp=>(zy7 (zu9 (zc0 h__law_meets (hr.mono (by decide)) (za1 (za0 (pv 2)) (za1 (zg7 ix_ok (za0 (pv 3)) (za0 (pv 0))) za4)) (za2 (za2 zb4)))))) (fun s H C fp=>(zb3 zc3 (za0 (pv 1)) (zs3 (za1 (za0 (pv 0)) za4))))))))))) (zb0 (zc2 (i:=2) sc__law_layings.nd rfl (Or.inl rfl) (za0 (pv 4))))))) (zb0 (ze4 (za0 (pv 2))))))
noncomputable abbrev zn6:Stmt:=top 45
theorem sc__law_alone:zf1 ["_law_typed", "_law_name_here", "_law_place", "_law_whole", "_law_is_great"] ["_law_typed", "_law_name_here", "_law_place"] (za7 zn6):=⟨rfl,rfl,rfl,by decide +kernel,rfl,by decide +kernel,by decide +kernel⟩
theorem zM5 {f:Addr} {fd:FuncData} (A_:DefAt K mg "_law_alone" zn6 f fd) (z_int:mg "int" = none):DefOk P w K mg base "_law_alone" 1 3 ["_law_typed", "_law_name_here", "_law_place"] zl9:=by
 refine DefOk.mk (k:=0) A_ sc__law_alone rfl (fun _ _ _ _ _ _ us hl=>by obtain ⟨_,_,_,rfl⟩:=lnz3 hl;rfl) (fun cdv A outer s H E hr=>?_) fun _ _ _ h=>h
 exact (za5 (zc2 (i:=3) sc__law_alone.nd rfl (Or.inl rfl) (zb3 zc3 za6 (zH8 yn3 rfl z_int PyProof.Rows.boot_int (za1 (zq0 (zq4 hr.units) (za0 (pv 0)) (zg7 ix_ok (za0 (pv 1)) (za0 (pv 2))) (zj1 _)) za4)))) (za5 (zm6 (zh2 (zq4 hr.units) (za0 (pv 2)) za6 (zj1 _)) (zb0 (ze4 (zb3 zc3 (za0 (pv 3)) za6))) zh9) (za5 (zm6 (zh2 (zw9 (zs2 hr)) (zg7 ix_ok (za0 (pv 1)) (zb3 zp2 (za0 (pv 2)) za6)) zn8 (by with_unfolding_all rfl)) (zb0 (ze4 (zb3 zc3 (za0 (pv 3)) za6))) zh9) (za5 (zc2 (i:=4) sc__law_alone.nd rfl (Or.inl rfl) (zq0 (zw9 (zs2 hr)) (zg7 ix_ok (za0 (pv 1)) (za0 (pv 2))) zn8 (by with_unfolding_all rfl))) (zb0 (ze4 (zb3 zc3 (za0 (pv 3)) (zb3 zr5 za6 (zH8 yn3 rfl z_int PyProof.Rows.boot_int (za1 (zL5 (za0 (pv 4)) (zx5 (zq0 (zw9 (zs2 hr)) (zg7 ix_ok (za0 (pv 1)) (zb3 zp2 (za0 (pv 2)) za6)) zn8 (by with_unfolding_all rfl)))) za4))))))))))
noncomputable abbrev zm3:Stmt:=top 46
theorem sc__law_points:zf1 ["_law_query_here", "_law_name_here", "_law_laying", "_law_whole", "_law_at", "_law_place"] ["_law_query_here", "_law_name_here", "_law_laying"] (za7 zm3):=⟨rfl,rfl,rfl,by decide +kernel,rfl,by decide +kernel,by decide +kernel⟩
theorem zH2 {f:Addr} {fd:FuncData} (A_:DefAt K mg "_law_points" zm3 f fd) (h__law_alone:DefOk P w K mg base "_law_alone" 1 3 ["_law_typed", "_law_name_here", "_law_place"] zl9) (z_enumerate:mg "enumerate" = none) (z_min:mg "min" = none):DefOk P w K mg base "_law_points" 2 3 ["_law_query_here", "_law_name_here", "_law_laying"] zk9:=by
 refine DefOk.mk (k:=1) A_ sc__law_points rfl (fun _ _ _ _ _ _ us hl=>by obtain ⟨_,_,_,rfl⟩:=lnz3 hl;rfl) (fun cdv A outer s H E hr=>?_) fun _ _ _ h=>h
 exact (za5 (zc2 (i:=3) sc__law_points.nd rfl (Or.inl rfl) za6) (za5 (zp8 PassesOwn.never rfl (zL3 rfl z_enumerate (za1 (za0 (pv 2)) za4)) (zu1 rfl sc__law_points.nd rfl (Or.inl rfl) rfl (Or.inl rfl)) (za5 (zc2 (i:=3) sc__law_points.nd rfl (Or.inl rfl) (zb3 zc3 (za0 (pv 3)) (zc0 h__law_alone (hr.mono (by decide)) (za1 (zg7 ix_ok (za0 (pv 0)) (za0 (pv 4))) (za1 (za0 (pv 1)) (za1 (za0 (pv 5)) za4))) (za2 (za2 (za2 zb4)))))) (zb0 (zm6 (zh2 (zq4 hr.units) (za0 (pv 4)) za6 (zj1 _)) (zb0 (zc2 (i:=3) sc__law_points.nd rfl (Or.inl rfl) (zb3 zp2 (za0 (pv 3)) (zf2 (zG4 rfl) rfl z_min boot_min (za1 za6 (za1 (za0 (pv 5)) za4)))))) (zb0 (zm6 (zh2 (zq4 hr.units) (zb3 zc3 (zg7 ix_ok (za0 (pv 2)) (zb3 zp2 (za0 (pv 4)) za6)) za6) (za0 (pv 5)) (zj1 _)) (zb0 (zc2 (i:=3) sc__law_points.nd rfl (Or.inl rfl) (zb3 zc3 (za0 (pv 3)) za6))) (zb0 (zc2 (i:=3) sc__law_points.nd rfl (Or.inl rfl) (zb3 zp2 (za0 (pv 3)) (zf2 (zG4 rfl) rfl z_min boot_min (za1 za6 (za1 (zb3 zp2 (zb3 zp2 (za0 (pv 5)) (zg7 ix_ok (za0 (pv 2)) (zb3 zp2 (za0 (pv 4)) za6))) za6) za4)))))))))))) (zb0 (ze4 (za0 (pv 3))))))
noncomputable abbrev zp1:Stmt:=top 47
theorem sc__law_best:zf1 ["_law_query_here", "_law_name_here", "_law_best_row", "_law_laying", "_law_count"] ["_law_query_here", "_law_name_here"] (za7 zp1):=⟨rfl,rfl,rfl,by decide +kernel,rfl,by decide +kernel,by decide +kernel⟩
theorem zR2 {f:Addr} {fd:FuncData} (A_:DefAt K mg "_law_best" zp1 f fd) (h__law_layings:DefOk P w K mg base "_law_layings" 2 2 ["_law_query_here", "_law_name_here"] zk2) (h__law_points:DefOk P w K mg base "_law_points" 2 3 ["_law_query_here", "_law_name_here", "_law_laying"] zk9):DefOk P w K mg base "_law_best" 3 2 ["_law_query_here", "_law_name_here"] zp3:=by
 refine DefOk.mk (k:=2) A_ sc__law_best rfl (fun _ _ _ _ _ _ us hl=>by obtain ⟨_,_,rfl⟩:=lnz2 hl;rfl) (fun cdv A outer s H E hr=>?_) fun _ _ _ h=>h
 exact (za5 (zc2 (i:=2) sc__law_best.nd rfl (Or.inl rfl) zp9) (za5 (zp8 PassesOwn.never rfl (zn7 (zc0 h__law_layings (hr.mono (by decide)) (za1 (za0 (pv 0)) (za1 (za0 (pv 1)) za4)) (za2 (za2 zb4)))) (zi4 sc__law_best.nd rfl (Or.inl rfl)) (za5 (zc2 (i:=4) sc__law_best.nd rfl (Or.inl rfl) (zc0 h__law_points (hr.mono (by decide)) (za1 (za0 (pv 0)) (za1 (za0 (pv 1)) (za1 (za0 (pv 3)) za4))) (za2 (za2 (za2 zb4))))) (zb0 (zm6 (pdt_w (zQ4 (zh2 zY7 (za0 (pv 2)) zp9 (zj1 _)) (zE2 (zh2 zY8 (za0 (pv 4)) (zg7 ix_ok (za0 (pv 2)) za6) (zj1 _))))) (zb0 (zc2 (i:=2) sc__law_best.nd rfl (Or.inl rfl) (zr4 (za1 (za0 (pv 4)) (za1 (za0 (pv 3)) za4))))) zh9)))) (zb0 (ze4 (za0 (pv 2))))))
noncomputable abbrev zs1:Stmt:=top 27
theorem zU5:zf1 ["names", "rows"] ["names", "rows"] (za7 zs1):=⟨rfl,rfl,rfl,by decide +kernel,rfl,by decide +kernel,by decide +kernel⟩
theorem zV1 {f c:Addr} (A_:yo9 K mg "in_order" zs1 f c 94) (bm:BM mg base) (z_len:mg "len" = none) (z_sorted:mg "sorted" = none):DefOk P w K mg base "in_order" 4 2 ["names", "rows"] zp4:=by
 refine DefOk.mkL (k:=3) A_ zU5 rfl (fun _ _ _ _ _ _ us hl=>by obtain ⟨_,_,rfl⟩:=lnz2 hl;rfl) (fun A outer s H E hr=>?_)
 exact (zb0 (ze4 (yh3 (P:=94) (p := "row") (fr:=["names"]) (idx:=[0]) rfl z_sorted PyProof.Rows.boot_sorted (za0 (pv 1)) (hr.mono (by decide)) (TabsU.of (by decide)) bm rfl A_.tab (.head _) rfl ⟨rfl,rfl,trivial⟩ rfl rfl rfl (fun _ _ _ _ _=>rfl) (fun s H f cd=>(zr4 (za1 (zv0 (zg7 ix_ok (za0 (pv 0)) za6)) (za1 (zf2 zs7 rfl z_len PySem.boot_len (za1 (zg7 ix_ok (za0 (pv 1)) (zg7 ix_ok (za0 (pv 0)) za6)) za4)) (za1 (zg7 ix_ok (za0 (pv 0)) za6) za4))))))))
noncomputable abbrev zn0:Stmt:=top 28
theorem zK4:zf1 ["names", "rows", "many"] ["names", "rows", "many"] (za7 zn0):=⟨rfl,rfl,rfl,by decide +kernel,rfl,by decide +kernel,by decide +kernel⟩
theorem zL9 {f:Addr} {fd:FuncData} (A_:DefAt K mg "first_rows" zn0 f fd) (h_in_order:DefOk P w K mg base "in_order" 4 2 ["names", "rows"] zp4) (z_max:mg "max" = none):DefOk P w K mg base "first_rows" 5 3 ["names", "rows", "many"] zn9:=by
 refine DefOk.mk (k:=4) A_ zK4 rfl (fun _ _ _ _ _ _ us hl=>by obtain ⟨_,_,_,rfl⟩:=lnz3 hl;rfl) (fun cdv A outer s H E hr=>?_) fun _ _ _ h=>h
 exact (zb0 (ze4 (yh4 (zc0 h_in_order (hr.mono (by decide)) (za1 (za0 (pv 0)) (za1 (za0 (pv 1)) za4)) (za2 (za2 zb4))) zY4 (zC8 (zf2 (cd_max2 rfl) rfl z_max boot_max (za1 (za0 (pv 2)) (za1 za6 za4)))))))
noncomputable abbrev zh8:Stmt:=top 17
theorem sc_beginning_points:zf1 ["name", "place", "ahead"] ["name", "place"] (za7 zh8):=⟨rfl,rfl,rfl,by decide +kernel,rfl,by decide +kernel,by decide +kernel⟩
theorem zx6 {f:Addr} {fd:FuncData} (A_:DefAt K mg "beginning_points" zh8 f fd) {t_FIGURES:Tok} (g_FIGURES:mg "FIGURES" = some (.str "0123456789" t_FIGURES)) {t_SMALL:Tok} (g_SMALL:mg "SMALL" = some (.str "abcdefghijklmnopqrstuvwxyz" t_SMALL)) {t_GREAT:Tok} (g_GREAT:mg "GREAT" = some (.str "ABCDEFGHIJKLMNOPQRSTUVWXYZ" t_GREAT)) {t_AT_GREAT:Tok} (g_AT_GREAT:mg "AT_GREAT" = some (.int 5 t_AT_GREAT)) {t_MARKS:Tok} (g_MARKS:mg "MARKS" = some (.str "_-./" t_MARKS)) {t_BEHIND_MARK:Tok} (g_BEHIND_MARK:mg "BEHIND_MARK" = some (.int 6 t_BEHIND_MARK)) {t_AT_BEGINNING:Tok} (g_AT_BEGINNING:mg "AT_BEGINNING" = some (.int 8 t_AT_BEGINNING)):DefOk P w K mg base "beginning_points" 1 2 ["name", "place"] zj4:=by
 refine DefOk.mk (k:=0) A_ sc_beginning_points rfl (fun _ _ _ _ _ _ us hl=>by obtain ⟨_,_,rfl⟩:=lnz2 hl;rfl) (fun cdv A outer s H E hr=>?_) fun _ _ _ h=>h
 exact (za5 (zm6 (zh2 (zq4 hr.units) (za0 (pv 1)) za6 (zj1 _)) (zb0 (ze4 (zv1 rfl g_AT_BEGINNING))) zh9) (za5 (zc2 (i:=2) sc_beginning_points.nd rfl (Or.inl rfl) (zg7 ix_ok (za0 (pv 0)) (zb3 zp2 (za0 (pv 1)) za6))) (za5 (zm6 (zh2 (zw9 (zs2 hr)) (za0 (pv 2)) (zE5 rfl g_MARKS) (by with_unfolding_all rfl)) (zb0 (ze4 (zv1 rfl g_BEHIND_MARK))) zh9) (za5 (zm6 (pdt_w (zU8 (zh2 (zw9 (zs2 hr)) (zg7 ix_ok (za0 (pv 0)) (za0 (pv 1))) (zE5 rfl g_GREAT) (by with_unfolding_all rfl)) (zL0 (pdt_w (zQ4 (zh2 (zw9 (zs2 hr)) (za0 (pv 2)) (zE5 rfl g_SMALL) (by with_unfolding_all rfl)) (zE2 (zh2 (zw9 (zs2 hr)) (za0 (pv 2)) (zE5 rfl g_FIGURES) (by with_unfolding_all rfl)))))))) (zb0 (ze4 (zv1 rfl g_AT_GREAT))) zh9) (zb0 (ze4 za6))))))
noncomputable abbrev zm9:Stmt:=top 18
theorem sc_own_points:zf1 ["sign", "name", "place", "same"] ["sign", "name", "place"] (za7 zm9):=⟨rfl,rfl,rfl,by decide +kernel,rfl,by decide +kernel,by decide +kernel⟩
theorem zL8 {f:Addr} {fd:FuncData} (A_:DefAt K mg "own_points" zm9 f fd) (h_beginning_points:DefOk P w K mg base "beginning_points" 1 2 ["name", "place"] zj4) {t_EACH_PLACE:Tok} (g_EACH_PLACE:mg "EACH_PLACE" = some (.int 10 t_EACH_PLACE)) {t_SAME_SIGN:Tok} (g_SAME_SIGN:mg "SAME_SIGN" = some (.int 1 t_SAME_SIGN)):DefOk P w K mg base "own_points" 2 3 ["sign", "name", "place"] zj2:=by
 refine DefOk.mk (k:=1) A_ sc_own_points rfl (fun _ _ _ _ _ _ us hl=>by obtain ⟨_,_,_,rfl⟩:=lnz3 hl;rfl) (fun cdv A outer s H E hr=>?_) fun _ _ _ h=>h
 exact (za5 (zc2 (i:=3) sc_own_points.nd rfl (Or.inl rfl) (pde_if (zh2 (zq4 hr.units) (zg7 ix_ok (za0 (pv 1)) (za0 (pv 2))) (za0 (pv 0)) (zj1 _)) (zv1 rfl g_SAME_SIGN) za6)) (zb0 (ze4 (zb3 zc3 (zb3 zc3 (zv1 rfl g_EACH_PLACE) (zc0 h_beginning_points (hr.mono (by decide)) (za1 (za0 (pv 1)) (za1 (za0 (pv 2)) za4)) (za2 (za2 zb4)))) (za0 (pv 3))))))
noncomputable abbrev zi8:Stmt:=top 22
theorem zy4:zf1 ["sign", "name"] ["sign", "name"] (za7 zi8):=⟨rfl,rfl,rfl,by decide +kernel,rfl,by decide +kernel,by decide +kernel⟩
theorem zz1 {f:Addr} {fd:FuncData} (A_:DefAt K mg "last_sign_tails" zi8 f fd) (h_meets:DefOk P w K mg base "meets" 1 2 ["sign", "other"] zq1) (h_own_points:DefOk P w K mg base "own_points" 2 3 ["sign", "name", "place"] zj2) (z_len:mg "len" = none) (z_range:mg "range" = none):DefOk P w K mg base "last_sign_tails" 3 2 ["sign", "name"] zh5:=by
 refine DefOk.mk (k:=2) A_ zy4 rfl (fun _ _ _ _ _ _ us hl=>by obtain ⟨_,_,rfl⟩:=lnz2 hl;rfl) (fun cdv A outer s H E hr=>?_) fun _ _ _ h=>h
 exact (zb0 (ze4 (zs9 (zo6 (tn:=["place"]) (fr:=["sign", "name"]) (idx:=[0,1]) rfl rfl ⟨rfl,rfl,⟨rfl,rfl,trivial⟩⟩ (zp6 0) (zq6 rfl z_range (za1 (zf2 zs7 rfl z_len PySem.boot_len (za1 (za0 (pv 1)) za4)) za4)) (fun s H C fp=>(zi4 (show List.Nodup (["place", "sign", "name"]:List Str) by decide +kernel) rfl (Or.inl rfl))) (fun s H C fp=>(zy7 (zu9 (zc0 h_meets (hr.mono (by decide)) (za1 (za0 (pv 1)) (za1 (zg7 ix_ok (za0 (pv 2)) (za0 (pv 0))) za4)) (za2 (za2 zb4)))))) (fun s H C fp=>(zr4 (za1 (zc0 h_own_points (hr.mono (by decide)) (za1 (za0 (pv 1)) (za1 (za0 (pv 2)) (za1 (za0 (pv 0)) za4))) (za2 (za2 (za2 zb4)))) (za1 (zs3 (za1 (za0 (pv 0)) za4)) za4))))))))
noncomputable abbrev zk4:Stmt:=top 21
theorem sc_first_of_most:zf1 ["tails", "chosen", "tail"] ["tails"] (za7 zk4):=⟨rfl,rfl,rfl,by decide +kernel,rfl,by decide +kernel,by decide +kernel⟩
theorem zC6 {f:Addr} {fd:FuncData} (A_:DefAt K mg "first_of_most" zk4 f fd):DefOk P w K mg base "first_of_most" 1 1 ["tails"] zf6:=by
 refine DefOk.mk (k:=0) A_ sc_first_of_most rfl (fun _ _ _ _ _ _ us hl=>by obtain ⟨_,rfl⟩:=lnz1 hl;rfl) (fun cdv A outer s H E hr=>?_) fun _ _ _ h=>h
 exact (za5 (zc2 (i:=1) sc_first_of_most.nd rfl (Or.inl rfl) zp9) (za5 (zp8 PassesOwn.never rfl (zn7 (za0 (pv 0))) (zi4 sc_first_of_most.nd rfl (Or.inl rfl)) (zb0 (zm6 (pdt_w (zQ4 (zh2 zY7 (za0 (pv 1)) zp9 (zj1 _)) (zE2 (zh2 zY8 (zg7 ix_ok (za0 (pv 2)) za6) (zg7 ix_ok (za0 (pv 1)) za6) (zj1 _))))) (zb0 (zc2 (i:=1) sc_first_of_most.nd rfl (Or.inl rfl) (za0 (pv 2)))) zh9))) (zb0 (ze4 (za0 (pv 1))))))
noncomputable abbrev zm0:Stmt:=top 20
theorem sc_link_points:zf1 ["ahead", "place", "between"] ["ahead", "place"] (za7 zm0):=⟨rfl,rfl,rfl,by decide +kernel,rfl,by decide +kernel,by decide +kernel⟩
theorem zG9 {f:Addr} {fd:FuncData} (A_:DefAt K mg "link_points" zm0 f fd) {t_MOST_BETWEEN:Tok} (g_MOST_BETWEEN:mg "MOST_BETWEEN" = some (.int 5 t_MOST_BETWEEN)) {t_BESIDE:Tok} (g_BESIDE:mg "BESIDE" = some (.int 7 t_BESIDE)) (z_min:mg "min" = none):DefOk P w K mg base "link_points" 1 2 ["ahead", "place"] zm4:=by
 refine DefOk.mk (k:=0) A_ sc_link_points rfl (fun _ _ _ _ _ _ us hl=>by obtain ⟨_,_,rfl⟩:=lnz2 hl;rfl) (fun cdv A outer s H E hr=>?_) fun _ _ _ h=>h
 exact (za5 (zc2 (i:=2) sc_link_points.nd rfl (Or.inl rfl) (zb3 zp2 (zb3 zp2 (za0 (pv 1)) (za0 (pv 0))) za6)) (za5 (zm6 (zh2 (zq4 hr.units) (za0 (pv 2)) za6 (zj1 _)) (zb0 (ze4 (zv1 rfl g_BESIDE))) zh9) (zb0 (ze4 (zv0 (zf2 (zG4 rfl) rfl z_min boot_min (za1 (za0 (pv 2)) (za1 (zv1 rfl g_MOST_BETWEEN) za4))))))))
noncomputable abbrev zl1:Stmt:=top 23
theorem zD8:zf1 ["place", "tails"] ["place", "tails"] (za7 zl1):=⟨rfl,rfl,rfl,by decide +kernel,rfl,by decide +kernel,by decide +kernel⟩
theorem zE8 {f:Addr} {fd:FuncData} (A_:DefAt K mg "linked_tails" zl1 f fd) (h_link_points:DefOk P w K mg base "link_points" 1 2 ["ahead", "place"] zm4):DefOk P w K mg base "linked_tails" 2 2 ["place", "tails"] zk1:=by
 refine DefOk.mk (k:=1) A_ zD8 rfl (fun _ _ _ _ _ _ us hl=>by obtain ⟨_,_,rfl⟩:=lnz2 hl;rfl) (fun cdv A outer s H E hr=>?_) fun _ _ _ h=>h
 exact (zb0 (ze4 (zs9 (zo6 (tn:=["tail"]) (fr:=["place"]) (idx:=[0]) rfl rfl ⟨rfl,rfl,trivial⟩ (zp6 0) (zn7 (za0 (pv 1))) (fun s H C fp=>(zi4 (show List.Nodup (["tail", "place"]:List Str) by decide +kernel) rfl (Or.inl rfl))) (fun s H C fp=>(zy7 (zh2 zY8 (zg7 ix_ok (zg7 ix_ok (za0 (pv 0)) za6) za6) (za0 (pv 1)) (zj1 _)))) (fun s H C fp=>(zr4 (za1 (zb3 zc3 (zg7 ix_ok (za0 (pv 0)) za6) (zc0 h_link_points (hr.mono (by decide)) (za1 (za0 (pv 1)) (za1 (zg7 ix_ok (zg7 ix_ok (za0 (pv 0)) za6) za6) za4)) (za2 (za2 zb4)))) (za1 (zg7 ix_ok (za0 (pv 0)) za6) za4))))))))
noncomputable abbrev zl0:Stmt:=top 24
theorem sc_longer_tails:zf1 ["sign", "name", "tails", "longer", "place", "chosen"] ["sign", "name", "tails"] (za7 zl0):=⟨rfl,rfl,rfl,by decide +kernel,rfl,by decide +kernel,by decide +kernel⟩
theorem zE7 {f:Addr} {fd:FuncData} (A_:DefAt K mg "longer_tails" zl0 f fd) (h_meets:DefOk P w K mg base "meets" 1 2 ["sign", "other"] zq1) (h_own_points:DefOk P w K mg base "own_points" 2 3 ["sign", "name", "place"] zj2) (h_linked_tails:DefOk P w K mg base "linked_tails" 2 2 ["place", "tails"] zk1) (h_first_of_most:DefOk P w K mg base "first_of_most" 1 1 ["tails"] zf6) (z_len:mg "len" = none) (z_range:mg "range" = none):DefOk P w K mg base "longer_tails" 3 3 ["sign", "name", "tails"] zl3:=by
 refine DefOk.mk (k:=2) A_ sc_longer_tails rfl (fun _ _ _ _ _ _ us hl=>by obtain ⟨_,_,_,rfl⟩:=lnz3 hl;rfl) (fun cdv A outer s H E hr=>?_) fun _ _ _ h=>h
 exact (za5 (zy8 (i:=3) sc_longer_tails.nd rfl (Or.inl rfl) (zE4 za4)) (za5 (zp8 PassesOwn.never rfl (zq6 rfl z_range (za1 (zf2 zs7 rfl z_len PySem.boot_len (za1 (za0 (pv 1)) za4)) za4)) (zi4 sc_longer_tails.nd rfl (Or.inl rfl)) (zb0 (zm6 (zu9 (zc0 h_meets (hr.mono (by decide)) (za1 (za0 (pv 0)) (za1 (zg7 ix_ok (za0 (pv 1)) (za0 (pv 4))) za4)) (za2 (za2 zb4)))) (za5 (zc2 (i:=5) sc_longer_tails.nd rfl (Or.inl rfl) (zc0 h_first_of_most (hr.mono (by decide)) (za1 (zc0 h_linked_tails (hr.mono (by decide)) (za1 (za0 (pv 4)) (za1 (za0 (pv 2)) za4)) (za2 (za2 zb4))) za4) (za2 zb4))) (zb0 (zm6 (zh2 zQ5 (za0 (pv 5)) zp9 (zj1 _)) (zb0 (zL2 (pv 3) (zr4 (za1 (zb3 zc3 (zc0 h_own_points (hr.mono (by decide)) (za1 (za0 (pv 0)) (za1 (za0 (pv 1)) (za1 (za0 (pv 4)) za4))) (za2 (za2 (za2 zb4)))) (zg7 ix_ok (za0 (pv 5)) za6)) (za1 (zb3 zc3 (zs3 (za1 (za0 (pv 4)) za4)) (zg7 ix_ok (za0 (pv 5)) za6)) za4))))) zh9))) zh9))) (zb0 (zL1 (pv 3)))))
noncomputable abbrev zm1:Stmt:=top 19
theorem zG8:zf1 ["place"] ["place"] (za7 zm1):=⟨rfl,rfl,rfl,by decide +kernel,rfl,by decide +kernel,by decide +kernel⟩
theorem zH0 {f:Addr} {fd:FuncData} (A_:DefAt K mg "lead_points" zm1 f fd) {t_MOST_AHEAD:Tok} (g_MOST_AHEAD:mg "MOST_AHEAD" = some (.int 3 t_MOST_AHEAD)) (z_min:mg "min" = none):DefOk P w K mg base "lead_points" 1 1 ["place"] zk7:=by
 refine DefOk.mk (k:=0) A_ zG8 rfl (fun _ _ _ _ _ _ us hl=>by obtain ⟨_,rfl⟩:=lnz1 hl;rfl) (fun cdv A outer s H E hr=>?_) fun _ _ _ h=>h
 exact (zb0 (ze4 (zv0 (zf2 (zG4 rfl) rfl z_min boot_min (za1 (za0 (pv 0)) (za1 (zv1 rfl g_MOST_AHEAD) za4))))))
noncomputable abbrev zE0:Stmt:=top 25
theorem sc_best:zf1 ["query", "name", "tails", "number"] ["query", "name"] (za7 zE0):=⟨rfl,rfl,rfl,by decide +kernel,rfl,by decide +kernel,by decide +kernel⟩
theorem ok_best {f:Addr} {fd:FuncData} (A_:DefAt K mg "best" zE0 f fd) (h_lead_points:DefOk P w K mg base "lead_points" 1 1 ["place"] zk7) (h_first_of_most:DefOk P w K mg base "first_of_most" 1 1 ["tails"] zf6) (h_longer_tails:DefOk P w K mg base "longer_tails" 3 3 ["sign", "name", "tails"] zl3) (h_last_sign_tails:DefOk P w K mg base "last_sign_tails" 3 2 ["sign", "name"] zh5) (z_len:mg "len" = none) (z_range:mg "range" = none):DefOk P w K mg base "best" 4 2 ["query", "name"] zz4:=by
 refine DefOk.mk (k:=3) A_ sc_best rfl (fun _ _ _ _ _ _ us hl=>by obtain ⟨_,_,rfl⟩:=lnz2 hl;rfl) (fun cdv A outer s H E hr=>?_) fun _ _ _ h=>h
 exact (za5 (zm6 (zh2 (zq4 hr.units) (zf2 zs7 rfl z_len PySem.boot_len (za1 (za0 (pv 0)) za4)) za6 (zj1 _)) (zb0 (ze4 (zr4 (za1 za6 (za1 (zs3 za4) za4))))) zh9) (za5 (zc2 (i:=2) sc_best.nd rfl (Or.inl rfl) (zc0 h_last_sign_tails (hr.mono (by decide)) (za1 (zg7 ix_ok (za0 (pv 0)) (zv0 za6)) (za1 (za0 (pv 1)) za4)) (za2 (za2 zb4)))) (za5 (zp8 PassesOwn.never rfl (yc8 rfl z_range (za1 (zb3 zp2 (zf2 zs7 rfl z_len PySem.boot_len (za1 (za0 (pv 0)) za4)) za6) (za1 (zv0 za6) (za1 (zv0 za6) za4)))) (zi4 sc_best.nd rfl (Or.inl rfl)) (zb0 (zc2 (i:=2) sc_best.nd rfl (Or.inl rfl) (zc0 h_longer_tails (hr.mono (by decide)) (za1 (zg7 ix_ok (za0 (pv 0)) (za0 (pv 3))) (za1 (za0 (pv 1)) (za1 (za0 (pv 2)) za4))) (za2 (za2 (za2 zb4))))))) (zb0 (ze4 (zc0 h_first_of_most (hr.mono (by decide)) (za1 (zs9 (zo6 (tn:=["tail"]) (fr:=[]) (idx:=[]) rfl rfl trivial (zp6 0) (zn7 (za0 (pv 2))) (fun s H C fp=>(zi4 (show List.Nodup (["tail"]:List Str) by decide +kernel) rfl (Or.inl rfl))) (fun s H C fp=>zr3) (fun s H C fp=>(zr4 (za1 (zb3 zc3 (zg7 ix_ok (za0 (pv 0)) za6) (zc0 h_lead_points (hr.mono (by decide)) (za1 (zg7 ix_ok (zg7 ix_ok (za0 (pv 0)) za6) za6) za4) (za2 zb4))) (za1 (zg7 ix_ok (za0 (pv 0)) za6) za4)))))) za4) (za2 zb4)))))))
noncomputable abbrev zk5:Stmt:=top 32
theorem zC5:zf1 ["text", "name"] ["text", "name"] (za7 zk5):=⟨rfl,rfl,rfl,by decide +kernel,rfl,by decide +kernel,by decide +kernel⟩
theorem zC7 {f:Addr} {fd:FuncData} (A_:DefAt K mg "best_by_words" zk5 f fd) (h_words_of:DefOk P w K mg base "words_of" 1 1 ["text"] zm7) (h_best:DefOk P w K mg base "best" 4 2 ["query", "name"] zz4) (h_fit_words:DefOk P w K mg base "fit_words" 4 2 ["text", "name"] zj7):DefOk P w K mg base "best_by_words" 5 2 ["text", "name"] zh3:=by
 refine DefOk.mk (k:=4) A_ zC5 rfl (fun _ _ _ _ _ _ us hl=>by obtain ⟨_,_,rfl⟩:=lnz2 hl;rfl) (fun cdv A outer s H E hr=>?_) fun _ _ _ h=>h
 exact (za5 (zm6 (zU9 (zu9 (zc0 h_fit_words (hr.mono (by decide)) (za1 (za0 (pv 0)) (za1 (za0 (pv 1)) za4)) (za2 (za2 zb4))))) (zb0 (ze4 zp9)) zh9) (zb0 (ze4 (zs9 (zo6 (tn:=["word"]) (fr:=["name"]) (idx:=[1]) rfl rfl ⟨rfl,rfl,trivial⟩ (zp6 0) (zn7 (zc0 h_words_of (hr.mono (by decide)) (za1 (za0 (pv 0)) za4) (za2 zb4))) (fun s H C fp=>(zi4 (show List.Nodup (["word", "name"]:List Str) by decide +kernel) rfl (Or.inl rfl))) (fun s H C fp=>zr3) (fun s H C fp=>(zc0 h_best (hr.mono (by decide)) (za1 (za0 (pv 0)) (za1 (za0 (pv 1)) za4)) (za2 (za2 zb4)))))))))
noncomputable abbrev zi6:Stmt:=top 33
theorem sc_points_by_words:zf1 ["text", "name", "laid"] ["text", "name"] (za7 zi6):=⟨rfl,rfl,rfl,by decide +kernel,rfl,by decide +kernel,by decide +kernel⟩
theorem zy9 {f:Addr} {fd:FuncData} (A_:DefAt K mg "points_by_words" zi6 f fd) (h_best_by_words:DefOk P w K mg base "best_by_words" 5 2 ["text", "name"] zh3) (z_sum:mg "sum" = none):DefOk P w K mg base "points_by_words" 6 2 ["text", "name"] zf8:=by
 refine DefOk.mk (k:=5) A_ sc_points_by_words rfl (fun _ _ _ _ _ _ us hl=>by obtain ⟨_,_,rfl⟩:=lnz2 hl;rfl) (fun cdv A outer s H E hr=>?_) fun _ _ _ h=>h
 exact (za5 (zc2 (i:=2) sc_points_by_words.nd rfl (Or.inl rfl) (zc0 h_best_by_words (hr.mono (by decide)) (za1 (za0 (pv 0)) (za1 (za0 (pv 1)) za4)) (za2 (za2 zb4)))) (za5 (zm6 (zh2 zY7 (za0 (pv 2)) zp9 (zj1 _)) (zb0 (ze4 zp9)) zh9) (zb0 (ze4 (zf2 (cd_sum rfl) rfl z_sum PyProof.Rows.boot_sum (za1 (zs9 (zo6 (tn:=["counted", "places"]) (fr:=[]) (idx:=[]) rfl rfl trivial (zK3 0 1) (zn7 (za0 (pv 2))) (fun s H C fp=>(zu1 rfl (show List.Nodup (["counted", "places"]:List Str) by decide +kernel) rfl (Or.inl rfl) rfl (Or.inl rfl))) (fun s H C fp=>zr3) (fun s H C fp=>(za0 (pv 0))))) za4))))))
noncomputable abbrev zj6:Stmt:=top 34
theorem sc_found_by_words:zf1 ["names", "text", "many", "rows"] ["names", "text", "many"] (za7 zj6):=⟨rfl,rfl,rfl,by decide +kernel,rfl,by decide +kernel,by decide +kernel⟩
theorem zA5 {f:Addr} {fd:FuncData} (A_:DefAt K mg "found_by_words" zj6 f fd) (h_first_rows:DefOk P w K mg base "first_rows" 5 3 ["names", "rows", "many"] zn9) (h_points_by_words:DefOk P w K mg base "points_by_words" 6 2 ["text", "name"] zf8) (z_enumerate:mg "enumerate" = none):DefOk P w K mg base "found_by_words" 7 3 ["names", "text", "many"] zh4:=by
 refine DefOk.mk (k:=6) A_ sc_found_by_words rfl (fun _ _ _ _ _ _ us hl=>by obtain ⟨_,_,_,rfl⟩:=lnz3 hl;rfl) (fun cdv A outer s H E hr=>?_) fun _ _ _ h=>h
 exact (za5 (zY3 (i:=3) sc_found_by_words.nd rfl rfl rfl (tn:=["number", "name"]) (fr:=["text"]) (idx:=[1]) rfl rfl ⟨rfl,rfl,trivial⟩ (zK3 0 1) (zL3 rfl z_enumerate (za1 (za0 (pv 0)) za4)) (fun s H C fp=>(zu1 rfl (show List.Nodup (["number", "name", "text"]:List Str) by decide +kernel) rfl (Or.inl rfl) rfl (Or.inl rfl))) (fun s H C fp=>zr3) (fun s H C fp=>(zr4 (za1 (zc0 h_points_by_words (hr.mono (by decide)) (za1 (za0 (pv 2)) (za1 (za0 (pv 1)) za4)) (za2 (za2 zb4))) (za1 (za0 (pv 0)) za4))))) (zb0 (ze4 (zc0 h_first_rows (hr.mono (by decide)) (za1 (za0 (pv 0)) (za1 (zs9 (zo6 (tn:=["row"]) (fr:=[]) (idx:=[]) rfl rfl trivial (zp6 0) (zn7 (za0 (pv 3))) (fun s H C fp=>(zi4 (show List.Nodup (["row"]:List Str) by decide +kernel) rfl (Or.inl rfl))) (fun s H C fp=>(zy7 (zh2 zQ5 (zg7 ix_ok (za0 (pv 0)) za6) zp9 (zj1 _)))) (fun s H C fp=>(za0 (pv 0))))) (za1 (za0 (pv 2)) za4))) (za2 (za2 (za2 zb4)))))))
noncomputable abbrev zi7:Stmt:=top 35
theorem sc_places_by_words:zf1 ["text", "name", "laid", "together", "counted", "places"] ["text", "name"] (za7 zi7):=⟨rfl,rfl,rfl,by decide +kernel,rfl,by decide +kernel,by decide +kernel⟩
theorem zz0 {f:Addr} {fd:FuncData} (A_:DefAt K mg "places_by_words" zi7 f fd) (h_best_by_words:DefOk P w K mg base "best_by_words" 5 2 ["text", "name"] zh3) (z_sorted:mg "sorted" = none) (z_set:mg "set" = none):DefOk P w K mg base "places_by_words" 6 2 ["text", "name"] zj0:=by
 refine DefOk.mk (k:=5) A_ sc_places_by_words rfl (fun _ _ _ _ _ _ us hl=>by obtain ⟨_,_,rfl⟩:=lnz2 hl;rfl) (fun cdv A outer s H E hr=>?_) fun _ _ _ h=>h
 exact (za5 (zc2 (i:=2) sc_places_by_words.nd rfl (Or.inl rfl) (zc0 h_best_by_words (hr.mono (by decide)) (za1 (za0 (pv 0)) (za1 (za0 (pv 1)) za4)) (za2 (za2 zb4)))) (za5 (zm6 (zh2 zY7 (za0 (pv 2)) zp9 (zj1 _)) (zb0 (ze4 zp9)) zh9) (za5 (zy8 (i:=3) sc_places_by_words.nd rfl (Or.inl rfl) (zE4 za4)) (za5 (zp8 PassesOwn.never rfl (zn7 (za0 (pv 2))) (zu1 rfl sc_places_by_words.nd rfl (Or.inl rfl) rfl (Or.inl rfl)) (zb0 (pds_ext (pv 3) (za0 (pv 5))))) (zb0 (yh0 (ze4 (zs9 (zE3 rfl rfl z_sorted rfl z_set (za1 (za0 (pv 3)) za4))))))))))
noncomputable abbrev s_law:Stmt:=top 51
theorem sc_law:zf1 ["_law_script", "_law_names_here", "_law_words_here", "_law_text", "_law_rows", "_law_number", "_law_name_here", "_law_told", "_law_does_fit", "_law_said", "_law_count", "_law_places", "_law_row", "_law_many"] ["_law_script"] (za7 s_law):=⟨rfl,rfl,rfl,by decide +kernel,rfl,by decide +kernel,by decide +kernel⟩
theorem ok_law {f:Addr} {fd:FuncData} (A_:Fun K "law" "law" s_law f fd) (h_found_by_words:DefOk P w K mg base "found_by_words" 7 3 ["names", "text", "many"] zh4) (h__law_drawn:DefOk P w K mg base "_law_drawn" 2 3 ["_law_script", "_law_k", "_law_many"] za8) (h__law_sorted:DefOk P w K mg base "_law_sorted" 1 2 ["_law_names_here", "_law_rows"] zk8) (h_places_by_words:DefOk P w K mg base "places_by_words" 6 2 ["text", "name"] zj0) (h_points_by_words:DefOk P w K mg base "points_by_words" 6 2 ["text", "name"] zf8) (h_fit_words:DefOk P w K mg base "fit_words" 4 2 ["text", "name"] zj7) (h__law_best:DefOk P w K mg base "_law_best" 3 2 ["_law_query_here", "_law_name_here"] zp3) (h__law_words:DefOk P w K mg base "_law_words" 4 3 ["_law_script", "_law_at", "_law_names_here"] zo0) (h__law_names:DefOk P w K mg base "_law_names" 4 3 ["_law_script", "_law_at", "_law_most"] zo1) (z_enumerate:mg "enumerate" = none) (z_sorted:mg "sorted" = none) (z_set:mg "set" = none) (z_sum:mg "sum" = none) (z_bool:mg "bool" = none) (z_isinstance:mg "isinstance" = none):FnOk P w K mg base CX0 8 f fd ["_law_script"] (spD K 1 m_law):=by
 refine fnD (k:=7) A_ sc_law rfl fun cdv A outer s H E hr=>?_
 exact (za5 (zc2 (i:=1) sc_law.nd rfl (Or.inl rfl) (zc0 h__law_names (hr.mono (by decide)) (za1 (za0 (pv 0)) (za1 za6 (za1 za6 za4))) (za2 (za2 (za2 zb4))))) (za5 (pds_pair (zc0 h__law_words (hr.mono (by decide)) (za1 (za0 (pv 0)) (za1 za6 (za1 (za0 (pv 1)) za4))) (za2 (za2 (za2 zb4)))) (zu1 rfl sc_law.nd rfl (Or.inl rfl) rfl (Or.inl rfl))) (za5 (zy8 (i:=4) sc_law.nd rfl (Or.inl rfl) (zE4 za4)) (za5 (zp8 PassesOwn.never rfl (zL3 rfl z_enumerate (za1 (za0 (pv 1)) za4)) (zu1 rfl sc_law.nd rfl (Or.inl rfl) rfl (Or.inr rfl)) (za5 (zY3 (i:=7) sc_law.nd rfl rfl rfl (tn:=["_law_word"]) (fr:=["_law_name_here"]) (idx:=[6]) rfl rfl ⟨rfl,rfl,trivial⟩ (zp6 0) (zn7 (za0 (pv 2))) (fun s H C fp=>(zi4 (show List.Nodup (["_law_word", "_law_name_here"]:List Str) by decide +kernel) rfl (Or.inl rfl))) (fun s H C fp=>zr3) (fun s H C fp=>(zc0 h__law_best (hr.mono (by decide)) (za1 (za0 (pv 0)) (za1 (za0 (pv 1)) za4)) (za2 (za2 zb4))))) (za5 (zc2 (i:=8) sc_law.nd rfl (Or.inl rfl) (zq0 (yh9 (zs2 hr)) zp9 (za0 (pv 7)) (by with_unfolding_all rfl))) (za5 (zc2 (i:=9) sc_law.nd rfl (Or.inl rfl) (zc0 h_fit_words (hr.mono (by decide)) (za1 (za0 (pv 3)) (za1 (za0 (pv 6)) za4)) (za2 (za2 zb4)))) (za5 (zm6 (pdt_w (zQ4 (zU9 (zu9 (zf2 cd_isi rfl z_isinstance boot_isinstance (za1 (za0 (pv 9)) (za1 (pde_ty rfl z_bool PyProof.Rows.boot_bool) za4))))) (zE2 (zh2 (zH9 hr.units) (za0 (pv 9)) (za0 (pv 8)) (zj1 _))))) (zb0 (ze4 pde_bl)) zh9) (za5 (zc2 (i:=10) sc_law.nd rfl (Or.inl rfl) zp9) (za5 (zc2 (i:=11) sc_law.nd rfl (Or.inl rfl) zp9) (za5 (zm6 (zu9 (za0 (pv 8))) (za5 (zc2 (i:=10) sc_law.nd rfl (Or.inl rfl) (zf2 (cd_sum rfl) rfl z_sum PyProof.Rows.boot_sum (za1 (zs9 (zo6 (tn:=["_law_row"]) (fr:=[]) (idx:=[]) rfl rfl trivial (zp6 0) (zn7 (za0 (pv 7))) (fun s H C fp=>(zi4 (show List.Nodup (["_law_row"]:List Str) by decide +kernel) rfl (Or.inl rfl))) (fun s H C fp=>zr3) (fun s H C fp=>(zg7 ix_ok (za0 (pv 0)) za6)))) za4))) (za5 (zc2 (i:=11) sc_law.nd rfl (Or.inl rfl) (zs3 za4)) (za5 (zp8 PassesOwn.never rfl (zn7 (za0 (pv 7))) (zi4 sc_law.nd rfl (Or.inl rfl)) (zb0 (zc2 (i:=11) sc_law.nd rfl (Or.inl rfl) (zb3 zc3 (za0 (pv 11)) (zg7 ix_ok (za0 (pv 12)) za6))))) (za5 (zc2 (i:=11) sc_law.nd rfl (Or.inl rfl) (zs9 (zE3 rfl rfl z_sorted rfl z_set (za1 (za0 (pv 11)) za4)))) (zb0 (zL2 (pv 4) (zr4 (za1 (za0 (pv 10)) (za1 (za0 (pv 5)) za4))))))))) zh9) (zb0 (zm6 (pdt_w (zQ4 (zh2 (zH9 hr.units) (zc0 h_points_by_words (hr.mono (by decide)) (za1 (za0 (pv 3)) (za1 (za0 (pv 6)) za4)) (za2 (za2 zb4))) (za0 (pv 10)) (zj1 _)) (zE2 (zh2 (zH9 hr.units) (zc0 h_places_by_words (hr.mono (by decide)) (za1 (za0 (pv 3)) (za1 (za0 (pv 6)) za4)) (za2 (za2 zb4))) (za0 (pv 11)) (zj1 _))))) (zb0 (ze4 pde_bl)) zh9)))))))))) (pdss_frz (za5 (zc2 (i:=4) sc_law.nd rfl (Or.inl rfl) (zc0 h__law_sorted (hr.mono (by decide)) (za1 (za0 (pv 1)) (za1 (za0 (pv 4)) za4)) (za2 (za2 zb4)))) (za5 (zc2 (i:=13) sc_law.nd rfl (Or.inl rfl) (zc0 h__law_drawn (hr.mono (by decide)) (za1 (za0 (pv 0)) (za1 za6 (za1 za6 za4))) (za2 (za2 (za2 zb4))))) (zb0 (ze4 (zL5 (zq0 (zq4 hr.units) (zc0 h_found_by_words (hr.mono (by decide)) (za1 (za0 (pv 1)) (za1 (za0 (pv 3)) (za1 za6 za4))) (za2 (za2 (za2 zb4)))) (za0 (pv 4)) (zj1 _)) (zx5 (zq0 (zq4 hr.units) (zc0 h_found_by_words (hr.mono (by decide)) (za1 (za0 (pv 1)) (za1 (za0 (pv 3)) (za1 (za0 (pv 13)) za4))) (za2 (za2 (za2 zb4)))) (yh4 (za0 (pv 4)) zY4 (zC8 (za0 (pv 13)))) (zj1 _)))))))))))))
end
theorem all_mk {l:PySem.W.OpenLaw} {w:World} {K:PySem.W.Frag} {h:Heap} {mg:Str→Option Value} {fa:Addr} (X:K.In h) (G:h.Ns mainGlobals mg) (hfa:mg "law" = some (.ref fa)) (hl:∀ ns:List Int,ns.length≤63→m_law [.scr ns] = .ok (.bl true))
  {f0 f1 f2 f3 f4 f5 f6 f7 f8 f9 f10 f11 f12 f13 f14 f15 f16 f17 f18 f19 f20 f21 f22 f23 f24 f25 f26 f27 f28 f29 f30 f31 f32 f33:Addr} {od0 an0 od1 an1 od2 an2 od3 an3 od4 an4 od5 an5 od6 an6 od7 an7 od8 an8 od9 an9 od10 an10 od11 an11 od12 an12 od13 an13 od14 an14 od15 an15 od16 an16 od17 an17 od18 an18 od19 an19 od20 an20 od21 an21 od22 an22 od23 an23 od24 an24 od25 an25 od26 an26 od27 an27 od28 an28 od29 an29 od30 an30 od31 an31 od32 an32 od33 an33:Option Addr} {sl0 sl1 sl2 sl3 sl4 sl5 sl6 sl7 sl8 sl9 sl10 sl11 sl12 sl13 sl14 sl15 sl16 sl17 sl18 sl19 sl20 sl21 sl22 sl23 sl24 sl25 sl26 sl27 sl28 sl29 sl30 sl31 sl32 sl33:Array (Option Value)} {oc0 kV0 dc0 pm0 ct0 cd0 oc1 kV1 dc1 pm1 ct1 cd1 oc2 kV2 dc2 pm2 ct2 cd2 oc3 kV3 dc3 pm3 ct3 cd3 oc4 kV4 dc4 pm4 ct4 cd4 oc5 kV5 dc5 pm5 ct5 cd5 oc6 kV6 dc6 pm6 ct6 cd6 oc7 kV7 dc7 pm7 ct7 cd7 oc8 kV8 dc8 pm8 ct8 cd8 oc9 kV9 dc9 pm9 ct9 cd9 oc10 kV10 dc10 pm10 ct10 cd10 oc11 kV11 dc11 pm11 ct11 cd11 oc12 kV12 dc12 pm12 ct12 cd12 oc13 kV13 dc13 pm13 ct13 cd13 oc14 kV14 dc14 pm14 ct14 cd14 oc15 kV15 dc15 pm15 ct15 cd15 oc16 kV16 dc16 pm16 ct16 cd16 oc17 kV17 dc17 pm17 ct17 cd17 oc18 kV18 dc18 pm18 ct18 oc19 kV19 dc19 pm19 ct19 cd19 oc20 kV20 dc20 pm20 ct20 cd20 oc21 kV21 dc21 pm21 ct21 cd21 oc22 kV22 dc22 pm22 ct22 cd22 oc23 kV23 dc23 pm23 ct23 cd23 oc24 kV24 dc24 pm24 ct24 cd24 oc25 kV25 dc25 pm25 ct25 cd25 oc26 kV26 dc26 pm26 ct26 cd26 oc27 kV27 dc27 pm27 ct27 cd27 oc28 kV28 dc28 pm28 ct28 cd28 oc29 kV29 dc29 pm29 ct29 cd29 oc30 kV30 dc30 pm30 ct30 cd30 oc31 kV31 dc31 pm31 ct31 cd31 oc32 kV32 dc32 pm32 ct32 cd32 oc33 kV33 dc33 pm33 ct33 cd33:Value} {t_SMALL t_FIGURES t_GREAT t_AT_GREAT t_MARKS t_BEHIND_MARK t_AT_BEGINNING t_EACH_PLACE t_SAME_SIGN t_MOST_BETWEEN t_BESIDE t_MOST_AHEAD:Tok}
  {cc18:Addr}
  (a0:PySem.W.nsIn K mainGlobals "_law_cell" = some (some (.ref f0))) (l0:K.lookup f0 = some ⟨oc0,od0,.func (PySem.W.fnOf "_law_cell" "_law_cell" (ze7 zp0) (zd8 zp0) (za7 zp0) .none kV0 dc0 pm0 an0 cd0 ct0),sl0⟩) (c0:PySem.W.codeIn K cd0 "_law_cell" = true) (k0:PySem.W.keepIn K (.ref f0) = true)
  (a1:PySem.W.nsIn K mainGlobals "_law_drawn" = some (some (.ref f1))) (l1:K.lookup f1 = some ⟨oc1,od1,.func (PySem.W.fnOf "_law_drawn" "_law_drawn" (ze7 zn5) (zd8 zn5) (za7 zn5) .none kV1 dc1 pm1 an1 cd1 ct1),sl1⟩) (c1:PySem.W.codeIn K cd1 "_law_drawn" = true) (k1:PySem.W.keepIn K (.ref f1) = true)
  (a2:PySem.W.nsIn K mainGlobals "_law_name" = some (some (.ref f2))) (l2:K.lookup f2 = some ⟨oc2,od2,.func (PySem.W.fnOf "_law_name" "_law_name" (ze7 zo8) (zd8 zo8) (za7 zo8) .none kV2 dc2 pm2 an2 cd2 ct2),sl2⟩) (c2:PySem.W.codeIn K cd2 "_law_name" = true) (k2:PySem.W.keepIn K (.ref f2) = true)
  (a3:PySem.W.nsIn K mainGlobals "_law_names" = some (some (.ref f3))) (l3:K.lookup f3 = some ⟨oc3,od3,.func (PySem.W.fnOf "_law_names" "_law_names" (ze7 zn3) (zd8 zn3) (za7 zn3) .none kV3 dc3 pm3 an3 cd3 ct3),sl3⟩) (c3:PySem.W.codeIn K cd3 "_law_names" = true) (k3:PySem.W.keepIn K (.ref f3) = true)
  (a4:PySem.W.nsIn K mainGlobals "_law_mark" = some (some (.ref f4))) (l4:K.lookup f4 = some ⟨oc4,od4,.func (PySem.W.fnOf "_law_mark" "_law_mark" (ze7 zo9) (zd8 zo9) (za7 zo9) .none kV4 dc4 pm4 an4 cd4 ct4),sl4⟩) (c4:PySem.W.codeIn K cd4 "_law_mark" = true) (k4:PySem.W.keepIn K (.ref f4) = true)
  (a5:PySem.W.nsIn K mainGlobals "_law_query" = some (some (.ref f5))) (l5:K.lookup f5 = some ⟨oc5,od5,.func (PySem.W.fnOf "_law_query" "_law_query" (ze7 zn2) (zd8 zn2) (za7 zn2) .none kV5 dc5 pm5 an5 cd5 ct5),sl5⟩) (c5:PySem.W.codeIn K cd5 "_law_query" = true) (k5:PySem.W.keepIn K (.ref f5) = true)
  (a6:PySem.W.nsIn K mainGlobals "_law_words" = some (some (.ref f6))) (l6:K.lookup f6 = some ⟨oc6,od6,.func (PySem.W.fnOf "_law_words" "_law_words" (ze7 zn1) (zd8 zn1) (za7 zn1) .none kV6 dc6 pm6 an6 cd6 ct6),sl6⟩) (c6:PySem.W.codeIn K cd6 "_law_words" = true) (k6:PySem.W.keepIn K (.ref f6) = true)
  (a7:PySem.W.nsIn K mainGlobals "_law_sorted" = some (some (.ref f7))) (l7:K.lookup f7 = some ⟨oc7,od7,.func (PySem.W.fnOf "_law_sorted" "_law_sorted" (ze7 zm2) (zd8 zm2) (za7 zm2) .none kV7 dc7 pm7 an7 cd7 ct7),sl7⟩) (c7:PySem.W.codeIn K cd7 "_law_sorted" = true) (k7:PySem.W.keepIn K (.ref f7) = true)
  (a8:PySem.W.nsIn K mainGlobals "meets" = some (some (.ref f8))) (l8:K.lookup f8 = some ⟨oc8,od8,.func (PySem.W.fnOf "meets" "meets" (ze7 zx4) (zd8 zx4) (za7 zx4) .none kV8 dc8 pm8 an8 cd8 ct8),sl8⟩) (c8:PySem.W.codeIn K cd8 "meets" = true) (k8:PySem.W.keepIn K (.ref f8) = true)
  (a9:PySem.W.nsIn K mainGlobals "earliest_places" = some (some (.ref f9))) (l9:K.lookup f9 = some ⟨oc9,od9,.func (PySem.W.fnOf "earliest_places" "earliest_places" (ze7 zi9) (zd8 zi9) (za7 zi9) .none kV9 dc9 pm9 an9 cd9 ct9),sl9⟩) (c9:PySem.W.codeIn K cd9 "earliest_places" = true) (k9:PySem.W.keepIn K (.ref f9) = true)
  (a10:PySem.W.nsIn K mainGlobals "fits" = some (some (.ref f10))) (l10:K.lookup f10 = some ⟨oc10,od10,.func (PySem.W.fnOf "fits" "fits" (ze7 zD9) (zd8 zD9) (za7 zD9) .none kV10 dc10 pm10 an10 cd10 ct10),sl10⟩) (c10:PySem.W.codeIn K cd10 "fits" = true) (k10:PySem.W.keepIn K (.ref f10) = true)
  (a11:PySem.W.nsIn K mainGlobals "words_of" = some (some (.ref f11))) (l11:K.lookup f11 = some ⟨oc11,od11,.func (PySem.W.fnOf "words_of" "words_of" (ze7 zq5) (zd8 zq5) (za7 zq5) .none kV11 dc11 pm11 an11 cd11 ct11),sl11⟩) (c11:PySem.W.codeIn K cd11 "words_of" = true) (k11:PySem.W.keepIn K (.ref f11) = true)
  (a12:PySem.W.nsIn K mainGlobals "fit_words" = some (some (.ref f12))) (l12:K.lookup f12 = some ⟨oc12,od12,.func (PySem.W.fnOf "fit_words" "fit_words" (ze7 zo7) (zd8 zo7) (za7 zo7) .none kV12 dc12 pm12 an12 cd12 ct12),sl12⟩) (c12:PySem.W.codeIn K cd12 "fit_words" = true) (k12:PySem.W.keepIn K (.ref f12) = true)
  (a13:PySem.W.nsIn K mainGlobals "_law_meets" = some (some (.ref f13))) (l13:K.lookup f13 = some ⟨oc13,od13,.func (PySem.W.fnOf "_law_meets" "_law_meets" (ze7 zn4) (zd8 zn4) (za7 zn4) .none kV13 dc13 pm13 an13 cd13 ct13),sl13⟩) (c13:PySem.W.codeIn K cd13 "_law_meets" = true) (k13:PySem.W.keepIn K (.ref f13) = true)
  (a14:PySem.W.nsIn K mainGlobals "_law_layings" = some (some (.ref f14))) (l14:K.lookup f14 = some ⟨oc14,od14,.func (PySem.W.fnOf "_law_layings" "_law_layings" (ze7 zl2) (zd8 zl2) (za7 zl2) .none kV14 dc14 pm14 an14 cd14 ct14),sl14⟩) (c14:PySem.W.codeIn K cd14 "_law_layings" = true) (k14:PySem.W.keepIn K (.ref f14) = true)
  (a15:PySem.W.nsIn K mainGlobals "_law_alone" = some (some (.ref f15))) (l15:K.lookup f15 = some ⟨oc15,od15,.func (PySem.W.fnOf "_law_alone" "_law_alone" (ze7 zn6) (zd8 zn6) (za7 zn6) .none kV15 dc15 pm15 an15 cd15 ct15),sl15⟩) (c15:PySem.W.codeIn K cd15 "_law_alone" = true) (k15:PySem.W.keepIn K (.ref f15) = true)
  (a16:PySem.W.nsIn K mainGlobals "_law_points" = some (some (.ref f16))) (l16:K.lookup f16 = some ⟨oc16,od16,.func (PySem.W.fnOf "_law_points" "_law_points" (ze7 zm3) (zd8 zm3) (za7 zm3) .none kV16 dc16 pm16 an16 cd16 ct16),sl16⟩) (c16:PySem.W.codeIn K cd16 "_law_points" = true) (k16:PySem.W.keepIn K (.ref f16) = true)
  (a17:PySem.W.nsIn K mainGlobals "_law_best" = some (some (.ref f17))) (l17:K.lookup f17 = some ⟨oc17,od17,.func (PySem.W.fnOf "_law_best" "_law_best" (ze7 zp1) (zd8 zp1) (za7 zp1) .none kV17 dc17 pm17 an17 cd17 ct17),sl17⟩) (c17:PySem.W.codeIn K cd17 "_law_best" = true) (k17:PySem.W.keepIn K (.ref f17) = true)
  (a18:PySem.W.nsIn K mainGlobals "in_order" = some (some (.ref f18))) (l18:K.lookup f18 = some ⟨oc18,od18,.func (PySem.W.fnOf "in_order" "in_order" (ze7 zs1) (zd8 zs1) (za7 zs1) .none kV18 dc18 pm18 an18 (.ref cc18) ct18),sl18⟩) (c18:PySem.W.codeIn K (.ref cc18) "in_order" = true) (k18:PySem.W.keepIn K (.ref f18) = true) (tb18:PySem.W.codeHdIn K cc18 94 = true)
  (a19:PySem.W.nsIn K mainGlobals "first_rows" = some (some (.ref f19))) (l19:K.lookup f19 = some ⟨oc19,od19,.func (PySem.W.fnOf "first_rows" "first_rows" (ze7 zn0) (zd8 zn0) (za7 zn0) .none kV19 dc19 pm19 an19 cd19 ct19),sl19⟩) (c19:PySem.W.codeIn K cd19 "first_rows" = true) (k19:PySem.W.keepIn K (.ref f19) = true)
  (a20:PySem.W.nsIn K mainGlobals "beginning_points" = some (some (.ref f20))) (l20:K.lookup f20 = some ⟨oc20,od20,.func (PySem.W.fnOf "beginning_points" "beginning_points" (ze7 zh8) (zd8 zh8) (za7 zh8) .none kV20 dc20 pm20 an20 cd20 ct20),sl20⟩) (c20:PySem.W.codeIn K cd20 "beginning_points" = true) (k20:PySem.W.keepIn K (.ref f20) = true)
  (a21:PySem.W.nsIn K mainGlobals "own_points" = some (some (.ref f21))) (l21:K.lookup f21 = some ⟨oc21,od21,.func (PySem.W.fnOf "own_points" "own_points" (ze7 zm9) (zd8 zm9) (za7 zm9) .none kV21 dc21 pm21 an21 cd21 ct21),sl21⟩) (c21:PySem.W.codeIn K cd21 "own_points" = true) (k21:PySem.W.keepIn K (.ref f21) = true)
  (a22:PySem.W.nsIn K mainGlobals "last_sign_tails" = some (some (.ref f22))) (l22:K.lookup f22 = some ⟨oc22,od22,.func (PySem.W.fnOf "last_sign_tails" "last_sign_tails" (ze7 zi8) (zd8 zi8) (za7 zi8) .none kV22 dc22 pm22 an22 cd22 ct22),sl22⟩) (c22:PySem.W.codeIn K cd22 "last_sign_tails" = true) (k22:PySem.W.keepIn K (.ref f22) = true)
  (a23:PySem.W.nsIn K mainGlobals "first_of_most" = some (some (.ref f23))) (l23:K.lookup f23 = some ⟨oc23,od23,.func (PySem.W.fnOf "first_of_most" "first_of_most" (ze7 zk4) (zd8 zk4) (za7 zk4) .none kV23 dc23 pm23 an23 cd23 ct23),sl23⟩) (c23:PySem.W.codeIn K cd23 "first_of_most" = true) (k23:PySem.W.keepIn K (.ref f23) = true)
  (a24:PySem.W.nsIn K mainGlobals "link_points" = some (some (.ref f24))) (l24:K.lookup f24 = some ⟨oc24,od24,.func (PySem.W.fnOf "link_points" "link_points" (ze7 zm0) (zd8 zm0) (za7 zm0) .none kV24 dc24 pm24 an24 cd24 ct24),sl24⟩) (c24:PySem.W.codeIn K cd24 "link_points" = true) (k24:PySem.W.keepIn K (.ref f24) = true)
  (a25:PySem.W.nsIn K mainGlobals "linked_tails" = some (some (.ref f25))) (l25:K.lookup f25 = some ⟨oc25,od25,.func (PySem.W.fnOf "linked_tails" "linked_tails" (ze7 zl1) (zd8 zl1) (za7 zl1) .none kV25 dc25 pm25 an25 cd25 ct25),sl25⟩) (c25:PySem.W.codeIn K cd25 "linked_tails" = true) (k25:PySem.W.keepIn K (.ref f25) = true)
  (a26:PySem.W.nsIn K mainGlobals "longer_tails" = some (some (.ref f26))) (l26:K.lookup f26 = some ⟨oc26,od26,.func (PySem.W.fnOf "longer_tails" "longer_tails" (ze7 zl0) (zd8 zl0) (za7 zl0) .none kV26 dc26 pm26 an26 cd26 ct26),sl26⟩) (c26:PySem.W.codeIn K cd26 "longer_tails" = true) (k26:PySem.W.keepIn K (.ref f26) = true)
  (a27:PySem.W.nsIn K mainGlobals "lead_points" = some (some (.ref f27))) (l27:K.lookup f27 = some ⟨oc27,od27,.func (PySem.W.fnOf "lead_points" "lead_points" (ze7 zm1) (zd8 zm1) (za7 zm1) .none kV27 dc27 pm27 an27 cd27 ct27),sl27⟩) (c27:PySem.W.codeIn K cd27 "lead_points" = true) (k27:PySem.W.keepIn K (.ref f27) = true)
  (a28:PySem.W.nsIn K mainGlobals "best" = some (some (.ref f28))) (l28:K.lookup f28 = some ⟨oc28,od28,.func (PySem.W.fnOf "best" "best" (ze7 zE0) (zd8 zE0) (za7 zE0) .none kV28 dc28 pm28 an28 cd28 ct28),sl28⟩) (c28:PySem.W.codeIn K cd28 "best" = true) (k28:PySem.W.keepIn K (.ref f28) = true)
  (a29:PySem.W.nsIn K mainGlobals "best_by_words" = some (some (.ref f29))) (l29:K.lookup f29 = some ⟨oc29,od29,.func (PySem.W.fnOf "best_by_words" "best_by_words" (ze7 zk5) (zd8 zk5) (za7 zk5) .none kV29 dc29 pm29 an29 cd29 ct29),sl29⟩) (c29:PySem.W.codeIn K cd29 "best_by_words" = true) (k29:PySem.W.keepIn K (.ref f29) = true)
  (a30:PySem.W.nsIn K mainGlobals "points_by_words" = some (some (.ref f30))) (l30:K.lookup f30 = some ⟨oc30,od30,.func (PySem.W.fnOf "points_by_words" "points_by_words" (ze7 zi6) (zd8 zi6) (za7 zi6) .none kV30 dc30 pm30 an30 cd30 ct30),sl30⟩) (c30:PySem.W.codeIn K cd30 "points_by_words" = true) (k30:PySem.W.keepIn K (.ref f30) = true)
  (a31:PySem.W.nsIn K mainGlobals "found_by_words" = some (some (.ref f31))) (l31:K.lookup f31 = some ⟨oc31,od31,.func (PySem.W.fnOf "found_by_words" "found_by_words" (ze7 zj6) (zd8 zj6) (za7 zj6) .none kV31 dc31 pm31 an31 cd31 ct31),sl31⟩) (c31:PySem.W.codeIn K cd31 "found_by_words" = true) (k31:PySem.W.keepIn K (.ref f31) = true)
  (a32:PySem.W.nsIn K mainGlobals "places_by_words" = some (some (.ref f32))) (l32:K.lookup f32 = some ⟨oc32,od32,.func (PySem.W.fnOf "places_by_words" "places_by_words" (ze7 zi7) (zd8 zi7) (za7 zi7) .none kV32 dc32 pm32 an32 cd32 ct32),sl32⟩) (c32:PySem.W.codeIn K cd32 "places_by_words" = true) (k32:PySem.W.keepIn K (.ref f32) = true)
  (a33:PySem.W.nsIn K mainGlobals "law" = some (some (.ref f33))) (l33:K.lookup f33 = some ⟨oc33,od33,.func (PySem.W.fnOf "law" "law" (ze7 s_law) (zd8 s_law) (za7 s_law) .none kV33 dc33 pm33 an33 cd33 ct33),sl33⟩) (c33:PySem.W.codeIn K cd33 "law" = true) (k33:PySem.W.keepIn K (.ref f33) = true)
  (g_SMALL:PySem.W.nsIn K mainGlobals "SMALL" = some (some (.str "abcdefghijklmnopqrstuvwxyz" t_SMALL)))
  (g_FIGURES:PySem.W.nsIn K mainGlobals "FIGURES" = some (some (.str "0123456789" t_FIGURES)))
  (g_GREAT:PySem.W.nsIn K mainGlobals "GREAT" = some (some (.str "ABCDEFGHIJKLMNOPQRSTUVWXYZ" t_GREAT)))
  (g_AT_GREAT:PySem.W.nsIn K mainGlobals "AT_GREAT" = some (some (.int 5 t_AT_GREAT)))
  (g_MARKS:PySem.W.nsIn K mainGlobals "MARKS" = some (some (.str "_-./" t_MARKS)))
  (g_BEHIND_MARK:PySem.W.nsIn K mainGlobals "BEHIND_MARK" = some (some (.int 6 t_BEHIND_MARK)))
  (g_AT_BEGINNING:PySem.W.nsIn K mainGlobals "AT_BEGINNING" = some (some (.int 8 t_AT_BEGINNING)))
  (g_EACH_PLACE:PySem.W.nsIn K mainGlobals "EACH_PLACE" = some (some (.int 10 t_EACH_PLACE)))
  (g_SAME_SIGN:PySem.W.nsIn K mainGlobals "SAME_SIGN" = some (some (.int 1 t_SAME_SIGN)))
  (g_MOST_BETWEEN:PySem.W.nsIn K mainGlobals "MOST_BETWEEN" = some (some (.int 5 t_MOST_BETWEEN)))
  (g_BESIDE:PySem.W.nsIn K mainGlobals "BESIDE" = some (some (.int 7 t_BESIDE)))
  (g_MOST_AHEAD:PySem.W.nsIn K mainGlobals "MOST_AHEAD" = some (some (.int 3 t_MOST_AHEAD)))
  (z_len:PySem.W.nsIn K mainGlobals "len" = some none)
  (z_range:PySem.W.nsIn K mainGlobals "range" = some none)
  (z_min:PySem.W.nsIn K mainGlobals "min" = some none)
  (z_sorted:PySem.W.nsIn K mainGlobals "sorted" = some none)
  (z_all:PySem.W.nsIn K mainGlobals "all" = some none)
  (z_int:PySem.W.nsIn K mainGlobals "int" = some none)
  (z_enumerate:PySem.W.nsIn K mainGlobals "enumerate" = some none)
  (z_max:PySem.W.nsIn K mainGlobals "max" = some none)
  (z_sum:PySem.W.nsIn K mainGlobals "sum" = some none)
  (z_set:PySem.W.nsIn K mainGlobals "set" = some none)
  (z_bool:PySem.W.nsIn K mainGlobals "bool" = some none)
  (z_isinstance:PySem.W.nsIn K mainGlobals "isinstance" = some none)
  : TabsIn K∧∃ fd:FuncData,(∀ (s:Shared) (v:Value),BindsTo s fd ⟨[v],[]⟩ [("_law_script", v)])∧∀ base:Heap,K.In base→base.Ns mainGlobals mg→BM mg base→FnOk l.prog w K mg base CX0 8 fa fd ["_law_script"] (spLaw K):=by
 have e:=hfa.symm.trans (PySem.W.mg_of X G a33)
 cases e
 refine ⟨fun r hr=>?_,?_⟩
 ·rcases hr with _ | ⟨_,hr⟩
  ·exact ⟨_,tb18⟩
  ·cases hr
 have D0:DefAt K mg "_law_cell" zp0 f0 _:=⟨zj9 (st:=zp0) l0 c0 k0,PySem.W.mg_of X G a0⟩
 have D1:DefAt K mg "_law_drawn" zn5 f1 _:=⟨zj9 (st:=zn5) l1 c1 k1,PySem.W.mg_of X G a1⟩
 have D2:DefAt K mg "_law_name" zo8 f2 _:=⟨zj9 (st:=zo8) l2 c2 k2,PySem.W.mg_of X G a2⟩
 have D3:DefAt K mg "_law_names" zn3 f3 _:=⟨zj9 (st:=zn3) l3 c3 k3,PySem.W.mg_of X G a3⟩
 have D4:DefAt K mg "_law_mark" zo9 f4 _:=⟨zj9 (st:=zo9) l4 c4 k4,PySem.W.mg_of X G a4⟩
 have D5:DefAt K mg "_law_query" zn2 f5 _:=⟨zj9 (st:=zn2) l5 c5 k5,PySem.W.mg_of X G a5⟩
 have D6:DefAt K mg "_law_words" zn1 f6 _:=⟨zj9 (st:=zn1) l6 c6 k6,PySem.W.mg_of X G a6⟩
 have D7:DefAt K mg "_law_sorted" zm2 f7 _:=⟨zj9 (st:=zm2) l7 c7 k7,PySem.W.mg_of X G a7⟩
 have D8:DefAt K mg "meets" zx4 f8 _:=⟨zj9 (st:=zx4) l8 c8 k8,PySem.W.mg_of X G a8⟩
 have D9:DefAt K mg "earliest_places" zi9 f9 _:=⟨zj9 (st:=zi9) l9 c9 k9,PySem.W.mg_of X G a9⟩
 have D10:DefAt K mg "fits" zD9 f10 _:=⟨zj9 (st:=zD9) l10 c10 k10,PySem.W.mg_of X G a10⟩
 have D11:DefAt K mg "words_of" zq5 f11 _:=⟨zj9 (st:=zq5) l11 c11 k11,PySem.W.mg_of X G a11⟩
 have D12:DefAt K mg "fit_words" zo7 f12 _:=⟨zj9 (st:=zo7) l12 c12 k12,PySem.W.mg_of X G a12⟩
 have D13:DefAt K mg "_law_meets" zn4 f13 _:=⟨zj9 (st:=zn4) l13 c13 k13,PySem.W.mg_of X G a13⟩
 have D14:DefAt K mg "_law_layings" zl2 f14 _:=⟨zj9 (st:=zl2) l14 c14 k14,PySem.W.mg_of X G a14⟩
 have D15:DefAt K mg "_law_alone" zn6 f15 _:=⟨zj9 (st:=zn6) l15 c15 k15,PySem.W.mg_of X G a15⟩
 have D16:DefAt K mg "_law_points" zm3 f16 _:=⟨zj9 (st:=zm3) l16 c16 k16,PySem.W.mg_of X G a16⟩
 have D17:DefAt K mg "_law_best" zp1 f17 _:=⟨zj9 (st:=zp1) l17 c17 k17,PySem.W.mg_of X G a17⟩
 have D18:yo9 K mg "in_order" zs1 f18 cc18 94:=⟨⟨_,_,_,_,_,_,_,_,l18⟩,c18,k18,PySem.W.mg_of X G a18,tb18⟩
 have D19:DefAt K mg "first_rows" zn0 f19 _:=⟨zj9 (st:=zn0) l19 c19 k19,PySem.W.mg_of X G a19⟩
 have D20:DefAt K mg "beginning_points" zh8 f20 _:=⟨zj9 (st:=zh8) l20 c20 k20,PySem.W.mg_of X G a20⟩
 have D21:DefAt K mg "own_points" zm9 f21 _:=⟨zj9 (st:=zm9) l21 c21 k21,PySem.W.mg_of X G a21⟩
 have D22:DefAt K mg "last_sign_tails" zi8 f22 _:=⟨zj9 (st:=zi8) l22 c22 k22,PySem.W.mg_of X G a22⟩
 have D23:DefAt K mg "first_of_most" zk4 f23 _:=⟨zj9 (st:=zk4) l23 c23 k23,PySem.W.mg_of X G a23⟩
 have D24:DefAt K mg "link_points" zm0 f24 _:=⟨zj9 (st:=zm0) l24 c24 k24,PySem.W.mg_of X G a24⟩
 have D25:DefAt K mg "linked_tails" zl1 f25 _:=⟨zj9 (st:=zl1) l25 c25 k25,PySem.W.mg_of X G a25⟩
 have D26:DefAt K mg "longer_tails" zl0 f26 _:=⟨zj9 (st:=zl0) l26 c26 k26,PySem.W.mg_of X G a26⟩
 have D27:DefAt K mg "lead_points" zm1 f27 _:=⟨zj9 (st:=zm1) l27 c27 k27,PySem.W.mg_of X G a27⟩
 have D28:DefAt K mg "best" zE0 f28 _:=⟨zj9 (st:=zE0) l28 c28 k28,PySem.W.mg_of X G a28⟩
 have D29:DefAt K mg "best_by_words" zk5 f29 _:=⟨zj9 (st:=zk5) l29 c29 k29,PySem.W.mg_of X G a29⟩
 have D30:DefAt K mg "points_by_words" zi6 f30 _:=⟨zj9 (st:=zi6) l30 c30 k30,PySem.W.mg_of X G a30⟩
 have D31:DefAt K mg "found_by_words" zj6 f31 _:=⟨zj9 (st:=zj6) l31 c31 k31,PySem.W.mg_of X G a31⟩
 have D32:DefAt K mg "places_by_words" zi7 f32 _:=⟨zj9 (st:=zi7) l32 c32 k32,PySem.W.mg_of X G a32⟩
 refine ⟨PySem.W.fnOf "law" "law" (ze7 s_law) (zd8 s_law) (za7 s_law) .none kV33 dc33 pm33 an33 cd33 ct33,fun s v=>.of_eq rfl,fun base _ _ bm=>?_⟩
 have h__law_cell:DefOk l.prog w K mg base "_law_cell" 1 2 ["_law_script", "_law_k"] zq7:=zR1 D0 (PySem.W.mg_none_of X G z_len)
 have h__law_drawn:DefOk l.prog w K mg base "_law_drawn" 2 3 ["_law_script", "_law_k", "_law_many"] za8:=zM4 D1 h__law_cell
 have h__law_name:DefOk l.prog w K mg base "_law_name" 3 2 ["_law_script", "_law_at"] zo2:=zQ9 D2 h__law_drawn (PySem.W.mg_none_of X G z_range)
 have h__law_names:DefOk l.prog w K mg base "_law_names" 4 3 ["_law_script", "_law_at", "_law_most"] zo1:=zM2 D3 h__law_drawn h__law_name (PySem.W.mg_none_of X G z_len) (PySem.W.mg_none_of X G z_range)
 have h__law_mark:DefOk l.prog w K mg base "_law_mark" 1 1 ["_law_sign"] zo3:=zR0 D4
 have h__law_query:DefOk l.prog w K mg base "_law_query" 3 4 ["_law_script", "_law_at", "_law_name_here", "_law_most"] zl7:=zM1 D5 h__law_drawn h__law_mark (PySem.W.mg_none_of X G z_range) (PySem.W.mg_none_of X G z_len) (PySem.W.mg_none_of X G z_min)
 have h__law_words:DefOk l.prog w K mg base "_law_words" 4 3 ["_law_script", "_law_at", "_law_names_here"] zo0:=zM0 D6 h__law_drawn h__law_query (PySem.W.mg_none_of X G z_range) (PySem.W.mg_none_of X G z_len)
 have h__law_sorted:DefOk l.prog w K mg base "_law_sorted" 1 2 ["_law_names_here", "_law_rows"] zk8:=zH1 D7 (PySem.W.mg_none_of X G z_len) (PySem.W.mg_none_of X G z_sorted)
 have h_meets:DefOk l.prog w K mg base "meets" 1 2 ["sign", "other"] zq1:=ok_meets D8 (PySem.W.mg_of X G g_SMALL)
 have h_earliest_places:DefOk l.prog w K mg base "earliest_places" 2 2 ["query", "name"] zk3:=zz2 D9 h_meets (PySem.W.mg_none_of X G z_len) (PySem.W.mg_none_of X G z_range)
 have h_fits:DefOk l.prog w K mg base "fits" 3 2 ["query", "name"] zF1:=ok_fits D10 h_earliest_places (PySem.W.mg_none_of X G z_len)
 have h_words_of:DefOk l.prog w K mg base "words_of" 1 1 ["text"] zm7:=zV0 D11
 have h_fit_words:DefOk l.prog w K mg base "fit_words" 4 2 ["text", "name"] zj7:=zQ8 D12 h_words_of h_fits (PySem.W.mg_none_of X G z_all)
 have h__law_meets:DefOk l.prog w K mg base "_law_meets" 1 2 ["_law_typed", "_law_sign"] zl8:=zM3 D13
 have h__law_layings:DefOk l.prog w K mg base "_law_layings" 2 2 ["_law_query_here", "_law_name_here"] zk2:=zE9 D14 h__law_meets (PySem.W.mg_none_of X G z_len) (PySem.W.mg_none_of X G z_range)
 have h__law_alone:DefOk l.prog w K mg base "_law_alone" 1 3 ["_law_typed", "_law_name_here", "_law_place"] zl9:=zM5 D15 (PySem.W.mg_none_of X G z_int)
 have h__law_points:DefOk l.prog w K mg base "_law_points" 2 3 ["_law_query_here", "_law_name_here", "_law_laying"] zk9:=zH2 D16 h__law_alone (PySem.W.mg_none_of X G z_enumerate) (PySem.W.mg_none_of X G z_min)
 have h__law_best:DefOk l.prog w K mg base "_law_best" 3 2 ["_law_query_here", "_law_name_here"] zp3:=zR2 D17 h__law_layings h__law_points
 have h_in_order:DefOk l.prog w K mg base "in_order" 4 2 ["names", "rows"] zp4:=zV1 D18 bm (PySem.W.mg_none_of X G z_len) (PySem.W.mg_none_of X G z_sorted)
 have h_first_rows:DefOk l.prog w K mg base "first_rows" 5 3 ["names", "rows", "many"] zn9:=zL9 D19 h_in_order (PySem.W.mg_none_of X G z_max)
 have h_beginning_points:DefOk l.prog w K mg base "beginning_points" 1 2 ["name", "place"] zj4:=zx6 D20 (PySem.W.mg_of X G g_FIGURES) (PySem.W.mg_of X G g_SMALL) (PySem.W.mg_of X G g_GREAT) (PySem.W.mg_of X G g_AT_GREAT) (PySem.W.mg_of X G g_MARKS) (PySem.W.mg_of X G g_BEHIND_MARK) (PySem.W.mg_of X G g_AT_BEGINNING)
 have h_own_points:DefOk l.prog w K mg base "own_points" 2 3 ["sign", "name", "place"] zj2:=zL8 D21 h_beginning_points (PySem.W.mg_of X G g_EACH_PLACE) (PySem.W.mg_of X G g_SAME_SIGN)
 have h_last_sign_tails:DefOk l.prog w K mg base "last_sign_tails" 3 2 ["sign", "name"] zh5:=zz1 D22 h_meets h_own_points (PySem.W.mg_none_of X G z_len) (PySem.W.mg_none_of X G z_range)
 have h_first_of_most:DefOk l.prog w K mg base "first_of_most" 1 1 ["tails"] zf6:=zC6 D23
 have h_link_points:DefOk l.prog w K mg base "link_points" 1 2 ["ahead", "place"] zm4:=zG9 D24 (PySem.W.mg_of X G g_MOST_BETWEEN) (PySem.W.mg_of X G g_BESIDE) (PySem.W.mg_none_of X G z_min)
 have h_linked_tails:DefOk l.prog w K mg base "linked_tails" 2 2 ["place", "tails"] zk1:=zE8 D25 h_link_points
 have h_longer_tails:DefOk l.prog w K mg base "longer_tails" 3 3 ["sign", "name", "tails"] zl3:=zE7 D26 h_meets h_own_points h_linked_tails h_first_of_most (PySem.W.mg_none_of X G z_len) (PySem.W.mg_none_of X G z_range)
 have h_lead_points:DefOk l.prog w K mg base "lead_points" 1 1 ["place"] zk7:=zH0 D27 (PySem.W.mg_of X G g_MOST_AHEAD) (PySem.W.mg_none_of X G z_min)
 have h_best:DefOk l.prog w K mg base "best" 4 2 ["query", "name"] zz4:=ok_best D28 h_lead_points h_first_of_most h_longer_tails h_last_sign_tails (PySem.W.mg_none_of X G z_len) (PySem.W.mg_none_of X G z_range)
 have h_best_by_words:DefOk l.prog w K mg base "best_by_words" 5 2 ["text", "name"] zh3:=zC7 D29 h_words_of h_best h_fit_words
 have h_points_by_words:DefOk l.prog w K mg base "points_by_words" 6 2 ["text", "name"] zf8:=zy9 D30 h_best_by_words (PySem.W.mg_none_of X G z_sum)
 have h_found_by_words:DefOk l.prog w K mg base "found_by_words" 7 3 ["names", "text", "many"] zh4:=zA5 D31 h_first_rows h_points_by_words (PySem.W.mg_none_of X G z_enumerate)
 have h_places_by_words:DefOk l.prog w K mg base "places_by_words" 6 2 ["text", "name"] zj0:=zz0 D32 h_best_by_words (PySem.W.mg_none_of X G z_sorted) (PySem.W.mg_none_of X G z_set)
 exact law_fn (ok_law (zj9 (st:=s_law) l33 c33 k33) h_found_by_words h__law_drawn h__law_sorted h_places_by_words h_points_by_words h_fit_words h__law_best h__law_words h__law_names (PySem.W.mg_none_of X G z_enumerate) (PySem.W.mg_none_of X G z_sorted) (PySem.W.mg_none_of X G z_set) (PySem.W.mg_none_of X G z_sum) (PySem.W.mg_none_of X G z_bool) (PySem.W.mg_none_of X G z_isinstance)) hl
end Law
open PySem PySem.W PyProof.Rows
set_option maxRecDepth 100000 in
set_option maxHeartbeats 0 in
theorem PySem.Challenge.cw_fewfind_k60_words_holds : PySem.Challenge.rw_fewfind_k60_words.Holds := by
 w_on;o_law;k_head;(case hw=>w_witness2)
 k_fill
 refine FD.walkM (l:=PySem.Challenge.rw_fewfind_k60_words) (k:=8) (p := "_law_script") rfl rfl ⟨rfl,by decide,by decide⟩ ?T ?F
 case F=>
  intro w mg fa h KX G hmg
  refine' Law.all_mk KX G hmg Law.main ?a0 ?l0 ?c0 ?k0 ?a1 ?l1 ?c1 ?k1 ?a2 ?l2 ?c2 ?k2 ?a3 ?l3 ?c3 ?k3 ?a4 ?l4 ?c4 ?k4 ?a5 ?l5 ?c5 ?k5 ?a6 ?l6 ?c6 ?k6 ?a7 ?l7 ?c7 ?k7 ?a8 ?l8 ?c8 ?k8 ?a9 ?l9 ?c9 ?k9 ?a10 ?l10 ?c10 ?k10 ?a11 ?l11 ?c11 ?k11 ?a12 ?l12 ?c12 ?k12 ?a13 ?l13 ?c13 ?k13 ?a14 ?l14 ?c14 ?k14 ?a15 ?l15 ?c15 ?k15 ?a16 ?l16 ?c16 ?k16 ?a17 ?l17 ?c17 ?k17 ?a18 ?l18 ?c18 ?k18 ?tb18 ?a19 ?l19 ?c19 ?k19 ?a20 ?l20 ?c20 ?k20 ?a21 ?l21 ?c21 ?k21 ?a22 ?l22 ?c22 ?k22 ?a23 ?l23 ?c23 ?k23 ?a24 ?l24 ?c24 ?k24 ?a25 ?l25 ?c25 ?k25 ?a26 ?l26 ?c26 ?k26 ?a27 ?l27 ?c27 ?k27 ?a28 ?l28 ?c28 ?k28 ?a29 ?l29 ?c29 ?k29 ?a30 ?l30 ?c30 ?k30 ?a31 ?l31 ?c31 ?k31 ?a32 ?l32 ?c32 ?k32 ?a33 ?l33 ?c33 ?k33 ?g_SMALL ?g_FIGURES ?g_GREAT ?g_AT_GREAT ?g_MARKS ?g_BEHIND_MARK ?g_AT_BEGINNING ?g_EACH_PLACE ?g_SAME_SIGN ?g_MOST_BETWEEN ?g_BESIDE ?g_MOST_AHEAD ?z_len ?z_range ?z_min ?z_sorted ?z_all ?z_int ?z_enumerate ?z_max ?z_sum ?z_set ?z_bool ?z_isinstance
  (case a0=>k_is)
  (case l0=>k_is)
  (case c0=>k_is)
  (case k0=>k_is)
  (case a1=>k_is)
  (case l1=>k_is)
  (case c1=>k_is)
  (case k1=>k_is)
  (case a2=>k_is)
  (case l2=>k_is)
  (case c2=>k_is)
  (case k2=>k_is)
  (case a3=>k_is)
  (case l3=>k_is)
  (case c3=>k_is)
  (case k3=>k_is)
  (case a4=>k_is)
  (case l4=>k_is)
  (case c4=>k_is)
  (case k4=>k_is)
  (case a5=>k_is)
  (case l5=>k_is)
  (case c5=>k_is)
  (case k5=>k_is)
  (case a6=>k_is)
  (case l6=>k_is)
  (case c6=>k_is)
  (case k6=>k_is)
  (case a7=>k_is)
  (case l7=>k_is)
  (case c7=>k_is)
  (case k7=>k_is)
  (case a8=>k_is)
  (case l8=>k_is)
  (case c8=>k_is)
  (case k8=>k_is)
  (case a9=>k_is)
  (case l9=>k_is)
  (case c9=>k_is)
  (case k9=>k_is)
  (case a10=>k_is)
  (case l10=>k_is)
  (case c10=>k_is)
  (case k10=>k_is)
  (case a11=>k_is)
  (case l11=>k_is)
  (case c11=>k_is)
  (case k11=>k_is)
  (case a12=>k_is)
  (case l12=>k_is)
  (case c12=>k_is)
  (case k12=>k_is)
  (case a13=>k_is)
  (case l13=>k_is)
  (case c13=>k_is)
  (case k13=>k_is)
  (case a14=>k_is)
  (case l14=>k_is)
  (case c14=>k_is)
  (case k14=>k_is)
  (case a15=>k_is)
  (case l15=>k_is)
  (case c15=>k_is)
  (case k15=>k_is)
  (case a16=>k_is)
  (case l16=>k_is)
  (case c16=>k_is)
  (case k16=>k_is)
  (case a17=>k_is)
  (case l17=>k_is)
  (case c17=>k_is)
  (case k17=>k_is)
  (case a18=>k_is)
  (case l18=>k_is)
  (case c18=>k_is)
  (case k18=>k_is)
  (case tb18=>with_unfolding_all rfl)
  (case a19=>k_is)
  (case l19=>k_is)
  (case c19=>k_is)
  (case k19=>k_is)
  (case a20=>k_is)
  (case l20=>k_is)
  (case c20=>k_is)
  (case k20=>k_is)
  (case a21=>k_is)
  (case l21=>k_is)
  (case c21=>k_is)
  (case k21=>k_is)
  (case a22=>k_is)
  (case l22=>k_is)
  (case c22=>k_is)
  (case k22=>k_is)
  (case a23=>k_is)
  (case l23=>k_is)
  (case c23=>k_is)
  (case k23=>k_is)
  (case a24=>k_is)
  (case l24=>k_is)
  (case c24=>k_is)
  (case k24=>k_is)
  (case a25=>k_is)
  (case l25=>k_is)
  (case c25=>k_is)
  (case k25=>k_is)
  (case a26=>k_is)
  (case l26=>k_is)
  (case c26=>k_is)
  (case k26=>k_is)
  (case a27=>k_is)
  (case l27=>k_is)
  (case c27=>k_is)
  (case k27=>k_is)
  (case a28=>k_is)
  (case l28=>k_is)
  (case c28=>k_is)
  (case k28=>k_is)
  (case a29=>k_is)
  (case l29=>k_is)
  (case c29=>k_is)
  (case k29=>k_is)
  (case a30=>k_is)
  (case l30=>k_is)
  (case c30=>k_is)
  (case k30=>k_is)
  (case a31=>k_is)
  (case l31=>k_is)
  (case c31=>k_is)
  (case k31=>k_is)
  (case a32=>k_is)
  (case l32=>k_is)
  (case c32=>k_is)
  (case k32=>k_is)
  (case a33=>k_is)
  (case l33=>k_is)
  (case c33=>k_is)
  (case k33=>k_is)
  (case g_SMALL=>k_is)
  (case g_FIGURES=>k_is)
  (case g_GREAT=>k_is)
  (case g_AT_GREAT=>k_is)
  (case g_MARKS=>k_is)
  (case g_BEHIND_MARK=>k_is)
  (case g_AT_BEGINNING=>k_is)
  (case g_EACH_PLACE=>k_is)
  (case g_SAME_SIGN=>k_is)
  (case g_MOST_BETWEEN=>k_is)
  (case g_BESIDE=>k_is)
  (case g_MOST_AHEAD=>k_is)
  (case z_len=>k_is)
  (case z_range=>k_is)
  (case z_min=>k_is)
  (case z_sorted=>k_is)
  (case z_all=>k_is)
  (case z_int=>k_is)
  (case z_enumerate=>k_is)
  (case z_max=>k_is)
  (case z_sum=>k_is)
  (case z_set=>k_is)
  (case z_bool=>k_is)
  (case z_isinstance=>k_is)
 case T=>decide
